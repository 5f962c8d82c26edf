import PyProof.Rows.All
import Wide.All
import OpenK.AllK
import Wide.FinOn
import Lean
import PyProof.EqAt
import PyProof.EqKinds
import PyProof.TupleCall
import KE.KRevIter
import PyProof.MeetsDictList
import PyProof.AttrMissSeq
import KE.KDictOf
import PySem.Challenge.RW_strandwright_k42_own_points
set_option maxHeartbeats 2000000
set_option Elab.async false
set_option linter.all false
set_option maxRecDepth 100000
set_option genSizeOfSpec false
namespace PySem.W.Fast
def tw7709795018492852280:=0
def tw2691493836258846879:=0
def tw3907978578440838452:=0
def tw15243411703494738973:=0
def tw7709734809309338247:=0
def tw9316755095667239407:=0
def tw6111468258973851425:=0
def tw16203530321311112314:=0
def tw2378137176346463979:=0
def tw16238404283733300912:=0
def tw11387895790920739152:=0
def tw9290607519332677819:=0
def tw5816734315666249445:=0
def tw7138225035350769808:=0
def tw2617678626280156373:=0
def tw6668798878785003648:=0
def tw17924132457186683157:=0
def tw9639786550423584045:=0
def tw9693284170733046920:=0
def tw11854531400336895749:=0
def tw2368653507734115854:=0
def tw2635370381589399904:=0
def tw3737344157570318012:=0
def tw9466381350283097470:=0
def tw8533483872412155912:=0
def tw10227306132891151993:=0
def tw13754948571045613366:=0
def tw4290172864227765740:=0
def tw16510251424276838692:=0
def tw17228134939933441403:=0
def tw13752272295717490223:=0
def tw8212687677213603711:=0
def tw8588935103770345059:=0
def tw11007388346405719988:=0
def tw16120687743862452588:=0
def tw17223173806355000373:=0
def tw7008916060462659841:=0
end PySem.W.Fast
abbrev Aa:=@PySem.wpAny_bind
abbrev Ab:=@PySem.W.Frag
abbrev Ac:=@PySem.wpAny_pure
abbrev Ad:=@PySem.Heap.get?_push_of_some
abbrev Ae:=@decide_eq_false
abbrev Af:=@if_pos
abbrev Ag:=@decide_eq_true
abbrev Ah:=@if_neg
abbrev Ai:=@PyProof.Rows.wpS_pure
abbrev Aj:=@PySem.Heap.lt_size
abbrev Ak:=@PyProof.Rows.wpS_bind
abbrev Al:=@PySem.Heap.get?_push_size
abbrev Am:=@of_decide_eq_true
abbrev An:=@PySem.PassesOwn.never
abbrev Ao:=@PySem.W.mg_none_of
abbrev Ap:=@PySem.F.plainAttrs_list
abbrev Aq:=@PySem.wpAny_holding
abbrev Ar:=@PySem.boot_len
abbrev As:=@PySem.W.kia_one
abbrev At:=@PyProof.Rows.wpS_mono
abbrev Au:=@PySem.F.type_list_append
abbrev Av:=@PySem.F.slot_list_append
abbrev Aw:=@PyProof.Rows.wpS_forRange
abbrev Ax:=@PyProof.Rows.callWith_type1
abbrev Ay:=@PySem.mem_of_lookup
abbrev Az:=@PySem.wpAny_call_entry
abbrev AA:=@PySem.wpAny_newObj_type
abbrev AB:=@PySem.wpAny_dictEntries
abbrev AC:=@PySem.wpAny_mono
abbrev AD:=@PySem.tupleKind_room_in1
abbrev AE:=@PyProof.Rows.boot_abs
abbrev AF:=@Ne.symm
abbrev AG:=@PySem.wpAny_truthy_bool
abbrev AH:=@List.getElem?_replicate
abbrev AI:=@PySem.wpAny_typeNameOfWhole_keyiter
abbrev AJ:=@PySem.wpAny_typeOf
abbrev AK:=@List.ext_getElem?
abbrev AL:=@PyProof.Rows.listItems_at
abbrev AM:=@Nat.lt_of_not_le
abbrev AN:=@List.length_drop
abbrev AO:=@List.getElem_map
abbrev AQ:=@List.getElem?_range
abbrev AR:=@List.any_cons
abbrev AT:=@List.length_set
abbrev AU:=@PySem.wpAny_rule
abbrev AV:=@PySem.wpAny_getItem_str_slice
abbrev AW:=@PySem.wpAny_callSpecial?_slot
abbrev AX:=@Nat.lt_of_succ_lt
abbrev AY:=@List.flatMap_singleton
abbrev AZ:=@PySem.wpAny_notOrdered_dict
abbrev A6:=@List.length_replicate
abbrev A7:=@PyProof.Rows.wpS_modify
abbrev A8:=@Bool.not_eq_true
abbrev A9:=@Array.size_range
abbrev Ba:=@Nat.add_assoc
abbrev Bb:=@List.mem_append_left
abbrev Bc:=@PySem.wpAny_passesOwn
abbrev Bd:=@PySem.wpAny_dictEpoch
abbrev Be:=@List.length_reverse
abbrev Bg:=@List.flatMap_append
abbrev Bh:=@PySem.Heap.SameBut.update
abbrev Bi:=@PyProof.Rows.wpS_get
abbrev Bj:=@Nat.lt_trans
abbrev Bk:=@Nat.sub_add_cancel
abbrev Bl:=@Nat.pos_of_ne_zero
abbrev Bm:=@Nat.lt_of_le_of_ne
abbrev Bo:=@List.zip_cons_cons
abbrev Bp:=@List.filter_append
abbrev Bq:=@List.drop_drop
abbrev Br:=@Array.getElem?_map
abbrev Bs:=@List.getElem?_append_left
abbrev Bt:=@PySem.wpAny_field
abbrev Bu:=@Option.isSome_map
abbrev Bv:=@Nat.lt_succ_of_lt
abbrev Bw:=@Int.toNat_natCast
abbrev Bx:=@Bool.not_eq_true'
abbrev Bz:=@PyProof.Rows.listUpdate_at
abbrev BB:=@List.Pairwise.imp_of_mem
abbrev BC:=@Nat.lt_succ_self
abbrev BD:=@Nat.le_of_not_lt
abbrev BE:=@List.take_length
abbrev BF:=@List.nodup_range
abbrev BG:=@List.getElem_inj
abbrev BH:=@List.ext_getElem
abbrev BI:=@List.all_eq_true
abbrev BJ:=@PySem.call_meets
abbrev BK:=@Nat.lt_or_ge
abbrev BL:=@List.range_succ_eq_map
abbrev BM:=@List.map_nil
abbrev BN:=@Int.zero_add
abbrev BO:=@PySem.Heap.get?_update_other
abbrev BP:=@PySem.wpAny_loadPart'
abbrev BQ:=@PySem.post_val_or_str
abbrev BR:=@PySem.codeAny_builtin
abbrev BS:=@List.nil_append
abbrev BT:=@List.filter_nil
abbrev BU:=@PySem.Heap.get?_update_self
abbrev BV:=@PyProof.Rows.wpS_lift
abbrev BW:=@PySem.sizeLine_eq
abbrev BX:=@Nat.le_refl
abbrev BY:=@List.take_succ
abbrev BZ:=@List.nodup_nil
abbrev B0:=@List.mem_of_mem_take
abbrev B1:=@LawfulBEq.eq_of_beq
abbrev B2:=@List.mem_map_of_mem
abbrev B3:=@List.filterMap_cons
abbrev B4:=@PySem.Heap.get?_update_ne
abbrev B5:=@PySem.wpAny_standAt
abbrev B6:=@PySem.wpAny_newList
abbrev B7:=@PySem.wpAny_Call_Name_kw
abbrev B8:=@PySem.SeqAt.EqAt.str_int
abbrev B9:=@PySem.SeqAt.EqAt.int_str
abbrev Ca:=@List.map_singleton
abbrev Cb:=@List.Nodup.sublist
abbrev Cc:=@Bool.false_eq_true
abbrev Cd:=@Array.toList_range
abbrev Ce:=@PySem.wpAny_pyIter_list
abbrev Cf:=@PySem.Txt.slice_le
abbrev Cg:=@PySem.W.kitx_list
abbrev Ch:=@Nat.sub_self
abbrev Ci:=@Nat.pred_lt_of_lt
abbrev Cj:=@List.getElem?_map
abbrev Ck:=@List.any_map
abbrev Cn:=@PyProof.Rows.slot_tuple_getitem
abbrev Co:=@PySem.wpAny_isInstance
abbrev Cq:=@PySem.wpAny_forIn_list
abbrev Cr:=@Nat.not_le_of_lt
abbrev Cs:=@Nat.min_le_right
abbrev Ct:=@Nat.min_eq_right
abbrev Cu:=@List.zipIdx_cons
abbrev Cw:=@List.perm_middle
abbrev Cy:=@List.drop_length
abbrev Cz:=@PySem.wpAny_execs_nil
abbrev CB:=@PySem.size_of_entries
abbrev CC:=@Option.map_some
abbrev CD:=@List.range_succ
abbrev CF:=@List.of_mem_zip
abbrev CG:=@List.foldl_cons
abbrev CH:=@PySem.wpAny_richCompare_same_room
abbrev CJ:=@PySem.wpAny_listPart
abbrev CK:=@PySem.typeIs_str
abbrev CL:=@PySem.SeqAt.RcNeAt.lists_lengths
abbrev CM:=@List.getElem?_append_right
abbrev CN:=@PySem.Calls.Name_function_global
abbrev CO:=@Bool.false_and
abbrev CP:=@Array.size_map
abbrev CQ:=@PySem.Calls.call_function_entry
abbrev CS:=@PySem.W.mg_of
abbrev CT:=@PySem.F.type_list_extend
abbrev CU:=@PySem.F.slot_list_extend
abbrev CV:=@PySem.F.args_tuple_add_2
abbrev CW:=@List.map_take
abbrev CY:=@List.map_drop
abbrev CZ:=@List.all_cons
abbrev C0:=@Bool.not_true
abbrev C1:=@PySem.F.slot_dict_clear
abbrev C2:=@PySem.F.entry_tuple_add
abbrev C3:=@List.pairwise_singleton
abbrev C4:=@List.pairwise_mergeSort
abbrev C5:=@PySem.W.cellsFrom_some
abbrev C6:=@PySem.F.slot_tuple_add
abbrev C7:=@Nat.zero_add
abbrev C8:=@Nat.le_of_eq
abbrev C9:=@Nat.add_zero
abbrev Db:=@List.drop_eq_nil_of_le
abbrev De:=@PySem.F.sub_dict_dict
abbrev Df:=@PyProof.Rows.boot_min
abbrev Dg:=@PyProof.Rows.boot_any
abbrev Dh:=@List.eq_nil_or_concat
abbrev Di:=@List.concat_eq_append
abbrev Za:=@List.getElem?_eq_getElem
abbrev Ya:=@List.length_map
abbrev Xa:=@List.getElem?_eq_some_iff
abbrev Wa:=@List.mem_of_getElem?
abbrev Va:=@BX
abbrev Qa:=@Option.bind_some
abbrev Yb:=@List.length_append
abbrev Xb:=@List.mem_cons_self
abbrev Wb:=@List.size_toArray
abbrev Vb:=@List.mem_cons_of_mem
abbrev Qb:=@Cj
abbrev Zc:=@List.length_range
abbrev Yc:=@List.mem_map
abbrev Xc:=@List.getD_eq_getElem?_getD
abbrev Wc:=@Nat.lt_of_lt_of_le
abbrev Vc:=@Bool.false_ne_true
abbrev Qc:=@List.mem_singleton
abbrev Zd:=@Option.map_eq_some_iff
abbrev Yd:=@List.mem_cons
abbrev Xd:=@Array.length_toList
abbrev Wd:=@List.map_cons
abbrev Vd:=@List.mem_range
abbrev Qd:=@Nat.le_trans
abbrev Ze:=@Cc
abbrev Ye:=@List.length_cons
abbrev Xe:=@List.map_map
abbrev We:=@Nat.exists_eq_add_one_of_ne_zero
abbrev Ve:=@List.append_assoc
abbrev Qe:=@List.append_nil
abbrev Zf:=@List.mem_append
abbrev Yf:=@List.map_append
abbrev Xf:=@List.length_singleton
abbrev Vf:=@Bool.eq_iff_iff
abbrev Qf:=@List.getElem?_drop
abbrev Zg:=@List.map_congr_left
abbrev Yg:=@Nat.ne_of_lt
abbrev Xg:=@CM
abbrev Wg:=@Bool.and_eq_true
abbrev Vg:=@List.mem_append_right
abbrev Qg:=@List.flatMap_cons
abbrev Zh:=@List.pairwise_append
abbrev Yh:=@List.find?_cons
abbrev Xh:=@Array.getElem?_toList
abbrev Wh:=@Nat.zero_le
abbrev Vh:=@List.pairwise_map
abbrev Qh:=@List.getElem_mem
abbrev Zi:=@List.take_append_drop
abbrev Yi:=@Nat.lt_irrefl
abbrev Xi:=@List.nodup_cons
abbrev Wi:=@List.length_nil
abbrev Vi:=@List.mem_iff_getElem
abbrev Qi:=@Bs
abbrev Zj:=@List.drop_eq_getElem_cons
abbrev Yj:=@Nat.add_le_add_left
abbrev Xj:=@List.length_filter_le
abbrev Wj:=@List.pairwise_cons
abbrev Vj:=@List.getElem?_set
abbrev Qj:=@Array.getElem?_eq_getElem
abbrev Zk:=@List.pairwise_iff_getElem
abbrev Yk:=@List.eq_nil_of_length_eq_zero
abbrev Xk:=@Nat.le_of_lt
abbrev Wk:=@Nat.ne_of_gt
abbrev Vk:=@List.any_eq_true
abbrev Qk:=@Bool.true_and
abbrev Zl:=@List.length_pos_iff
abbrev Yl:=@List.getElem?_set_self
abbrev Xl:=@List.length_take
abbrev Wl:=@List.getElem?_take
abbrev Vl:=@Int.emod_lt_of_pos
abbrev Ql:=@List.getElem?_of_mem
abbrev Zm:=@List.nodup_append
abbrev Ym:=@Int.eq_ofNat_of_zero_le
abbrev Xm:=@Nat.add_sub_cancel'
abbrev Wm:=@Nat.mul_le_mul
abbrev Vm:=@List.filter_cons
abbrev Qm:=@Nat.le_add_right
abbrev Zn:=@Nat.lt_of_le_of_lt
abbrev Yn:=@Nat.min_eq_left
abbrev Xn:=@List.getElem?_eq_none
abbrev Wn:=@Int.emod_nonneg
namespace L2
open PySem PySem.Spec PyProof.Rows
abbrev Key:=Sum Int Str
def mS:Key->Value->Bool
 | .inl k,v=>Value.isInt k v
 | .inr x,v=>Value.isStrOf x v
def G3 (w:World):Key->Int
 | .inl k=>hashInt k
 | .inr x=>hashStr w x
theorem bL:∀{k:Key} {v:Value},mS k v=true->(∃i t,k=Sum.inl i/\v=Value.int i t)∨(∃x t,k=Sum.inr x/\v=Value.str x t)
 | .inl i,v,h=>by
  obtain⟨t,e⟩:=Value.isInt_shape (k:=i) (v:=v) h;exact .inl ⟨i,t,rfl,e⟩
 | .inr x,v,h=>by
  obtain⟨t,e⟩:=Value.isStrOf_shape (x:=x) (v:=v) h;exact .inr ⟨x,t,rfl,e⟩
theorem tI (i:Int) (t:Tok):mS (.inl i) (.int i t)=true:=by simp[mS,Value.isInt]
theorem tJ (x:Str) (t:Tok):mS (.inr x) (.str x t)=true:=by simp[mS,Value.isStrOf]
theorem Dp (a b:Int):decide ((Sum.inl a:Key)=Sum.inl b)=(a == b):=by
 by_cases e:a=b
 ·subst e;simp
 ·have h:¬ (Sum.inl a:Key)=Sum.inl b:=fun q=>e (Sum.inl.inj q);rw[Ae h];exact(beq_eq_false_iff_ne.mpr e).symm
theorem Dq (a b:Str):decide ((Sum.inr a:Key)=Sum.inr b)=decide (a=b):=by
 by_cases e:a=b
 ·subst e;simp
 ·have h:¬ (Sum.inr a:Key)=Sum.inr b:=fun q=>e (Sum.inr.inj q);rw[Ae h,Ae e]
theorem Dr (a:Int) (b:Str):decide ((Sum.inl a:Key)=Sum.inr b)=false:=Ae (fun q=>nomatch q)
theorem Ds (a:Str) (b:Int):decide ((Sum.inr a:Key)=Sum.inl b)=false:=Ae (fun q=>nomatch q)
def bE (prog:Program) (w:World):PySem.KeyKind prog w Key where
 is:=mS
 hash:=G3 w
 inj:=fun v a b ha hb=>by
  rcases bL ha with⟨i,t,rfl,rfl⟩|⟨x,t,rfl,rfl⟩
  ·rcases bL hb with⟨j,u,rfl,e⟩|⟨y,u,rfl,e⟩
   ·injection e with e1 _;rw[e1]
   ·exact nomatch e
  ·rcases bL hb with⟨j,u,rfl,e⟩|⟨y,u,rfl,e⟩
   ·exact nomatch e
   ·injection e with e1 _;rw[e1]
 byValue:=fun k v h=>by
  rcases bL h with⟨i,t,rfl,rfl⟩|⟨x,t,rfl,rfl⟩<;>rfl
 pyHash:=fun hv h=>by
  rcases bL hv with⟨i,t,rfl,rfl⟩|⟨x,t,rfl,rfl⟩
  ·exact wpAny_pyHash_int h
  ·exact wpAny_pyHash_str h
 eqBool:=fun hu hv h=>by
  rcases bL hu with⟨i,t,rfl,rfl⟩|⟨x,t,rfl,rfl⟩
  ·rcases bL hv with⟨j,u,rfl,rfl⟩|⟨y,u,rfl,rfl⟩
   ·rw[Dp]at h;exact wpAny_eqBool_int h
   ·rw[Dr]at h;exact B9 i t y u _ _ _ _ h
  ·rcases bL hv with⟨j,u,rfl,rfl⟩|⟨y,u,rfl,rfl⟩
   ·rw[Ds]at h;exact B8 x t j u _ _ _ _ h
   ·rw[Dq]at h;exact wpAny_eqBool_str h
 «strs»:=fun k x t v h=>by
  rcases bL h with⟨i,u,rfl,e⟩|⟨y,u,rfl,e⟩
  ·exact nomatch e
  ·injection e with e1 _
   subst e1;cases v<;>rfl
theorem oV (prog:Program) (w:World) (i:Int) (t:Tok):(bE prog w).is (.inl i) (.int i t)=true:=tI i t
theorem oW (prog:Program) (w:World) (x:Str) (t:Tok):(bE prog w).is (.inr x) (.str x t)=true:=tJ x t
end L2
namespace L2
open PySem PySem.Spec PyProof.Rows
inductive V where
 | non|bl (b:Bool)|int (i:Int)|str (x:Str)|byt (b:Array UInt8)|flt (b:UInt64)|ref (a:Addr)|ty (n:String)
 deriving DecidableEq
def RelV:V->Value->Prop
 | .non,u=>u=Value.none
 | .bl b,u=>u=Value.bool b
 | .int i,u=>∃t,u=Value.int i t
 | .str x,u=>∃t,u=Value.str x t
 | .byt b,u=>∃t,u=Value.bytes b t
 | .flt b,u=>∃t,u=Value.float b t
 | .ref a,u=>u=Value.ref a
 | .ty n,u=>u=Value.type n
abbrev Vals:List V->List Value->Prop:=Paired RelV
theorem Vals.length {xs:List V} {us:List Value} (r:Vals xs us):xs.length=us.length:=Paired.length r
theorem Vals.get:∀{xs:List V} {us:List Value} {i:Nat} {x:V},Vals xs us->xs[i]?=some x->∃u,us[i]?=some u/\RelV x u
 | _,_,_,_,.nil,e=>by simp at e
 | _,_,0,_,.cons r _,e=>by simp at e;subst e;exact⟨_,rfl,r⟩
 | _,_,i+1,x,.cons _ t,e=>by
  obtain⟨u,h1,h2⟩:=Vals.get (i:=i) (x:=x) t (by simpa using e)
  exact⟨u,by simpa using h1,h2⟩
theorem Vals.set (r:RelV x u):∀{xs:List V} {us:List Value} (i:Nat),Vals xs us->Vals (xs.set i x) (us.set i u)
 | _,_,_,.nil=>.nil
 | _,_,0,.cons _ t=>.cons r t
 | _,_,i+1,.cons q t=>.cons q (Vals.set r i t)
theorem Vals.append:∀{xs ys:List V} {us ws:List Value},Vals xs us->Vals ys ws->Vals (xs++ys) (us++ws)
 | _,_,_,_,.nil,s=>s
 | _,_,_,_,.cons r t,s=>.cons r (Vals.append t s)
theorem Vals.take:∀{xs:List V} {us:List Value} (n:Nat),Vals xs us->Vals (xs.take n) (us.take n)
 | _,_,0,_=>.nil
 | _,_,_+1,.nil=>.nil
 | _,_,n+1,.cons r t=>.cons r (Vals.take n t)
theorem Vals.drop:∀{xs:List V} {us:List Value} (n:Nat),Vals xs us->Vals (xs.drop n) (us.drop n)
 | _,_,0,r=>r
 | _,_,_+1,.nil=>.nil
 | _,_,n+1,.cons _ t=>Vals.drop n t
def RelO:Option V->Option Value->Prop
 | some v,some u=>RelV v u
 | none,none=>True
 | _,_=>False
def KV {κ:Type}:List (κ×V)->List (κ×Value)->Prop:=Paired fun(p:κ×V) (q:κ×Value)=>p.1=q.1/\RelV p.2 q.2
def kV:Key->V
 | .inl i=>.int i
 | .inr x=>.str x
inductive HO where
  | lst (xs:List V)
  | tup (xs:List V)
  | dK (kvs:List (Key×V))|dT (ep:Nat×List Addr) (kvs:List (List Key×V))
  | set (S:Int->Bool) (n:Nat)
  | ins (C dx:Addr) (fs:List (Str×V))
  | own (x:Addr)
  | xd (fs:List (Str×V))
  | met (f x:Addr)
  | rng (lo hi:Int)
  | frz (o:Obj) (u:HO)
  | tbl (ps:Array Value)
  | ext (φ:Heap->Prop)
abbrev Hp:=Addr->Option HO
def upd (H:Hp) (a:Addr) (o:HO):Hp:=fun b=>if b=a then some o else H b
theorem aM:upd H a o a=some o:=by unfold upd;rw[Af rfl]
theorem aF (h:b≠a):upd H a o b=H b:=by unfold upd;rw[Ah h]
theorem FW {H:Hp} {a b:Addr} {o u:HO} (h:H a=some o) (h':H b=some u) (d:o≠u):a≠b:=by
 intro e;subst e;rw[h]at h';exact d (Option.some.inj h')
theorem aU {H:Hp} {a b:Addr} {o:HO} (h:H a=some o) (h':H b=none):a≠b:=by
 intro e;subst e;rw[h]at h';cases h'
section
variable (P:Program) (w:World)
def ObjOk (H:Hp) (h:Heap) (a:Addr):HO->Prop
 | .lst xs=>xs.length<=sizeLine/\∃(its:List Value) (n:Nat),Vals xs its/\h.get? a=some { cls:=.type "list",data:=.seq its.toArray n }
 | .tup xs=>xs.length<=sizeLine/\∃its:List Value,Vals xs its/\IsTup h a its.toArray
 | .dK kvs=>kvs.length<=sizeLine/\(a == sysModules)=false/\∃vs,KV kvs vs/\h.DictOf (bE P w) a vs
 | .dT ep kvs=>kvs.length<=sizeLine/\(a == sysModules)=false/\∃xs:List (List Key×Addr×Value),
   Paired (fun(p:List Key×V) (q:List Key×Addr×Value)=>p.1=q.1/\H q.2.1=some (.tup (p.1.map kV))/\RelV p.2 q.2.2) kvs xs /\
   xs.map (·.2.1)=ep.2/\∃o es,h.get? a=some o/\o.ExactDict/\o.data=.dict es ep.1/\es.toList=xs.map (entryOfKey (tupleKind (bE P w)))/\(xs.map (·.1)).Nodup
 | .set S n=>h.SetOf (intKind P w) a S n
 | .ins C dx fs=>H dx=some (.own a)/\fs.length<=1000/\dx≠a/\h.get? a=some (PySem.W.instObj C dx) /\
   ∃mA,h.Ns1 dx mA/\(∀f,RelO (fs.lookup f) (mA f))/\PySem.Within mA (fs.map (·.1))
 | .own _=>∃o,h.get? a=some o
 | .xd fs=>∃mA,h.Ns1 a mA/\∀f,RelO (fs.lookup f) (mA f)
 | .rng lo hi=>∃t u v,h.get? a=some { cls:=.type "range",data:=.fields #[.int lo t,.int hi u,.int 1 v] }
 | .frz o u=>h.get? a=some o/\ObjOk H h a u
 | .tbl ps=>h.get? a=some { cls:=.none,data:=.fields ps }
 | .met f x=>h.get? a=some (PySem.W.methodObj (.ref f) (.ref x))
 | .ext φ=>φ h/\(∃o,h.get? a=some o)/\∀h1 h2:Heap,φ h1->(∀o,h1.get? a=some o->h2.get? a=some o)->φ h2
def HOk (H:Hp) (h:Heap):Prop:=∀a o,H a=some o->ObjOk P w H h a o
end
section
variable {P:Program} {w:World} {H H':Hp} {h h':Heap} {a:Addr} {o:HO}
theorem ObjOk.lt (x:ObjOk P w H h a o):a<h.objs.size:=by
 cases o with
 | lst xs=>obtain⟨_,_,_,_,e⟩:=x;exact Aj e
 | tup xs=>obtain⟨_,_,_,p⟩:=x;exact p.lt
 | dK kvs=>obtain⟨_,_,_,_,o,_,_,e,_⟩:=x;exact Aj e
 | dT ep kvs=>obtain⟨_,_,_,_,_,o,_,e,_⟩:=x;exact Aj e
 | set S n=>obtain⟨o,_,_,_,e,_⟩:=x;exact Aj e
 | ins C dx fs=>obtain⟨_,_,_,e,_⟩:=x;exact Aj e
 | own y=>obtain⟨_,e⟩:=x;exact Aj e
 | xd fs=>obtain⟨_,⟨_,_,_,e,_⟩,_⟩:=x;exact Aj e
 | rng lo hi=>obtain⟨_,_,_,e⟩:=x;exact Aj e
 | frz ob u=>obtain⟨e,_⟩:=x;exact Aj e
 | tbl ps=>exact Aj (show h.get? a=some _ from x)
 | met f y=>exact Aj (show h.get? a=some _ from x)
 | ext φ=>obtain⟨_,⟨_,e⟩,_⟩:=x;exact Aj e
theorem Paired.mapP:∀{l₁:List α} {l₂:List β},Paired F l₁ l₂->(∀a b,F a b->G a b)->Paired G l₁ l₂
 | _,_,.nil,_=>.nil
 | _,_,.cons r t,f=>.cons (f _ _ r) (Paired.mapP t f)
theorem ObjOk.stay (x:ObjOk P w H h a o) (k:∀b u,(b=a∨H b=some (.own a))->h.get? b=some u->h'.get? b=some u)
  (ho:∀b,H b=some (.own a)->H' b=some (.own a)) (ht:∀b xs,H b=some (.tup xs)->H' b=some (.tup xs)):ObjOk P w H' h' a o:=by
 induction o with
 | lst xs=>obtain⟨z,its,n,r,e⟩:=x;exact⟨z,its,n,r,k _ _ (.inl rfl) e⟩
 | tup xs=>obtain⟨z,its,r,ob,e,c⟩:=x;exact⟨z,its,r,ob,k _ _ (.inl rfl) e,c⟩
 | dK kvs=>obtain⟨z,y,vs,r,ob,es,ep,e,c⟩:=x;exact⟨z,y,vs,r,ob,es,ep,k _ _ (.inl rfl) e,c⟩
 | dT ep kvs =>
  obtain⟨z,y,xs,r,ra,ob,es,e,c⟩:=x;exact⟨z,y,xs,Paired.mapP r fun p q z=>⟨z.1,ht _ _ z.2.1,z.2.2⟩,ra,ob,es,k _ _ (.inl rfl) e,c⟩
 | set S n=>obtain⟨ob,es,ep,t,e,c⟩:=x;exact⟨ob,es,ep,t,k _ _ (.inl rfl) e,c⟩
 | ins C dx fs =>
  obtain⟨d,z,ne,e,mA,⟨od,es,ep,e2,c⟩,r⟩:=x;exact⟨ho _ d,z,ne,k _ _ (.inl rfl) e,mA,⟨od,es,ep,k _ _ (.inr d) e2,c⟩,r⟩
 | own y=>obtain⟨ob,e⟩:=x;exact⟨ob,k _ _ (.inl rfl) e⟩
 | xd fs=>obtain⟨mA,⟨od,es,ep,e,c⟩,r⟩:=x;exact⟨mA,⟨od,es,ep,k _ _ (.inl rfl) e,c⟩,r⟩
 | rng lo hi=>obtain⟨t,u,v,e⟩:=x;exact⟨t,u,v,k _ _ (.inl rfl) e⟩
 | frz ob u ih=>obtain⟨e,q⟩:=x;exact⟨k _ _ (.inl rfl) e,ih q⟩
 | tbl ps =>
  have e:h.get? a=some { cls:=.none,data:=.fields ps }:=x;show h'.get? a=some { cls:=.none,data:=.fields ps };exact k a _ (.inl rfl) e
 | met f y =>
  have e:h.get? a=some (PySem.W.methodObj (.ref f) (.ref y)):=x;show h'.get? a=some (PySem.W.methodObj (.ref f) (.ref y));exact k a _ (.inl rfl) e
 | ext φ=>obtain⟨p,⟨o,e⟩,st⟩:=x;exact⟨st _ _ p fun o q=>k _ _ (.inl rfl) q,⟨o,k _ _ (.inl rfl) e⟩,st⟩
theorem HOk.lt (x:HOk P w H h) (e:H a=some o):a<h.objs.size:=(x a o e).lt
theorem HOk.fresh (x:HOk P w H h) (e:h.objs.size<=a):H a=none:=by
 cases q:H a with
 | none=>rfl
 | some u=>exact absurd (Wc (x.lt q) e) (Yi _)
theorem HOk.kept (x:HOk P w H h) (k:∀b u,h.get? b=some u->h'.get? b=some u):HOk P w H h':=fun a o e =>
 (x a o e).stay (fun b u _ q=>k b u q) (fun _ q=>q) fun _ _ q=>q
theorem HOk.laid (x:HOk P w H h) (k:∀b u,h.get? b=some u->h'.get? b=some u) (hp:h.objs.size<=a) (new:ObjOk P w (upd H a o) h' a o):HOk P w (upd H a o) h':=fun b u e=>by
 have hn:=x.fresh hp;by_cases hb:b=a
 ·subst hb;rw[aM]at e;cases e;exact new
 ·rw[aF hb]at e;exact(x b u e).stay (fun c v _ q=>k c v q) (fun c q=>by rw[aF (aU q hn)];exact q) fun c xs q=>by rw[aF (aU q hn)];exact q
end
def Rd (H:Hp) (a:Addr) (u:HO):Prop:=H a=some u∨∃o,H a=some (.frz o u)
theorem Rd.ok (r:Rd H a u) (x:HOk P w H h):ObjOk P w H h a u:=by
 rcases r with r|⟨o,r⟩
 ·exact x a u r
 ·obtain⟨_,q⟩:=x a _ r;exact q
def Mut:Option HO->Prop
 | some (.lst _)=>True
 | some (.dK _)=>True
 | some (.dT _ _)=>True
 | some (.set _ _)=>True
 | some (.ins _ _ _)=>True
 | some (.ext _)=>True
 | _=>False
section
variable {P:Program} {w:World} {H:Hp} {h h':Heap} {x e:Addr} {o':HO}
theorem HOk.write (ok:HOk P w H h) (mu:Mut (H x)) (he:e=x∨H e=some (.own x)) (k:∀b u,b≠e->h.get? b=some u->h'.get? b=some u) (heo:∃u,h'.get? e=some u)
  (new:ObjOk P w (upd H x o') h' x o'):HOk P w (upd H x o') h':=fun b u q=>by
 have nown:∀c y,H c=some (.own y)->c≠x:=fun c y r z=>by subst z;rw[r]at mu;exact mu
 have ntup:∀c xs,H c=some (.tup xs)->c≠x:=fun c xs r z=>by subst z;rw[r]at mu;exact mu
 by_cases hb:b=x
 ·subst hb;rw[aM]at q;cases q;exact new
 ·rw[aF hb]at q;by_cases hbe:b=e
  ·have q':H b=some (.own x):=by
    rcases he with z|z
    ·exact absurd (hbe.trans z) hb
    ·rw[hbe];exact z
   rw[q]at q';cases q';obtain⟨v,hv⟩:=heo;exact⟨v,by rw[hbe];exact hv⟩
  ·refine(ok b u q).stay (fun c v hc r=>k c v ?_ r) (fun c r=>by rw[aF (nown c b r)];exact r) fun c xs r=>by rw[aF (ntup c xs r)];exact r
   rcases hc with rfl|hc
   ·exact hbe
   ·rintro rfl;rcases he with z|z
    ·exact nown c b hc z
    ·rw[hc]at z;cases z;exact hb rfl
end
structure Un (fs ex:List Addr) (H H':Hp) (h h':Heap):Prop where
 keep:∀b o,h.get? b=some o->H b=none->b∉fs->b∉ex->h'.get? b=some o
 slot:∀b o,h.get? b=some o->H b=none->b∈fs->b∉ex->∃sl,h'.get? b=some { o with slots:=sl }
 free:∀b o,h.get? b=some o->H b=none->b∉ex->H' b=none
 there:∀b o,h.get? b=some o->b∉ex->∃o',h'.get? b=some o'
 tups:∀b xs,H b=some (.tup xs)->H' b=some (.tup xs)
 frzs:∀b o u,H b=some (.frz o u)->H' b=some (.frz o u)
 tbls:∀b ps,H b=some (.tbl ps)->∃more,H' b=some (.tbl (ps++more))
section
variable {fs fs' ex ex':List Addr} {H H1 H2:Hp} {h h1 h2 h':Heap} {a x e:Addr} {o:HO}
theorem Un.any (u:Un fs ex H H1 h h1) (q:h.get? b=some ob) (n:H b=none) (hx:b∉ex):∃sl,h1.get? b=some { ob with slots:=sl }:=by
 by_cases hb:b∈fs
 ·exact u.slot b ob q n hb hx
 ·exact⟨ob.slots,u.keep b ob q n hb hx⟩
theorem Un.kept (k:∀b u,h.get? b=some u->h'.get? b=some u):Un fs ex H H h h' :=
 ⟨fun b ob q _ _ _=>k b ob q,fun b ob q _ _ _=>⟨ob.slots,k b ob q⟩,fun _ _ _ n _=>n,fun b ob q _=>⟨ob,k b ob q⟩,fun _ _ q=>q,fun _ _ _ q=>q,fun _ ps q=>⟨#[],by rw[q];simp⟩⟩
theorem Un.refl:Un fs ex H H h h:=Un.kept fun _ _ q=>q
theorem Un.laid (k:∀b u,h.get? b=some u->h'.get? b=some u) (hp:h.objs.size<=a) (hn:H a=none):Un fs ex H (upd H a o) h h' where
 keep:=fun b u q _ _ _=>k b u q
 slot:=fun b u q _ _ _=>⟨u.slots,k b u q⟩
 free:=fun b u q n _=>by rw[aF (Yg (Wc (Aj q) hp))];exact n
 there:=fun b u q _=>⟨u,k b u q⟩
 tups:=fun b xs q=>by rw[aF (aU q hn)];exact q
 frzs:=fun b u xs q=>by rw[aF (aU q hn)];exact q
 tbls:=fun b ps q=>⟨#[],by rw[aF (aU q hn),q];simp⟩
theorem Un.write (mu:Mut (H x)) (he:e=x∨H e=some (.own x)) (k:∀b u,b≠e->h.get? b=some u->h'.get? b=some u) (heo:∃u,h'.get? e=some u):Un fs ex H (upd H x o) h h':=by
 have hx:∀b,H b=none->b≠x:=fun b n z=>by subst z;rw[n]at mu;exact mu
 have hb:∀b,H b=none->b≠e:=fun b n z=>by
  subst z;rcases he with r|r
  ·exact hx b n r
  ·rw[n]at r;cases r
 have hm:∀b u,H b=some u->¬ Mut (some u)->b≠x:=fun b u q nm z=>by subst z;rw[q]at mu;exact nm mu
 refine⟨fun b u q n _ _=>k b u (hb b n) q,fun b u q n _ _=>⟨u.slots,k b u (hb b n) q⟩,fun b u q n _=>by rw[aF (hx b n)];exact n,fun b u q _=>?_,
  fun b xs q=>by rw[aF (hm b _ q fun z=>z)];exact q,fun b u xs q=>by rw[aF (hm b _ q fun z=>z)];exact q,fun b ps q=>⟨#[],by rw[aF (hm b _ q fun z=>z),q];simp⟩⟩
 by_cases hbe:b=e
 ·subst hbe;exact heo
 ·exact⟨u,k b u hbe q⟩
end
def trk (h:Heap) (H:Hp):List Addr:=(List.range h.objs.size).filter fun a=>(H a).isSome
def nM (h:Heap) (H:Hp):Heap:=PySem.W.hideAll h (trk h H)
theorem tK (h:Heap) (H:Hp):(nM h H).objs.size=h.objs.size:=PySem.W.hideAll_size _ _
theorem uV {h:Heap} (e:h.get? b=some o) (n:H b=none):(nM h H).get? b=some o :=
 PySem.W.hideAll_get _ e fun hm=>by
  have q:(H b).isSome=true:=(List.mem_filter.mp hm).2;rw[n]at q;simp at q
theorem xO {h:Heap} (e:(nM h H).get? b=some o):h.get? b=some o/\H b=none:=by
 have e':h.get? b=some o:=PySem.W.of_hideAll (trk h H) e;refine⟨e',?_⟩;cases q:H b with
 | none=>rfl
 | some x =>
  have hm:b∈trk h H:=List.mem_filter.mpr ⟨Vd.mpr (Aj e'),by simp[q]⟩
  have z:(nM h H).get? b=none:=PySem.W.hideAll_none (trk h H) hm;rw[z]at e;cases e
end L2
namespace L2
open PySem PySem.Spec PyProof.Rows
structure Mod (K:Ab) (mg:Str->Option Value) (base:Heap):Prop where
 kin:K.In base
 glob:base.Ns mainGlobals mg
 blt:∃mb,base.Ns builtinsNs mb/\∀x:Str,x≠"__name__"->mb x=bootBuiltins x
 nolimit:base.NoLimit
structure Cx where
 prog:Program
 w:World
 K:Ab
 mg:Str->Option Value
 base:Heap
 A:Around
 N:List Str
 s₀:Shared
 H₀:Hp
 env:Env
 outer:List Env
 stack:List Env
 ex:List Addr
 fn:Str->Bool
 calm:Bool
 pn:List (Addr×Obj)
 xe:Value->Shared->Prop
def frs (l:List Env):List Addr:=l.filterMap (·.frame)
abbrev Cx.fs (X:Cx):List Addr:=frs X.outer
def Vis (sc:Scope) (x:Str):Prop:=sc.names.lookup x=some .local∨sc.names.lookup x=some .cell∨sc.names.lookup x=some .free
def Loc (sc:Scope) (x:Str):Prop:=sc.names.lookup x=some .local∨sc.names.lookup x=some .cell
def Look (env:Env) (h:Heap) (m:Str->Option Value) (x:Str) (u:Value):Prop :=
 (env.kindOf x=some .local/\m x=some u)∨((env.kindOf x=some .cell∨env.kindOf x=some .free)/\∃c,env.cells.lookup x=some c/\h.IsCell c (some u))
structure Cx.Ok (X:Cx):Prop where
 mod:Mod X.K X.mg X.base
 kind:X.env.scope.kind=.function
 glob:X.env.globals=mainGlobals
 blt:X.env.builtins=builtinsNs
 above:X.s₀.heap.objs.size<=X.env.locals
 inj:∀x y c,X.env.cells.lookup x=some c->X.env.cells.lookup y=some c->x=y
 has:∀x,(X.env.kindOf x=some .cell∨X.env.kindOf x=some .free)->∃c,X.env.cells.lookup x=some c
 cab:∀x c,X.fn x=true->X.env.cells.lookup x=some c->X.s₀.heap.objs.size<=c
 hd:X.calm=true->X.A.handled=none
 frames:X.A.frames=some X.stack
 stk:X.stack=X.outer∨(X.stack=X.env::X.outer/\X.env.frame=some X.env.locals)
 exf:∀b∈X.ex,b≠X.env.locals/\∀x c,X.env.cells.lookup x=some c->c≠b
 bs:∀b o,X.base.get? b=some o->X.s₀.heap.get? b=some o/\X.H₀ b=none
 bsz:X.base.objs.size<=X.s₀.heap.objs.size
 noex:∀b o,X.base.get? b=some o->b∉X.ex
 exfs:∀b∈X.ex,b∉X.fs
 funs:X.s₀.heap.FunFrames X.base X.outer
 frf:∀b∈X.fs,X.H₀ b=none
structure Inv (X:Cx) (pins:List (Addr×Obj)) (σ:List (Option V)) (H:Hp) (s:Shared):Prop where
 ok:X.Ok
 os:s.os=X.s₀.os
 bare:AllBare s.gens
 base:Un X.fs X.ex X.H₀ H X.s₀.heap s.heap
 loc:∃m,s.heap.Ns X.env.locals m/\∀(i:Nat) (x:Str) (v:V),X.N[i]?=some x->σ[i]?=some (some v)->Vis X.env.scope x->∃u,RelV v u/\Look X.env s.heap m x u
 cell:∀x c,X.env.cells.lookup x=some c->∃v,s.heap.IsCell c v
 free:H X.env.locals=none
 freeC:∀x c,X.env.cells.lookup x=some c->H c=none
 pin:∀p∈X.pn++pins,s.heap.get? p.1=some p.2/\H p.1=none/\p.1≠X.env.locals/\p.1∉X.fs/\∀v,p.2.data≠.cell v
 hok:HOk X.prog X.w H s.heap
 len:σ.length=X.N.length
section
variable {X:Cx} {pins:List (Addr×Obj)} {σ:List (Option V)} {H H':Hp} {s:Shared} {h':Heap}
theorem Cx.Ok.nofr (ok:X.Ok) (e:X.base.get? b=some o):b∉X.fs:=fun hb=>by
 have:=(ok.funs.mem hb).1;rw[e]at this;cases this
theorem Inv.bs (I:Inv X pins σ H s):∀b o,X.base.get? b=some o->s.heap.get? b=some o/\H b=none:=fun b o e =>
 ⟨I.base.keep b o (I.ok.bs b o e).1 (I.ok.bs b o e).2 (I.ok.nofr e) (I.ok.noex b o e),I.base.free b o (I.ok.bs b o e).1 (I.ok.bs b o e).2 (I.ok.noex b o e)⟩
theorem Inv.bk (I:Inv X pins σ H s):∀b o,X.base.get? b=some o->s.heap.get? b=some o:=fun b o e=>(I.bs b o e).1
theorem Inv.mod (I:Inv X pins σ H s):Mod X.K X.mg X.base:=I.ok.mod
theorem Inv.kIn (I:Inv X pins σ H s):X.K.In s.heap:=I.ok.mod.kin.keeps I.bk
theorem Inv.lt (I:Inv X pins σ H s):X.env.locals<s.heap.objs.size:=let ⟨_,hn,_⟩:=I.loc;hn.lt
theorem Inv.sz (I:Inv X pins σ H s):X.s₀.heap.objs.size<=s.heap.objs.size:=Qd I.ok.above (Xk I.lt)
theorem Inv.nofs (I:Inv X pins σ H s) (h:s.heap.objs.size<=a):a∉X.fs:=fun hb=>by
 obtain⟨_,o,ho,_⟩:=I.ok.funs.mem hb;exact absurd (Wc (Aj ho) (Qd I.sz h)) (Yi _)
theorem Inv.cne (I:Inv X pins σ H s):∀x c,X.env.cells.lookup x=some c->c≠X.env.locals:=fun x c e z=>by
 obtain⟨v,o,ho,hd⟩:=I.cell x c e;obtain⟨m,⟨o',es,ep,ho',hd',_⟩,_⟩:=I.loc;rw[z,ho']at ho;cases ho;rw[hd']at hd;cases hd
theorem Inv.funs (I:Inv X pins σ H s):s.heap.FunFrames X.base X.outer:=by
 have all:∀(l:List Env),(∀b∈frs l,b∈X.fs)->X.s₀.heap.FunFrames X.base l->s.heap.FunFrames X.base l:=by
  intro l;induction l with
  | nil=>intro _ _;trivial
  | cons env r ih =>
   intro hs hl;obtain⟨hk,⟨L,o,hf,hn,ho,hd⟩,hr⟩:=hl;have hL:L∈X.fs:=hs L (by unfold frs;rw[B3,hf];exact Xb)
   obtain⟨sl,e⟩:=I.base.slot L o ho (I.ok.frf L hL) hL fun z=>I.ok.exfs L z hL;exact⟨hk,⟨L,_,hf,hn,e,hd⟩,ih (fun b hb=>hs b (by unfold frs;rw[B3,hf];exact Vb _ hb)) hr⟩
 exact all X.outer (fun _ hb=>hb) I.ok.funs
theorem Inv.stack (I:Inv X pins σ H s):s.heap.FunFrames X.base X.stack:=by
 rcases I.ok.stk with e|⟨e,hf⟩
 ·rw[e];exact I.funs
 ·rw[e];obtain⟨m,hn,_⟩:=I.loc;refine .cons (by rw[I.ok.kind];decide) hf hn ?_ I.funs
  exact Heap.get?_none_of_le (Qd I.ok.bsz I.ok.above)
theorem Inv.stkSub (I:Inv X pins σ H s):∀b∈frs X.stack,b∈X.env.locals::X.fs:=fun b hb=>by
 rcases I.ok.stk with e|⟨e,hf⟩
 ·rw[e]at hb;exact Vb _ hb
 ·rw[e]at hb;unfold frs at hb;rw[B3,hf]at hb;exact hb
theorem Inv.stkFree (I:Inv X pins σ H s):∀b∈frs X.stack,H b=none:=fun b hb=>by
 rcases Yd.mp (I.stkSub b hb) with e|hb
 ·rw[e];exact I.free
 ·obtain⟨_,o,ho,_⟩:=I.ok.funs.mem hb;exact I.base.free b o ho (I.ok.frf b hb) fun z=>I.ok.exfs b z hb
theorem Inv.step {g':Array GenState} {t':Nat} {d':Drawn} {ch:List Addr} (I:Inv X pins σ H s)
  (hch:∀b∈ch,(b∈X.ex∨X.s₀.heap.objs.size<=b)/\b≠X.env.locals/\(∀x c,X.env.cells.lookup x=some c->c≠b)/\∀p∈X.pn++pins,p.1≠b)
  (keep:∀b o,b≠X.env.locals->b∉X.fs->b∉ch->s.heap.get? b=some o->H b=none->h'.get? b=some o)
  (slot:∀b o,b≠X.env.locals->b∈X.fs->b∉ch->s.heap.get? b=some o->H b=none->∃sl,h'.get? b=some { o with slots:=sl }) (free:∀b o,b∉ch->s.heap.get? b=some o->H b=none->H' b=none)
  (there:∀b o,b∉ch->s.heap.get? b=some o->∃o',h'.get? b=some o')
  (tups:∀b xs,H b=some (.tup xs)->H' b=some (.tup xs)) (frzs:∀b o u,H b=some (.frz o u)->H' b=some (.frz o u)) (tbls:∀b ps,H b=some (.tbl ps)->∃more,H' b=some (.tbl (ps++more)))
  (ns:∀m,s.heap.Ns X.env.locals m->h'.Ns X.env.locals m) (hok:HOk X.prog X.w H' h') (hg:AllBare g') :
  Inv X pins σ H' { s with heap:=h',gens:=g',drawn:=d',toks:=t' }:=by
 have neL:∀b o,X.s₀.heap.get? b=some o->b≠X.env.locals:=fun b o e=>Yg (Wc (Aj e) I.ok.above);have neC:∀b o,X.s₀.heap.get? b=some o->b∉X.ex->b∉ch:=fun b o e hx hb=>by
  rcases(hch b hb).1 with z|z
  ·exact hx z
  ·exact absurd (Wc (Aj e) z) (Yi _)
 have cellK:∀x c,X.env.cells.lookup x=some c->∀v,s.heap.IsCell c v->h'.IsCell c v:=fun x c e v ⟨o,ho,hd⟩=>by
  have nch:c∉ch:=fun z=>(hch c z).2.2.1 x c e rfl;by_cases hc:c∈X.fs
  ·obtain⟨sl,q⟩:=slot c o (I.cne x c e) hc nch ho (I.freeC x c e);exact⟨_,q,hd⟩
  ·exact⟨o,keep c o (I.cne x c e) hc nch ho (I.freeC x c e),hd⟩
 refine⟨I.ok,I.os,hg,⟨fun b o e n hb hx=>?_,fun b o e n hb hx=>?_,fun b o e n hx=>?_,fun b o e hx=>?_,fun b xs e=>tups b xs (I.base.tups b xs e),fun b o xs e=>frzs b o xs (I.base.frzs b o xs e),fun b ps e=>?_⟩,?_,fun x c e=>?_,?_,fun x c e=>?_,fun p hp=>?_,hok,I.len⟩
 ·exact keep b o (neL b o e) hb (neC b o e hx) (I.base.keep b o e n hb hx) (I.base.free b o e n hx)
 ·obtain⟨sl,e1⟩:=I.base.slot b o e n hb hx;obtain⟨sl',e2⟩:=slot b _ (neL b o e) hb (neC b o e hx) e1 (I.base.free b o e n hx);exact⟨sl',e2⟩
 ·obtain⟨o',e1⟩:=I.base.there b o e hx;exact free b o' (neC b o e hx) e1 (I.base.free b o e n hx)
 ·obtain⟨o',e1⟩:=I.base.there b o e hx;exact there b o' (neC b o e hx) e1
 ·obtain⟨m1,e1⟩:=I.base.tbls b ps e;obtain⟨m2,e2⟩:=tbls b _ e1;exact⟨m1++m2,by rw[e2,Array.append_assoc]⟩
 ·obtain⟨m,hn,hl⟩:=I.loc;refine⟨m,ns m hn,fun i x v e1 e2 e3=>?_⟩;obtain⟨u,r,l⟩:=hl i x v e1 e2 e3;refine⟨u,r,?_⟩;rcases l with l|⟨k,c,e,z⟩
  ·exact .inl l
  ·exact .inr ⟨k,c,e,cellK x c e _ z⟩
 ·obtain⟨v,z⟩:=I.cell x c e;exact⟨v,cellK x c e v z⟩
 ·obtain⟨m,⟨o,_,_,ho,_⟩,_⟩:=I.loc;exact free _ o (fun z=>(hch _ z).2.1 rfl) ho I.free
 ·obtain⟨v,o,ho,hd⟩:=I.cell x c e;exact free c o (fun z=>(hch c z).2.2.1 x c e rfl) ho (I.freeC x c e)
 ·obtain⟨e,n,ne,nf,d⟩:=I.pin p hp;have nch:p.1∉ch:=fun z=>(hch p.1 z).2.2.2 p hp rfl;exact⟨keep p.1 p.2 ne nf nch e n,free p.1 p.2 nch e n,ne,nf,d⟩
theorem Inv.un {t':Nat} (I:Inv X pins σ H s) (u:Un X.fs [] H H' s.heap h') (hok:HOk X.prog X.w H' h'):Inv X pins σ H' { s with heap:=h',toks:=t' }:=by
 obtain⟨m,⟨o,es,ep,ho,r⟩,_⟩:=id I.loc;obtain⟨sl,hL⟩:=u.any ho I.free (by simp)
 exact I.step (g':=s.gens) (d':=s.drawn) (ch:=[]) (fun _ z=>nomatch z) (fun b o _ hb _ e n=>u.keep b o e n hb (by simp)) (fun b o _ hb _ e n=>u.slot b o e n hb (by simp)) (fun b o _ e n=>u.free b o e n (by simp)) (fun b o _ e=>u.there b o e (by simp)) u.tups u.frzs u.tbls (fun m' hm=>by
  obtain⟨o',es',ep',ho',r'⟩:=hm;rw[ho]at ho';cases ho'
  exact⟨_,es',ep',hL,r'⟩) hok I.bare
theorem Inv.call {g':Array GenState} {t':Nat} {d':Drawn} {ch:List Addr} (I:Inv X pins σ H s) (u:Un (frs X.stack) ch H H' s.heap h') (hok:HOk X.prog X.w H' h') (hg:AllBare g')
  (hch:∀b∈ch,(b∈X.ex∨X.s₀.heap.objs.size<=b)/\b≠X.env.locals/\(∀x c,X.env.cells.lookup x=some c->c≠b)/\∀p∈X.pn++pins,p.1≠b) :
  Inv X pins σ H' { s with heap:=h',gens:=g',drawn:=d',toks:=t' }:=by
 obtain⟨m,⟨o,es,ep,ho,r⟩,_⟩:=id I.loc;obtain⟨sl,hL⟩:=u.any ho I.free fun z=>(hch _ z).2.1 rfl
 exact I.step (ch:=ch) hch (fun b o hL hb hc e n=>u.keep b o e n (fun z=>(Yd.mp (I.stkSub b z)).elim hL hb) hc) (fun b o _ _ hc e n=>u.any e n hc) (fun b o hc e n=>u.free b o e n hc) (fun b o hc e=>u.there b o e hc) u.tups u.frzs u.tbls (fun m' hm=>by
  obtain⟨o',es',ep',ho',r'⟩:=hm;rw[ho]at ho';cases ho'
  exact⟨_,es',ep',hL,r'⟩) hok hg
theorem Inv.turned {t':Nat} {it:Addr} (I:Inv X pins σ H s) (k:∀b o,b≠it->s.heap.get? b=some o->h'.get? b=some o) (hn:H it=none) (hL:it≠X.env.locals)
  (h1:it∈X.ex∨X.s₀.heap.objs.size<=it) (h2:∀x c,X.env.cells.lookup x=some c->c≠it) (h3:∀p∈X.pn++pins,p.1≠it):Inv X pins σ H { s with heap:=h',toks:=t' }:=by
 have nit:∀b u,H b=some u->b≠it:=fun b u e z=>by rw[z,hn]at e;cases e
 refine I.step (g':=s.gens) (d':=s.drawn) (ch:=[it]) (fun b hb=>?_) (fun b o _ _ hc e _=>k b o (fun z=>hc (by simp[z])) e) (fun b o _ _ hc e _=>⟨o.slots,k b o (fun z=>hc (by simp[z])) e⟩) (fun _ _ _ _ n=>n)
  (fun b o hc e=>⟨o,k b o (fun z=>hc (by simp[z])) e⟩) (fun _ _ e=>e) (fun _ _ _ e=>e) (fun b ps e=>⟨#[],by rw[e];simp⟩) (fun m hm=>?_) (fun b u e=>?_) I.bare
 ·have e:b=it:=by simpa using hb
  subst e;exact⟨h1,hL,h2,h3⟩
 ·obtain⟨o,es,ep,ho,r⟩:=hm;exact⟨o,es,ep,k _ o (AF hL) ho,r⟩
 ·refine(I.hok b u e).stay (fun c v hc q=>k c v ?_ q) (fun _ q=>q) fun _ _ q=>q;rcases hc with z|z
  ·rw[z];exact nit b u e
  ·exact nit c _ z
theorem Inv.tok (I:Inv X pins σ H s) (t:Nat):Inv X pins σ H { s with toks:=t }:=I.un (h':=s.heap) (t':=t) Un.refl I.hok
theorem Inv.kept {t':Nat} (I:Inv X pins σ H s) (k:∀b u,s.heap.get? b=some u->h'.get? b=some u):Inv X pins σ H { s with heap:=h',toks:=t' }:=I.un (Un.kept k) (I.hok.kept k)
theorem Inv.laid {t':Nat} (I:Inv X pins σ H s) (k:∀b u,s.heap.get? b=some u->h'.get? b=some u) (hp:s.heap.objs.size<=a) (new:ObjOk X.prog X.w (upd H a o) h' a o) :
  Inv X pins σ (upd H a o) { s with heap:=h',toks:=t' }:=I.un (Un.laid k hp (I.hok.fresh hp)) (I.hok.laid k hp new)
theorem Inv.write {t':Nat} (I:Inv X pins σ H s) (mu:Mut (H x)) (he:e=x∨H e=some (.own x)) (k:∀b u,b≠e->s.heap.get? b=some u->h'.get? b=some u) (heo:∃u,h'.get? e=some u)
  (new:ObjOk X.prog X.w (upd H x o) h' x o):Inv X pins σ (upd H x o) { s with heap:=h',toks:=t' }:=I.un (Un.write mu he k heo) (I.hok.write mu he k heo new)
theorem Inv.weak {σ':List (Option V)} (I:Inv X pins σ H s) (hl:σ'.length=σ.length) (w:∀(i:Nat) v,σ'[i]?=some (some v)->σ[i]?=some (some v)):Inv X pins σ' H s :=
 ⟨I.ok,I.os,I.bare,I.base,let ⟨m,hn,hl'⟩:=I.loc;⟨m,hn,fun i x v e1 e2 e3=>hl' i x v e1 (w i v e2) e3⟩,I.cell,I.free,I.freeC,I.pin,I.hok,hl.trans I.len⟩
theorem Inv.pins_of (I:Inv X pins σ H s) (h:∀p∈pins',s.heap.get? p.1=some p.2/\H p.1=none/\p.1≠X.env.locals/\p.1∉X.fs/\∀v,p.2.data≠.cell v):Inv X pins' σ H s :=
 ⟨I.ok,I.os,I.bare,I.base,I.loc,I.cell,I.free,I.freeC,fun p hp=>(Zf.mp hp).elim (fun z=>I.pin p (Bb _ z)) (h p),I.hok,I.len⟩
theorem oX {N:List Str} (hN:N.Nodup) {i j:Nat} {x:Str} (a:N[i]?=some x) (b:N[j]?=some x):i=j:=by
 obtain⟨h1,e1⟩:=Xa.mp a;obtain⟨h2,e2⟩:=Xa.mp b;exact(BG hN).mp (e1.trans e2.symm)
theorem mT {M:Model} {A:Around} {E:Value->Shared->Prop} {i:Nat} {x:Str} {v:V} {u:Value} {Q:Unit->Shared->Prop} (I:Inv X pins σ H s) (hN:X.N.Nodup) (hi:X.N[i]?=some x) (hx:Loc X.env.scope x) (r:RelV v u)
  (h:∀s',Inv X pins (σ.set i (some v)) H s'->(∃a,Heap.SameBut a s.heap s'.heap/\(a=X.env.locals∨X.env.cells.lookup x=some a))->Q () s') (hf:X.fn x=true∨X.env.scope.names.lookup x=some .local:=by first|exact .inl rfl|exact .inr rfl|assumption):wpAny M A (storeName X.env x u) Q E s:=by
 obtain⟨m,hn,hl⟩:=id I.loc;have hcls:(X.env.scope.kind == .class||(X.env.scope.kind == .module&&X.env.locals != X.env.globals))=false:=by rw[I.ok.kind];rfl
 have hiσ:i<σ.length:=by rw[I.len];exact(Xa.mp hi).1
 have cne:=I.cne;have tracked:∀{a:Addr} {h':Heap},(∃o,s.heap.get? a=some o/\H a=none)->Heap.SameBut a s.heap h'->HOk X.prog X.w H h':=fun {a h'} ha hs b ob e=>by
  obtain⟨_,_,hfree⟩:=ha;refine(I.hok b ob e).stay (fun c w' hc q=>(hs.2 c ?_).trans q) (fun _ q=>q) fun _ _ q=>q;rintro rfl;rcases hc with rfl|hc
  ·rw[hfree]at e;cases e
  ·rw[hfree]at hc;cases hc
 rcases hx with hk|hk
 ·refine wpAny_storeName_local hk hn (fun h' hn' hs=>?_) hcls;obtain⟨oL,_,_,hoL,_⟩:=id hn;refine h _ ⟨I.ok,I.os,I.bare,⟨fun b o e n hb hx=>?_,fun b o e n hb hx=>?_,I.base.free,fun b o e hx=>?_,I.base.tups,I.base.frzs,I.base.tbls⟩,⟨_,hn',fun j y v' e1 e2 e3=>?_⟩,fun y c e=>?_,I.free,I.freeC,fun p hp=>?_,tracked ⟨oL,hoL,I.free⟩ hs,by simpa using I.len⟩ ⟨_,hs,.inl rfl⟩
  ·exact(hs.2 b (Yg (Wc (Aj e) I.ok.above))).trans (I.base.keep b o e n hb hx)
  ·obtain⟨sl,e1⟩:=I.base.slot b o e n hb hx;exact⟨sl,(hs.2 b (Yg (Wc (Aj e) I.ok.above))).trans e1⟩
  ·obtain⟨o',e1⟩:=I.base.there b o e hx;exact⟨o',(hs.2 b (Yg (Wc (Aj e) I.ok.above))).trans e1⟩
  ·by_cases hj:j=i
   ·subst hj;rw[hi]at e1;cases e1;rw[Yl hiσ]at e2;cases e2;exact⟨u,r,.inl ⟨hk,by simp⟩⟩
   ·rw[List.getElem?_set_ne (AF hj)]at e2;obtain⟨u',r',q⟩:=hl j y v' e1 e2 e3;refine⟨u',r',?_⟩;rcases q with⟨k,e⟩|⟨k,c,e,z⟩
    ·refine .inl ⟨k,?_⟩;have:y≠x:=fun e=>hj (oX hN e1 (e ▸ hi));simp[this,e]
    ·exact .inr ⟨k,c,e,z.sameBut hs (cne y c e)⟩
  ·obtain⟨w',z⟩:=I.cell y c e;exact⟨w',z.sameBut hs (cne y c e)⟩
  ·obtain⟨e,n,ne,nf,d⟩:=I.pin p hp;exact⟨(hs.2 p.1 ne).trans e,n,ne,nf,d⟩
 ·have hfn:X.fn x=true:=by
   rcases hf with z|z
   ·exact z
   ·rw[z]at hk;cases hk
  obtain⟨c,hc⟩:=I.ok.has x (.inl hk);obtain⟨w',z⟩:=I.cell x c hc;refine wpAny_storeName_cell I.ok.kind hk hc z (fun h' hc' hs=>?_);obtain⟨oc,hoc,hocd⟩:=id z;refine h { s with heap:=h' } ⟨I.ok,I.os,I.bare,⟨fun b o e n hb hx=>?_,fun b o e n hb hx=>?_,I.base.free,fun b o e hx=>?_,I.base.tups,I.base.frzs,I.base.tbls⟩,⟨m,hn.sameBut hs (AF (cne x c hc)),fun j y v' e1 e2 e3=>?_⟩,fun y c' e=>?_,I.free,I.freeC,fun p hp=>?_,tracked ⟨oc,hoc,I.freeC x c hc⟩ hs,by simpa using I.len⟩ ⟨c,hs,.inr hc⟩
  ·exact(hs.2 b (Yg (Wc (Aj e) (I.ok.cab x c hfn hc)))).trans (I.base.keep b o e n hb hx)
  ·obtain⟨sl,e1⟩:=I.base.slot b o e n hb hx;exact⟨sl,(hs.2 b (Yg (Wc (Aj e) (I.ok.cab x c hfn hc)))).trans e1⟩
  ·obtain⟨o',e1⟩:=I.base.there b o e hx;exact⟨o',(hs.2 b (Yg (Wc (Aj e) (I.ok.cab x c hfn hc)))).trans e1⟩
  ·by_cases hj:j=i
   ·subst hj;rw[hi]at e1;cases e1;rw[Yl hiσ]at e2;cases e2;exact⟨u,r,.inr ⟨.inl hk,c,hc,hc'⟩⟩
   ·rw[List.getElem?_set_ne (AF hj)]at e2;obtain⟨u',r',q⟩:=hl j y v' e1 e2 e3;refine⟨u',r',?_⟩;rcases q with q|⟨k,c',e,z'⟩
    ·exact .inl q
    ·refine .inr ⟨k,c',e,z'.sameBut hs ?_⟩;rintro rfl;exact hj (oX hN e1 (I.ok.inj _ _ _ e hc ▸ hi))
  ·by_cases hcc:c'=c
   ·subst hcc;exact⟨_,hc'⟩
   ·obtain⟨w2,z2⟩:=I.cell y c' e;exact⟨w2,z2.sameBut hs hcc⟩
  ·obtain⟨e,n,ne,nf,d⟩:=I.pin p hp;refine⟨(hs.2 p.1 ?_).trans e,n,ne,nf,d⟩;intro q;rw[q,hoc]at e;have q':oc=p.2:=Option.some.inj e;exact d w' (by rw[← q'];exact hocd)
theorem uW (I:Inv X pins σ H s) (hN:X.N.Nodup) (hi:X.N[i]?=some x) (hx:Loc X.env.scope x) (r:RelV v u)
  (h:∀s',Inv X pins (σ.set i (some v)) H s'->Q () s') (hf:X.fn x=true∨X.env.scope.names.lookup x=some .local:=by first|exact .inl rfl|exact .inr rfl|assumption):wpAny M A (storeName X.env x u) Q E s :=
 mT I hN hi hx r (fun s' I' _=>h s' I') hf
theorem Inv.call' {s':Shared} (I:Inv X pins σ H s) (ho:s'.os=s.os) (u:Un (frs X.stack) ch H H' s.heap s'.heap) (hok:HOk X.prog X.w H' s'.heap) (hg:AllBare s'.gens)
  (hch:∀b∈ch,(b∈X.ex∨X.s₀.heap.objs.size<=b)/\b≠X.env.locals/\(∀x c,X.env.cells.lookup x=some c->c≠b)/\∀p∈X.pn++pins,p.1≠b):Inv X pins σ H' s':=by
 obtain⟨h',g',d',t',o'⟩:=s';have e:o'=s.os:=ho;subst e;exact I.call (g':=g') (t':=t') (d':=d') u hok hg hch
end
abbrev XK:=Value->Option Addr->Hp->Prop
abbrev St:=List (Option V)
abbrev VK:=V->Hp->Prop
abbrev TE:=St->Hp->VK->Prop
abbrev TT:=St->Hp->(Bool->Hp->Prop)->Prop
abbrev TA:=St->Hp->(List V->Hp->Prop)->Prop
structure Ends where
 nx:St->Hp->Prop
 rt:VK
 bk:St->Hp->Prop:=fun _ _=>False
 ct:St->Hp->Prop:=fun _ _=>False
abbrev TS:=Ends->St->Hp->Prop
inductive EP (X:Cx) (pins:List (Addr×Obj)) (σ:St) (Q:VK) (u:Value) (s':Shared):Prop
 | mk (v:V) (H':Hp) (I:Inv X pins σ H' s') (r:RelV v u) (q:Q v H')
def TP (X:Cx) (pins:List (Addr×Obj)) (σ:St) (Q:Bool->Hp->Prop) (b:Bool) (s':Shared):Prop:=∃H',Inv X pins σ H' s'/\Q b H'
inductive AP (X:Cx) (pins:List (Addr×Obj)) (σ:St) (Q:List V->Hp->Prop) (us:List Value) (s':Shared):Prop
 | mk (vs:List V) (H':Hp) (I:Inv X pins σ H' s') (r:Vals vs us) (q:Q vs H')
def SP (X:Cx) (pins:List (Addr×Obj)) (D:Ends) (f:Flow) (s':Shared):Prop :=
 match f with
 | .next=>∃σ' H',Inv X pins σ' H' s'/\D.nx σ' H'
 | .brk=>∃σ' H',Inv X pins σ' H' s'/\D.bk σ' H'
 | .cont=>∃σ' H',Inv X pins σ' H' s'/\D.ct σ' H'
 | .ret u=>∃v σ' H',Inv X pins σ' H' s'/\RelV v u/\D.rt v H'
def PE (X:Cx) (e:Expr) (t:TE):Prop :=
 ∀(pins:List (Addr×Obj)) (s:Shared) (σ:St) (H:Hp) (Q:VK),Inv X pins σ H s->t σ H Q->wpAny (model X.prog X.w) X.A (eval e X.env) (EP X pins σ Q) X.xe s
def PT (X:Cx) (e:Expr) (t:TT):Prop :=
 ∀(pins:List (Addr×Obj)) (s:Shared) (σ:St) (H:Hp) (Q:Bool->Hp->Prop),Inv X pins σ H s->t σ H Q->wpAny (model X.prog X.w) X.A (isTrue e X.env (eval e X.env)) (TP X pins σ Q) X.xe s
def PW (X:Cx) (e:Expr) (t:TT):Prop :=
 ∀(whole:Sem Value) (pins:List (Addr×Obj)) (s:Shared) (σ:St) (H:Hp) (Q:Bool->Hp->Prop),Inv X pins σ H s->t σ H Q->wpAny (model X.prog X.w) X.A (isTrue e X.env whole) (TP X pins σ Q) X.xe s
theorem PW.pt (h:PW X e t):PT X e t:=h _
def PA (X:Cx) (es:List Expr) (t:TA):Prop :=
 ∀(pos:Pos) (pins:List (Addr×Obj)) (s:Shared) (σ:St) (H:Hp) (Q:List V->Hp->Prop),Inv X pins σ H s->t σ H Q->wpAny (model X.prog X.w) X.A (spliced (backTo pos (starEach es X.env))) (AP X pins σ Q) X.xe s
def PS (X:Cx) (st:Stmt) (t:TS):Prop :=
 ∀(pins:List (Addr×Obj)) (s:Shared) (σ:St) (H:Hp) (D:Ends),Inv X pins σ H s->t D σ H->wpAny (model X.prog X.w) X.A (exec st X.env) (SP X pins D) X.xe s
def PSs (X:Cx) (st:List Stmt) (t:TS):Prop :=
 ∀(pins:List (Addr×Obj)) (s:Shared) (σ:St) (H:Hp) (D:Ends),Inv X pins σ H s->t D σ H->wpAny (model X.prog X.w) X.A (execs st X.env) (SP X pins D) X.xe s
theorem thn (h:wpAny M A t Q E s) (hQ:∀a s,Q a s->Q' a s):wpAny M A t Q' E s:=AC h hQ fun _ _ x=>x
end L2
namespace L2
open PySem PySem.Spec PyProof.Rows
section
variable {X:Cx}
def gc (i:Nat):TE:=fun σ H Q=>∃v,σ[i]?=some (some v)/\Q v H
def tC (v:V):TE:=fun _ H Q=>Q v H
theorem Dt (hN:X.N[i]?=some x) (hv:Vis X.env.scope x) (hd:(x == ("__debug__":Str))=false:=by decide) (hcd:(x == ("__classdict__":Str))=false:=by decide):PE X (.Name x pos) (gc i):=by
 intro pins s σ H Q I h;obtain⟨v,e,h⟩:=h;obtain⟨m,hn,hl⟩:=I.loc;obtain⟨u,r,l⟩:=hl i x v hN e hv;have fin:EP X pins σ Q u s:=⟨v,H,I,r,h⟩;rcases l with⟨hk,hm⟩|⟨hk,c,hc,hcell⟩
 ·exact wpAny_Name (wpAny_loadName_local I.ok.kind hk hn hm fin) hd
 ·rcases hk with hk|hk
  ·exact wpAny_Name (wpAny_loadName_cell I.ok.kind hk hc hcell fin) hd
  ·exact wpAny_Name (wpAny_loadName_free I.ok.kind hk hc hcell fin hcd) hd
theorem ah {i j pos}:PE X (.Constant (.int i) j pos) (tC (.int i)):=fun _ _ _ H _ I h=>wpAny_Constant_int ⟨.int i,H,I.tok _,⟨_,rfl⟩,h⟩
theorem gf {b j pos}:PE X (.Constant (.bool b) j pos) (tC (.bl b)):=fun _ _ _ H _ I h=>Constant_bool ⟨.bl b,H,I,rfl,h⟩
def Gl (X:Cx) (x:Str):Prop:=X.env.kindOf x=some .globalImplicit
theorem xP (I:Inv X pins σ H s) (hg:Gl X x) (hm:X.mg x=some u) (h:Q u s)
  (hd:(x == ("__debug__":Str))=false:=by decide):wpAny (model X.prog X.w) X.A (eval (.Name x pos) X.env) Q E s :=
 CN I.ok.kind hg (Calls.loadGlobal_global (by rw[I.ok.glob];exact I.mod.glob.keeps I.bk) hm h) hd
theorem gh (I:Inv X pins σ H s) (hg:Gl X x) (hm:X.mg x=none) (hv:bootBuiltins x=some u) (h:Q u s)
  (hn:x≠"__name__":=by decide) (hd:(x == ("__debug__":Str))=false:=by decide):wpAny (model X.prog X.w) X.A (eval (.Name x pos) X.env) Q E s:=by
 obtain⟨mb,h1,h2⟩:=I.mod.blt;exact CN I.ok.kind hg (Calls.loadGlobal_builtin (by rw[I.ok.glob];exact I.mod.glob.keeps I.bk) hm (by rw[I.ok.blt];exact h1.keeps I.bk) ((h2 x hn).trans hv) h) hd
theorem xQ (hg:Gl X x) (hm:X.mg x=none) (hv:bootBuiltins x=some u) (r:RelV v u) (hn:x≠"__name__":=by decide) (hd:(x == ("__debug__":Str))=false:=by decide):PE X (.Name x pos) (tC v) :=
 fun _ _ _ H _ I h=>gh I hg hm hv ⟨v,H,I,r,h⟩ hn hd
variable {a b:Expr} {ta tb:TE} {pos:Pos}
def tB (t:TE):TT:=fun σ H Q=>t σ H fun x H1=>∃c,x=.bl c/\Q c H1
theorem gi {e:Expr} (h:PE X e t) (he:∀whole,isTrue e X.env whole=(do let v ← whole;standAt e.pos;holding [v] (truthy v)):=by intro _;rfl):PT X e (tB t):=by
 intro pins s σ H Q I hw;refine isTrue_plain (thn (h pins s σ H _ I hw) fun v s1 zz9=>?_) (he _);obtain⟨x,H1,I1,r1,q1⟩:=zz9;obtain⟨d,rfl,q⟩:=q1;cases r1;exact AG ⟨H1,I1,q⟩
variable {tA tB':TT} {rest:List Expr}
def FX (t u:TT):TT:=fun σ H Q=>t σ H fun c H1=>if c=true then u σ H1 Q else Q false H1
def tOr (t u:TT):TT:=fun σ H Q=>t σ H fun c H1=>if c=true then Q true H1 else u σ H1 Q
def FY (t:TT):TT:=fun σ H Q=>t σ H fun c H1=>Q (!c) H1
theorem rX (ha:PT X a tA):PW X (.BoolOp .And [a] pos) tA:=by
 intro wh pins s σ H Q I h;refine isTrue_and (thn (ha pins s σ H Q I h) fun c s1 e=>?_);cases c with
 | true=>exact isTrue_and_nil e
 | false=>exact e
theorem uX (ha:PT X a tA):PW X (.BoolOp .Or [a] pos) tA:=by
 intro wh pins s σ H Q I h;refine isTrue_or (thn (ha pins s σ H Q I h) fun c s1 e=>?_);cases c with
 | false=>exact isTrue_or_nil e
 | true=>exact e
theorem uY (ha:PT X a tA) (hb:PW X (.BoolOp .And (b::rest) pos) tB'):PW X (.BoolOp .And (a::b::rest) pos) (FX tA tB'):=by
 intro wh pins s σ H Q I h;refine isTrue_and (thn (ha pins s σ H _ I h) fun c s1 zz9=>?_);obtain⟨H1,I1,q1⟩:=zz9;cases c with
 | true=>exact hb wh pins s1 σ H1 Q I1 q1
 | false=>exact⟨H1,I1,q1⟩
theorem uZ (ha:PT X a tA) (hb:PW X (.BoolOp .Or (b::rest) pos) tB'):PW X (.BoolOp .Or (a::b::rest) pos) (tOr tA tB'):=by
 intro wh pins s σ H Q I h;refine isTrue_or (thn (ha pins s σ H _ I h) fun c s1 zz9=>?_);obtain⟨H1,I1,q1⟩:=zz9;cases c with
 | true=>exact⟨H1,I1,q1⟩
 | false=>exact hb wh pins s1 σ H1 Q I1 q1
theorem kS (ha:PT X a tA):PT X (.UnaryOp .Not a pos) (FY tA):=by
 intro pins s σ H Q I h;exact isTrue_not (ha pins s σ H (fun c H1=>Q (!c) H1) I h)
def zn (ta tb:TE):TE:=fun σ H Q=>ta σ H fun x H1=>∃c,x=.bl c/\if c=true then tb σ H1 Q else Q (.bl false) H1
theorem nN {op} (h:PE X a t):PE X (.BoolOp op [a] pos) t:=fun pins s σ H Q I hw=>BoolOp_one (h pins s σ H Q I hw)
theorem kT (ha:PE X a ta) (hb:PE X (.BoolOp .And (b::rest) pos) tb):PE X (.BoolOp .And (a::b::rest) pos) (zn ta tb):=by
 intro pins s σ H Q I h;refine BoolOp_and (thn (ha pins s σ H _ I h) fun v s1 zz9=>?_);obtain⟨x,H1,I1,r1,q1⟩:=zz9;obtain⟨c,rfl,q1⟩:=q1;cases r1;refine AG ?_;cases c with
 | true=>exact hb pins s1 σ H1 Q I1 q1
 | false=>exact⟨.bl false,H1,I1,rfl,q1⟩
end
end L2
namespace L2
open PySem PySem.Spec PyProof.Rows
def SqL (K:Ab) (H:Hp) (a:Addr) (xs:List V):Prop :=
 Rd H a (.lst xs) ∨
  ∃(o:Obj) (its:Array Value) (n:Nat),K.lookup a=some o/\o.cls=.type "list"/\o.dict=none/\o.data=.seq its n/\its.size<=sizeLine/\Vals xs its.toList
def SqT (K:Ab) (H:Hp) (a:Addr) (xs:List V):Prop :=
 Rd H a (.tup xs) ∨
  ∃(o:Obj) (its:Array Value) (n:Nat),K.lookup a=some o/\o.cls=.type "tuple"/\o.data=.seq its n/\its.size<=sizeLine/\Vals xs its.toList
def G4:Value->Option V
 | .none=>some .non
 | .bool b=>some (.bl b)
 | .int i _=>some (.int i)
 | .str x _=>some (.str x)
 | .bytes b _=>some (.byt b)
 | .float b _=>some (.flt b)
 | .ref a=>some (.ref a)
 | .type n=>some (.ty n)
 | _=>none
theorem RelV.abs (r:RelV x u):G4 u=some x:=by
 cases x with
 | non=>cases r;rfl
 | bl _=>cases r;rfl
 | int _=>obtain⟨t,rfl⟩:=r;rfl
 | str _=>obtain⟨t,rfl⟩:=r;rfl
 | byt _=>obtain⟨t,rfl⟩:=r;rfl
 | flt _=>obtain⟨t,rfl⟩:=r;rfl
 | ref _=>cases r;rfl
 | ty _=>cases r;rfl
theorem RelV.inj (r:RelV x u) (q:RelV y u):x=y:=Option.some.inj (r.abs.symm.trans q.abs)
theorem Vals.inj:∀{xs ys:List V} {us:List Value},Vals xs us->Vals ys us->xs=ys
 | _,_,_,.nil,.nil=>rfl
 | _,_,_,.cons r t,.cons r' t'=>by rw[r.inj r',Vals.inj t t']
section
variable {X:Cx} {pins:List (Addr×Obj)} {σ:St} {H:Hp} {s:Shared} {a:Addr} {xs ys:List V}
theorem Inv.list (I:Inv X pins σ H s) (h:SqL X.K H a xs):∃its:List Value,Vals xs its/\PlainL s.heap a its.toArray/\xs.length<=sizeLine:=by
 rcases h with h|⟨o,its,n,hk,hc,hd,hs,hz,r⟩
 ·obtain⟨z,its,n,r,e⟩:=h.ok I.hok;exact⟨its,r,⟨_,n,e,rfl,rfl,rfl⟩,z⟩
 ·refine⟨its.toList,r,⟨o,n,I.kIn a o hk,hc,hd,by simpa using hs⟩,?_⟩
  have e:=r.length;simp only[Xd]at e;lia
theorem Inv.tuple (I:Inv X pins σ H s) (h:SqT X.K H a xs):∃its:List Value,Vals xs its/\IsTup s.heap a its.toArray/\xs.length<=sizeLine:=by
 rcases h with h|⟨o,its,n,hk,hc,hs,hz,r⟩
 ·obtain⟨z,its,r,p⟩:=h.ok I.hok;exact⟨its,r,p,z⟩
 ·refine⟨its.toList,r,⟨o,I.kIn a o hk,hc,n,by simpa using hs⟩,?_⟩
  have e:=r.length;simp only[Xd]at e;lia
theorem Inv.list_inj (I:Inv X pins σ H s) (h:SqL X.K H a xs) (h':SqL X.K H a ys):xs=ys:=by
 obtain⟨its,r,⟨o,n,e,_,_,d⟩,_⟩:=I.list h;obtain⟨its',r',⟨o',n',e',_,_,d'⟩,_⟩:=I.list h';rw[e]at e';cases e';rw[d]at d';injection d' with d1 _;have:its=its':=by simpa using congrArg Array.toList d1
 subst this;exact r.inj r'
theorem Inv.tuple_inj (I:Inv X pins σ H s) (h:SqT X.K H a xs) (h':SqT X.K H a ys):xs=ys:=by
 obtain⟨its,r,⟨o,e,_,n,d⟩,_⟩:=I.tuple h;obtain⟨its',r',⟨o',e',_,n',d'⟩,_⟩:=I.tuple h';rw[e]at e';cases e';rw[d]at d';injection d' with d1 _;have:its=its':=by simpa using congrArg Array.toList d1
 subst this;exact r.inj r'
end
abbrev Cx.wish (X:Cx) (E:Value->Shared->Prop):Cx:={ X with xe:=E }
abbrev Cx.nox (X:Cx):Cx:=X.wish fun _ _=>False
theorem Cx.Ok.wish {X:Cx} (ok:X.Ok) (E:Value->Shared->Prop):(X.wish E).Ok :=
 ⟨ok.mod,ok.kind,ok.glob,ok.blt,ok.above,ok.inj,ok.has,ok.cab,ok.hd,ok.frames,ok.stk,ok.exf,ok.bs,ok.bsz,ok.noex,ok.exfs,ok.funs,ok.frf⟩
theorem Cx.Ok.unwish {X:Cx} (ok:(X.wish E).Ok):X.Ok :=
 ⟨ok.mod,ok.kind,ok.glob,ok.blt,ok.above,ok.inj,ok.has,ok.cab,ok.hd,ok.frames,ok.stk,ok.exf,ok.bs,ok.bsz,ok.noex,ok.exfs,ok.funs,ok.frf⟩
section
variable {X:Cx} {pins:List (Addr×Obj)} {σ:St} {H:Hp} {s:Shared} {E:Value->Shared->Prop}
theorem Inv.wish (I:Inv X pins σ H s) (E:Value->Shared->Prop):Inv (X.wish E) pins σ H s:=⟨I.ok.wish E,I.os,I.bare,I.base,I.loc,I.cell,I.free,I.freeC,I.pin,I.hok,I.len⟩
theorem Inv.unwish (I:Inv (X.wish E) pins σ H s):Inv X pins σ H s:=⟨I.ok.unwish,I.os,I.bare,I.base,I.loc,I.cell,I.free,I.freeC,I.pin,I.hok,I.len⟩
theorem SP.unwish (h:SP (X.wish E) pins D f s'):SP X pins D f s':=by
 cases f with
 | next=>obtain⟨σ',H',I,q⟩:=h;exact⟨σ',H',I.unwish,q⟩
 | brk=>obtain⟨σ',H',I,q⟩:=h;exact⟨σ',H',I.unwish,q⟩
 | cont=>obtain⟨σ',H',I,q⟩:=h;exact⟨σ',H',I.unwish,q⟩
 | ret u=>obtain⟨v,σ',H',I,r,q⟩:=h;exact⟨v,σ',H',I.unwish,r,q⟩
theorem PSs.nox {st:List Stmt} {t:TS} (h:PSs X.nox st t):PSs X st t:=fun pins s σ H D I hw =>
 AC (h pins s σ H D (I.wish _) hw) (fun _ _ q=>q.unwish) fun _ _ z=>False.elim z
end
section
variable {X:Cx} {st:Stmt} {rest:List Stmt} {t u:TS} {e:Expr} {te:TE} {pos:Pos}
def jV:TS:=fun D σ H=>D.nx σ H
def kU (t u:TS):TS:=fun D σ H=>t { D with nx:=u D } σ H
theorem bH:PSs X [] jV:=fun _ _ σ H _ I h=>Cz ⟨σ,H,I,h⟩
theorem ak (h1:PS X st t) (h2:PSs X rest u):PSs X (st::rest) (kU t u):=by
 intro pins s σ H D I h;refine wpAny_execs_cons (thn (h1 pins s σ H { D with nx:=u D } I h) fun f s1 q=>?_);cases f with
 | next =>
  obtain⟨σ',H',I',q⟩:=q;exact h2 pins s1 σ' H' D I' q
 | ret v=>exact q
 | brk=>exact q
 | cont=>exact q
theorem aw (h1:PS X st t):PSs X [st] t:=by
 intro pins s σ H D I h;refine wpAny_execs_cons (thn (h1 pins s σ H D I h) fun f s1 q=>?_);cases f with
 | next=>exact Cz q
 | ret v=>exact q
 | brk=>exact q
 | cont=>exact q
theorem Inv.quiet (I:Inv X pins σ H s):interactive X.env=false:=by simp[interactive,I.ok.kind]
def oY (te:TE):TS:=fun D σ H=>te σ H fun _ H1=>D.nx σ H1
theorem cL (he:PE X e te) (hs:swapsWith e none pos.line X.env=pure false:=by rfl):PS X (.Expr e pos) (oY te):=by
 intro pins s σ H D I h;exact wpAny_Expr_any (thn (he pins s σ H _ I h) fun v s1 ⟨x,H1,I1,r1,q1⟩=>⟨σ,H1,I1,q1⟩) I.quiet hs
def FZ (te:TE):TS:=fun D σ H=>te σ H D.rt
theorem bp (he:PE X e te):PS X (.Return (some e) pos) (FZ te):=by
 intro pins s σ H D I h;exact wpAny_Return_some (thn (he pins s σ H _ I h) fun v s1 ⟨x,H1,I1,r1,q1⟩=>⟨x,σ,H1,I1,r1,q1⟩)
def oZ (c:TT) (t u:TS):TS:=fun D σ H=>c σ H fun b H1=>if b=true then t D σ H1 else u D σ H1
theorem b7 (hc:PT X c tc) (ha:PSs X a t) (hb:PSs X b u):PS X (.If c a b pos) (oZ tc t u):=by
 intro pins s σ H D I h;refine wpAny_If (thn (hc pins s σ H _ I h) fun d s1 zz9=>?_);obtain⟨H1,I1,q1⟩:=zz9;cases d with
 | true=>exact ha pins s1 σ H1 D I1 q1
 | false=>exact hb pins s1 σ H1 D I1 q1
end
abbrev TG:=V->St->Hp->(St->Hp->Prop)->Prop
abbrev TGs:=List V->St->Hp->(St->Hp->Prop)->Prop
def PG (X:Cx) (target:Expr) (t:TG):Prop :=
 ∀(pins:List (Addr×Obj)) (s:Shared) (σ:St) (H:Hp) (v:V) (u:Value) (Q:St->Hp->Prop),Inv X pins σ H s->RelV v u->t v σ H Q ->
  wpAny (model X.prog X.w) X.A (assign target X.env u) (fun _ s'=>∃σ' H',Inv X pins σ' H' s'/\Q σ' H') X.xe s
def PGs (X:Cx) (ts:List Expr) (t:TGs):Prop :=
 ∀(pins:List (Addr×Obj)) (s:Shared) (σ:St) (H:Hp) (vs:List V) (us:List Value) (Q:St->Hp->Prop),Inv X pins σ H s->Vals vs us->t vs σ H Q ->
  wpAny (model X.prog X.w) X.A (assignInOrder ((assignEach ts X.env).map (·.2)) us) (fun _ s'=>∃σ' H',Inv X pins σ' H' s'/\Q σ' H') X.xe s
abbrev xR:=V->V->V->Hp->(Hp->Prop)->Prop
def Du (X:Cx) (t:xR):Prop :=
 ∀(pins:List (Addr×Obj)) (s:Shared) (σ:St) (H:Hp) (o i v:V) (ov iv u:Value) (Q:Hp->Prop),Inv X pins σ H s->RelV o ov->RelV i iv->RelV v u->t o i v H Q ->
  wpAny (model X.prog X.w) X.A (setItem ov iv u) (fun _ s'=>∃H',Inv X pins σ H' s'/\Q H') X.xe s
section
variable {X:Cx} {pos:Pos}
def dj (i:Nat):TG:=fun v σ H Q=>Q (σ.set i (some v)) H
theorem rY (hN:X.N.Nodup) (hi:X.N[i]?=some x) (hx:Loc X.env.scope x) (hf:X.fn x=true∨X.env.scope.names.lookup x=some .local:=by first|exact .inl rfl|exact .inr rfl|assumption):PG X (.Name x pos) (dj i):=by
 intro pins s σ H v u Q I r h;exact wpAny_assign_Name (uW I hN hi hx r (fun s' I'=>⟨_,H,I',h⟩) hf)
def F3:TGs:=fun vs σ H Q=>vs=[]/\Q σ H
def zo (t:TG) (u:TGs):TGs:=fun vs σ H Q=>∃v r,vs=v::r/\t v σ H fun σ' H'=>u r σ' H' Q
theorem xS:PGs X [] F3:=by
 intro pins s σ H vs us Q I r h;obtain⟨e,h⟩:=h;subst e;cases r;exact assignInOrder_nil ⟨σ,H,I,h⟩
theorem o0 (h1:PG X e t) (h2:PGs X es u)
  (hs:(assignEach (e::es) X.env).map (·.2)=assign e X.env::(assignEach es X.env).map (·.2):=by rfl):PGs X (e::es) (zo t u):=by
 intro pins s σ H vs us Q I r h;obtain⟨v,vr,e1,h⟩:=h;subst e1;cases r with
 | cons r rr =>
  rw[hs];refine assignInOrder_cons (thn (h1 pins s σ H _ _ _ I r h) fun _ s1 zz9=>?_);obtain⟨σ1,H1,I1,q1⟩:=zz9;exact h2 pins s1 σ1 H1 _ _ Q I1 rr q1
def Dv (K:Ab) (n:Nat) (t:TGs):TG:=fun v σ H Q=>∃a xs,v=.ref a/\SqT K H a xs/\xs.length=n/\t xs σ H Q
theorem Dw (hc:X.calm=true) (h:PGs X es t)
  (hn:(assignEach es X.env).length=n:=by rfl) (hst:(assignEach es X.env).findIdx? (·.1)=none:=by rfl):PG X (.Tuple es k pos) (Dv X.K n t):=by
 intro pins s σ H v u Q I r hw;obtain⟨a,xs,e1,hq,hl,hw⟩:=hw;subst e1;cases r;obtain⟨its,rv,ht,hz⟩:=I.tuple hq;refine assign_Tuple_tuple (I.ok.hd hc) ht (by simp[hn,← hl,rv.length]) hst fun h' hx=>?_
 have I1:Inv X pins σ H { s with heap:=h' }:=I.kept (t':=s.toks) fun b o e=>hx b o (Yg (Aj e)) e;exact h pins _ σ H xs _ Q I1 (by simpa using rv) hw
def F4 (to ti:TE) (t:xR):TG:=fun v σ H Q=>to σ H fun o H1=>ti σ H1 fun i H2=>t o i v H2 fun H3=>Q σ H3
theorem ir (ho:PE X o to) (hi:PE X i ti) (hs:Du X t)
  (ha:∀v,assign (.Subscript o i pos) X.env v=(do
   let ov ← holding [v] (eval o X.env)
   let iv ← holding [v,ov] (eval i X.env)
   standAt pos
   holding [v,ov,iv] (setItem ov iv v)
   release [v,ov,iv] []):=by intro _;rfl):PG X (.Subscript o i pos) (F4 to ti t):=by
 intro pins s σ H v u Q I r h;rw[ha];refine Aa (Aq (thn (ho pins s σ H _ I h) fun ov s1 zz9=>?_));obtain⟨x,H1,I1,r1,q1⟩:=zz9;refine Aa (Aq (thn (hi pins s1 σ H1 _ I1 q1) fun iv s2 zz9=>?_));obtain⟨y,H2,I2,r2,q2⟩:=zz9;refine Aa (B5 (Aa (Aq (thn (hs pins s2 σ H2 x y v ov iv u _ I2 r1 r2 r q2) fun _ s3 zz9=>?_))));obtain⟨H3,I3,q3⟩:=zz9;exact wpAny_release ⟨σ,H3,I3,q3⟩
def kr (te:TE) (g:TG):TS:=fun D σ H=>te σ H fun x H1=>g x σ H1 D.nx
theorem fz (he:PE X e te) (hg:PG X tg g) (hs:swapsWithSole [tg] e pos.line X.env=pure false:=by rfl) (hw:swappedStores [tg] e X.env=pure none:=by rfl)
  (h1:(assignEach [tg] X.env).map (·.2)=[assign tg X.env]:=by rfl):PS X (.Assign [tg] e pos) (kr te g):=by
 intro pins s σ H D I h;refine wpAny_Assign_stores (thn (he pins s σ H _ I h) fun v s1 zz9=>?_) hs hw;obtain⟨x,H1,I1,r1,q1⟩:=zz9;rw[h1];exact thn (hg pins s1 σ H1 x v _ I1 r1 q1) fun _ s2 q=>q
end
structure It where
 go:Nat->Hp->Prop
 yld:Nat->Hp->V->Hp->Prop
 stop:Nat->Hp->Prop
def mG (X:Cx) (pins:List (Addr×Obj)) (H:Hp) (b:Addr):Prop :=
 H b=none/\b≠X.env.locals/\b∉X.fs/\(b∈X.ex∨X.s₀.heap.objs.size<=b)/\(∀x c,X.env.cells.lookup x=some c->c≠b)/\∀p∈X.pn++pins,p.1≠b
theorem Inv.fpOk {s:Shared} (I:Inv X pins σ H s) (hb:s.heap.objs.size<=b) (hn:H' b=none):mG X pins H' b:=by
 refine⟨hn,Wk (Wc I.lt hb),I.nofs hb,.inr (Qd I.sz hb),fun x c e z=>?_,fun p hp z=>?_⟩
 ·obtain⟨v,q⟩:=I.cell x c e;exact absurd (Wc q.lt (by rw[z];exact hb)) (Yi _)
 ·exact absurd (Wc (Aj (I.pin p hp).1) (by rw[z];exact hb)) (Yi _)
structure Turn (P:Program) (w:World) (K:Ab) (tg:Expr) (J:It) (fp:List Addr) (it:Addr) (tn:Nat->Heap->Prop):Prop where
 mem:it∈fp
 obj:∀i h,tn i h->∀b∈fp,∃o,h.get? b=some o/\∀v,o.data≠.cell v
 keep:∀i h h',tn i h->(∀b∈fp,∀o,h.get? b=some o->h'.get? b=some o)->tn i h'
 item:∀(X:Cx),X.prog=P->X.w=w->X.K=K->X.calm=true->∀(i:Nat) (pins:List (Addr×Obj)) (s:Shared) (σ:St) (H:Hp) (E:Value->Shared->Prop),Inv X pins σ H s->(∀b∈fp,mG X pins H b)->tn i s.heap->J.go i H ->
  wpAny (model P w) X.A (pyNext (.ref it)) (fun r s1=>∃u,r=some u /\
   wpAny (model P w) X.A (letOwnedTupleGo tg (.ref it) u) (fun _ s2=>∃x H',Inv X pins σ H' s2/\RelV x u/\J.yld i H x H'/\tn (i+1) s2.heap/\∀b∈fp,H' b=none) E s1) E s
 done:∀(X:Cx),X.prog=P->X.w=w->X.K=K->X.calm=true->∀(i:Nat) (pins:List (Addr×Obj)) (s:Shared) (σ:St) (H:Hp) (E:Value->Shared->Prop),Inv X pins σ H s->(∀b∈fp,mG X pins H b)->tn i s.heap->J.stop i H ->
  wpAny (model P w) X.A (pyNext (.ref it)) (fun r s1=>r=none/\Inv X pins σ H s1) E s
 self:∀(A:Around) (i:Nat) (s:Shared) (Q:Value->Shared->Prop) (E:Value->Shared->Prop),tn i s.heap->Q (.ref it) s->wpAny (model P w) A (pyIter (.ref it)) Q E s
abbrev TI:=St->Hp->(It->Hp->Prop)->Prop
inductive PIE (X:Cx) (pins:List (Addr×Obj)) (σ:St) (tg:Expr) (R:It->Hp->Prop) (itv:Value) (s2:Shared):Prop
 | mk (it:Addr) (fp:List Addr) (tn:Nat->Heap->Prop) (J:It) (H':Hp) (e:itv=.ref it) (I:Inv X pins σ H' s2) (T:Turn X.prog X.w X.K tg J fp it tn) (t0:tn 0 s2.heap) (fo:∀b∈fp,mG X pins H' b) (r:R J H')
def PI (X:Cx) (tg iter:Expr) (wi:TI):Prop :=
 ∀(pins:List (Addr×Obj)) (s:Shared) (σ:St) (H:Hp) (R:It->Hp->Prop),Inv X pins σ H s->wi σ H R ->
  wpAny (model X.prog X.w) X.A (eval iter X.env) (fun v s1=>wpAny (model X.prog X.w) X.A (pyIter v) (PIE X pins σ tg R) X.xe s1) X.xe s
theorem kW {s : Shared} {o : Obj} (ho : s.heap.get? it = some o) (hc : o.cls = .type n) (hd : o.data = .fields vs)
    (hn : ["enumerate", "zip", "dict_itemiterator", "dict_reverseitemiterator", "odict_iterator", "itertools.zip_longest", "itertools.pairwise"].contains n = false) (hQ : Q () s) : wpAny M A (letOwnedTupleGo tg (.ref it) u) Q E s := by
  unfold letOwnedTupleGo;cases tg <;> first
    | exact Ac hQ
    | (cases u <;> first
        | exact Ac hQ
        | (refine Aa (wpAny_load ho ?_)
           rw [hc, hd];show wpAny M A (if (["enumerate", "zip", "dict_itemiterator", "dict_reverseitemiterator", "odict_iterator", "itertools.zip_longest", "itertools.pairwise"].contains n && vs[0]? == some (rawInt _)) = true then _ else _) Q E s;rw [Ah (by intro h; rw [hn, CO] at h; cases h)]
           exact Ac hQ))
def Itl (K:Ab) (a:Addr):It :=
 ⟨fun i H=>∃xs x,SqL K H a xs/\xs[i]?=some x,fun i H x H'=>H'=H/\∀xs,SqL K H a xs->xs[i]?=some x,fun i H=>∃xs,SqL K H a xs/\xs.length<=i⟩
def Itt (K:Ab) (a:Addr):It :=
 ⟨fun i H=>∃xs x,SqT K H a xs/\xs[i]?=some x,fun i H x H'=>H'=H/\∀xs,SqT K H a xs->xs[i]?=some x,fun i H=>∃xs,SqT K H a xs/\xs.length<=i⟩
def Itr (lo:Int) (n:Nat):It:=⟨fun i _=>i<n,fun i H x H'=>H'=H/\x=.int (lo+i),fun i _=>n<=i⟩
theorem tL {P:Program} {w:World} {K:Ab} {tg:Expr} (a it:Addr):Turn P w K tg (Itl K a) [it] it (fun i h=>h.IsListIter it a i) where
 mem:=by simp
 obj:=fun i h st b hb=>by
  have e:b=it:=by simpa using hb
  subst e;obtain⟨o,e,c,d⟩:=st;exact⟨o,e,fun v z=>by rw[d]at z;cases z⟩
 keep:=fun i h h' st k=>st.at fun o e=>k it (by simp) o e
 item:=by
  intro X hP hw hK hc i pins s σ H E I hf st hg;subst hP hw hK;obtain⟨xs,x,hq,hx⟩:=hg;obtain⟨its,rv,p,hz⟩:=I.list hq;obtain⟨u,hu,ru⟩:=rv.get hx;obtain⟨f0,f1,f2,f3,f4,f5⟩:=hf it (by simp)
  refine wpAny_pyNext_list_item st p.isList (x:=u) (by simpa using hu) fun h' st' sb=>?_
  have I1:Inv X pins σ H { s with heap:=h' }:=I.turned (t':=s.toks) (fun b o hb e=>(sb.2 b hb).trans e) f0 f1 f3 f4 f5;obtain⟨o,e,c,d⟩:=id st';exact⟨u,rfl,kW (s:={ s with heap:=h' }) e c d (by decide) ⟨x,H,I1,ru,⟨rfl,fun ys hy=>by rw[I.list_inj hy hq];exact hx⟩,st',fun b hb=>(hf b hb).1⟩⟩
 done:=by
  intro X hP hw hK hc i pins s σ H E I hf st hg;subst hP hw hK;obtain⟨xs,hq,hx⟩:=hg;obtain⟨its,rv,p,hz⟩:=I.list hq;obtain⟨f0,f1,f2,f3,f4,f5⟩:=hf it (by simp)
  have hl:=rv.length;exact wpAny_pyNext_list_end (I.ok.hd hc) st p.isList (by simp;lia) fun h' eb=>⟨rfl,I.turned (t':=s.toks) (fun b o hb e=>eb b o hb e) f0 f1 f3 f4 f5⟩
 self:=fun _ _ _ _ _ st h=>wpAny_pyIter_listiter st h
theorem qI {P:Program} {w:World} {K:Ab} {tg:Expr} (a it:Addr):Turn P w K tg (Itt K a) [it] it (fun i h=>h.IsTupleIter it a i) where
 mem:=by simp
 obj:=fun i h st b hb=>by
  have e:b=it:=by simpa using hb
  subst e;obtain⟨o,e,c,d⟩:=st;exact⟨o,e,fun v z=>by rw[d]at z;cases z⟩
 keep:=fun i h h' st k=>st.at fun o e=>k it (by simp) o e
 item:=by
  intro X hP hw hK hc i pins s σ H E I hf st hg;subst hP hw hK;obtain⟨xs,x,hq,hx⟩:=hg;obtain⟨its,rv,p,hz⟩:=I.tuple hq;obtain⟨u,hu,ru⟩:=rv.get hx;obtain⟨f0,f1,f2,f3,f4,f5⟩:=hf it (by simp)
  refine wpAny_pyNext_tuple_item st (show s.heap.IsTuple a its.toArray from p) (x:=u) (by simpa using hu) fun h' st' sb=>?_
  have I1:Inv X pins σ H { s with heap:=h' }:=I.turned (t':=s.toks) (fun b o hb e=>(sb.2 b hb).trans e) f0 f1 f3 f4 f5;obtain⟨o,e,c,d⟩:=id st';exact⟨u,rfl,kW (s:={ s with heap:=h' }) e c d (by decide) ⟨x,H,I1,ru,⟨rfl,fun ys hy=>by rw[I.tuple_inj hy hq];exact hx⟩,st',fun b hb=>(hf b hb).1⟩⟩
 done:=by
  intro X hP hw hK hc i pins s σ H E I hf st hg;subst hP hw hK;obtain⟨xs,hq,hx⟩:=hg;obtain⟨its,rv,p,hz⟩:=I.tuple hq;obtain⟨f0,f1,f2,f3,f4,f5⟩:=hf it (by simp)
  have hl:=rv.length;exact wpAny_pyNext_tuple_end (I.ok.hd hc) st (show s.heap.IsTuple a its.toArray from p) (by simp;lia) fun h' eb=>⟨rfl,I.turned (t':=s.toks) (fun b o hb e=>eb b o hb e) f0 f1 f3 f4 f5⟩
 self:=fun _ _ _ _ _ st h=>wpAny_pyIter_tupleiter st h
theorem qJ {P:Program} {w:World} {K:Ab} {tg:Expr} (it:Addr) (lo:Int) (n:Nat):Turn P w K tg (Itr lo n) [it] it (fun i h=>IsRangeIter h it (lo+(i:Nat)*1) ((n:Int)-(i:Nat)) 1) where
 mem:=by simp
 obj:=fun i h st b hb=>by
  have e:b=it:=by simpa using hb
  subst e
  exact⟨_,st,fun v z=>by
   have z':Data.fields _=Data.cell v:=z
   cases z'⟩
 keep:=fun i h h' st k=>k it (by simp) _ st
 item:=by
  intro X hP hw hK hc i pins s σ H E I hf st hg;subst hP hw hK;obtain⟨f0,f1,f2,f3,f4,f5⟩:=hf it (by simp)
  have W:=Walks.range (prog:=X.prog) (w:=X.w) (I.ok.hd hc) it lo 1 n;refine W.item i s _ _ hg st fun v h' tk hv st' kk=>?_;obtain⟨t,rfl⟩:=hv;have I1:Inv X pins σ H { s with heap:=h',toks:=tk }:=I.turned (fun b o hb e=>kk b o (by simpa using hb) e) f0 f1 f3 f4 f5
  refine⟨_,rfl,kW (s:={ s with heap:=h',toks:=tk }) (n:="range_iterator") st' rfl rfl (by decide) ⟨.int (lo+i),H,I1,⟨t,?_⟩,⟨rfl,rfl⟩,st',fun b hb=>(hf b hb).1⟩⟩
  rw[Int.mul_one]
 done:=by
  intro X hP hw hK hc i pins s σ H E I hf st hg;subst hP hw hK;obtain⟨f0,f1,f2,f3,f4,f5⟩:=hf it (by simp)
  exact wpAny_pyNext_range_end (I.ok.hd hc) st (by have:n<=i:=hg;lia) fun h' eb=>⟨rfl,I.turned (t':=s.toks) (fun b o hb e=>eb b o hb e) f0 f1 f3 f4 f5⟩
 self:=fun _ _ _ _ _ st h=>wpAny_pyIter_rangeiter st h
end L2
namespace L2
open PySem PySem.Spec PyProof.Rows
section
variable {X:Cx} {tg:Expr}
def rZ (K:Ab) (tl:TE):TI:=fun σ H R=>tl σ H fun x H1=>∃a,x=.ref a/\(∃xs,SqL K H1 a xs)/\R (Itl K a) H1
def Dx (K:Ab) (tl:TE):TI:=fun σ H R=>tl σ H fun x H1=>∃a,x=.ref a/\(∃xs,SqT K H1 a xs)/\R (Itt K a) H1
theorem xT {l:Expr} {tl:TE} (hl:PE X l tl):PI X tg l (rZ X.K tl):=by
 intro pins s σ H R I h;refine thn (hl pins s σ H _ I h) fun v s1 zz9=>?_;obtain⟨x,H1,I1,r1,q1⟩:=zz9;obtain⟨a,e,⟨xs,hq⟩,q⟩:=q1;subst e;cases r1;obtain⟨its,rv,p,hz⟩:=I1.list hq;refine Ce p.isList ?_;refine⟨s1.heap.objs.size,[s1.heap.objs.size],_,_,H1,rfl,I1.kept (t':=s1.toks) fun b o e=>Ad _ e,tL a _,⟨_,Al _ rfl,rfl,rfl⟩,fun b hb=>?_,q⟩;have e:b=s1.heap.objs.size:=by simpa using hb
 subst e;exact I1.fpOk (Va _) (I1.hok.fresh (Va _))
theorem Dy {l:Expr} {tl:TE} (hl:PE X l tl):PI X tg l (Dx X.K tl):=by
 intro pins s σ H R I h;refine thn (hl pins s σ H _ I h) fun v s1 zz9=>?_;obtain⟨x,H1,I1,r1,q1⟩:=zz9;obtain⟨a,e,⟨xs,hq⟩,q⟩:=q1;subst e;cases r1;obtain⟨its,rv,p,hz⟩:=I1.tuple hq;refine wpAny_pyIter_tuple (show s1.heap.IsTuple a its.toArray from p) ?_;refine⟨s1.heap.objs.size,[s1.heap.objs.size],_,_,H1,rfl,I1.kept (t':=s1.toks) fun b o e=>Ad _ e,qI a _,⟨_,Al _ rfl,rfl,rfl⟩,fun b hb=>?_,q⟩;have e:b=s1.heap.objs.size:=by simpa using hb
 subst e;exact I1.fpOk (Va _) (I1.hok.fresh (Va _))
theorem o3 {s:Shared} {R:It->Hp->Prop} {E:Value->Shared->Prop} {lo hi:Int} {t u v:Tok} {tk:Nat} (I:Inv X pins σ H s) (h1:-(2 ^ 62)<=lo) (h2:lo<2 ^ 62) (h3:-(2 ^ 62)<=hi) (h4:hi<2 ^ 62)
  (q:R (Itr lo (hi-lo).toNat) H):wpAny (model X.prog X.w) X.A (pyIter (.ref s.heap.objs.size)) (PIE X pins σ tg R) E { s with heap:=s.heap.push { cls:=.type "range",data:=.fields #[.int lo t,.int hi u,.int 1 v] },toks:=tk }:=by
 refine wpAny_pyIter_range (IsRange.new ..) (small_one h1 h2 h3 h4) ?_;have I1:Inv X pins σ H { s with heap:=s.heap.push { cls:=.type "range",data:=.fields #[.int lo t,.int hi u,.int 1 v] },toks:=tk }:=I.kept fun b o e=>Ad _ e
 refine⟨(s.heap.push { cls:=.type "range",data:=.fields #[.int lo t,.int hi u,.int 1 v] }).objs.size,[(s.heap.push { cls:=.type "range",data:=.fields #[.int lo t,.int hi u,.int 1 v] }).objs.size],_,_,H,rfl,
  I1.kept (t':=tk) fun b o e=>Ad _ e,qJ _ lo (hi-lo).toNat,?_,fun b hb=>?_,q⟩
 ·have e1:lo+((0:Nat):Int)*1=lo:=by simp
  have e2:(((hi-lo).toNat:Nat):Int)-((0:Nat):Int)=Builtin.Range.rangeSize lo hi 1:=by rw[rangeSize_one];split<;>lia
  show IsRangeIter _ _ (lo+((0:Nat):Int)*1) ((((hi-lo).toNat:Nat):Int)-((0:Nat):Int)) 1;rw[e1,e2];exact Al _ rfl
 ·have e:b=(s.heap.push { cls:=.type "range",data:=.fields #[.int lo t,.int hi u,.int 1 v] }).objs.size:=by simpa using hb
  subst e;exact I1.fpOk (Va _) (I1.hok.fresh (Va _))
def zp (ta:TA):TI:=fun σ H R=>ta σ H fun vs H1=>∃j:Int,vs=[.int j]/\-(2 ^ 62)<=j/\j<2 ^ 62/\R (Itr 0 j.toNat) H1
def zq (ta:TA):TI:=fun σ H R=>ta σ H fun vs H1=>∃i j:Int,vs=[.int i,.int j]/\(-(2 ^ 62)<=i/\i<2 ^ 62/\-(2 ^ 62)<=j/\j<2 ^ 62)/\R (Itr i (j-i).toNat) H1
theorem dF {ta:TA} (hg:Gl X "range") (hm:X.mg "range"=none) (ha:PA X [a] ta) (hs:starEach [a] X.env=[(false,eval a X.env)]:=by rfl):PI X tg (.Call (.Name "range" p) [a] [] pos) (zp ta):=by
 intro pins s σ H R I h;refine Call_ (gh I hg hm boot_range (Ax (thn (ha pos pins s σ H _ I h) fun us s1 zz9=>?_) hs rfl));obtain⟨vs,H1,I1,r1,q1⟩:=zz9;obtain⟨j,e,q1,q2,q⟩:=q1;subst e;cases r1 with
 | cons r rr =>
  cases rr;obtain⟨t,rfl⟩:=r;exact call_range_1 (o3 I1 (by lia) (by lia) q1 q2 (by simpa using q))
theorem eY (hg:Gl X "range") (hm:X.mg "range"=none) (ha:PA X [a,b] ta) (hs:starEach [a,b] X.env=[(false,eval a X.env),(false,eval b X.env)]:=by rfl) (hs2:starEach [b] X.env=[(false,eval b X.env)]:=by rfl) :
  PI X tg (.Call (.Name "range" p) [a,b] [] pos) (zq ta):=by
 intro pins s σ H R I h;refine Call_ (gh I hg hm boot_range (Ax (thn (ha pos pins s σ H _ I h) fun us s1 zz9=>?_) (by rw[hs,hs2]) (by rw[hs2];rfl)))
 obtain⟨vs,H1,I1,r1,q1⟩:=zz9;obtain⟨i,j,e,⟨q1,q2,q3,q4⟩,q⟩:=q1;subst e;cases r1 with
 | cons r rr =>
  cases rr with
  | cons r' rr =>
   cases rr;obtain⟨t,rfl⟩:=r;obtain⟨t',rfl⟩:=r';exact call_range_2 (o3 I1 q1 q2 q3 q4 q)
def tM (wi:TI) (g:TG) (tb:TS):TS:=fun D σ H=>wi σ H fun J H1=>∃W:Nat->Nat->St->Hp->Prop,(∃m,W 0 m σ H1)/\∀i m σ H,W i m σ H ->
 (J.stop i H/\D.nx σ H)∨(J.go i H/\∃N:St->Hp->Prop,(∀σ' H',N σ' H'->∃m',m'<m/\W (i+1) m' σ' H')/\∀x H',J.yld i H x H'->g x σ H' fun σ2 H2=>tb { D with nx:=N,ct:=N,bk:=D.nx } σ2 H2)
def kX (fp:List Addr) (h:Heap):List (Addr×Obj):=fp.filterMap fun b=>(h.get? b).map fun o=>(b,o)
theorem fA {h:Heap} (hb:b∈fp) (e:h.get? b=some o):(b,o)∈kX fp h:=List.mem_filterMap.mpr ⟨b,hb,by rw[e];rfl⟩
theorem tO {h:Heap} (hp:p∈kX fp h):p.1∈fp/\h.get? p.1=some p.2:=by
 obtain⟨b,hb,e⟩:=List.mem_filterMap.mp hp;cases q:h.get? b with
 | none=>rw[q]at e;cases e
 | some o =>
  rw[q]at e;have e':(b,o)=p:=Option.some.inj e;subst e';exact⟨hb,q⟩
theorem Inv.pinned {s:Shared} (I:Inv X pins σ H s) (hf:∀b∈fp,mG X pins H b) (ho:∀b∈fp,∃o,s.heap.get? b=some o/\∀v,o.data≠.cell v):Inv X (pins++kX fp s.heap) σ H s :=
 I.pins_of fun p hp=>(Zf.mp hp).elim (fun z=>I.pin p (Vg _ z)) fun z=>by
  obtain⟨hb,e⟩:=tO z;obtain⟨f0,f1,f2,_⟩:=hf p.1 hb;obtain⟨o,e',d⟩:=ho p.1 hb;rw[e]at e';cases e';exact⟨e,f0,f1,f2,d⟩
theorem Inv.unpinned (I:Inv X (pins++pl) σ H s):Inv X pins σ H s:=I.pins_of fun p hp=>I.pin p (Vg _ (Bb _ hp))
theorem bX (hp:PassesOwn (model X.prog X.w) X.A X.env X.xe) (hc:X.calm=true) (hi:PI X tg iter wi) (hg:PG X tg g) (hb:PSs X body tb)
  (hs:∀x,foldedSetIterable iter X.env x=pure x:=by intro _;rfl):PS X (.For tg iter body [] pos) (tM wi g tb):=by
 intro pins s σ H D I h;refine wpAny_For (thn (hi pins s σ H _ I h) fun v s1 h1=>thn h1 fun itv s2 h2=>?_) hs;obtain⟨it,fp,tn,J,H2,e,I2,T,st2,f2,W,⟨m0,w0⟩,turn⟩:=h2;subst e;have stat:∀{H':Hp},(∀b∈fp,H' b=none)->∀b∈fp,mG X pins H' b:=fun hn b hb=>⟨hn b hb,(f2 b hb).2⟩;refine codeAny_forLoop_any (fun n s'=>∃i σ' H',Inv X pins σ' H' s'/\tn i s'.heap/\(∀b∈fp,H' b=none)/\W i n σ' H') ?_ m0 ⟨0,σ,H2,I2,st2,fun b hb=>(f2 b hb).1,w0⟩;rintro n s3 ⟨i,σ3,H3,I3,st3,fr3,w3⟩;rcases turn i n σ3 H3 w3 with⟨stop,qn⟩|⟨go,N,hN,step⟩
 ·refine Bc hp (thn (T.done X rfl rfl rfl hc i pins s3 σ3 H3 X.xe I3 (stat fr3) st3 stop) fun r s4 zz9=>?_);obtain⟨hr,I4⟩:=zz9;subst hr;exact Cz ⟨σ3,H3,I4,qn⟩
 ·refine Bc hp (thn (T.item X rfl rfl rfl hc i pins s3 σ3 H3 X.xe I3 (stat fr3) st3 go) fun r s4 zz9=>?_);obtain⟨u,hr,h4⟩:=zz9;subst hr;refine Bc hp (thn h4 fun _ s5 zz9=>?_);obtain⟨x,H5,I5,r5,y5,st5,fr5⟩:=zz9;have I5':=I5.pinned (stat fr5) (T.obj _ _ st5);refine Bc hp (thn (hg _ s5 σ3 H5 x u _ I5' r5 (step x H5 y5)) fun _ s6 zz9=>?_);obtain⟨σ6,H6,I6,q6⟩:=zz9;refine Bc hp (thn (hb _ s6 σ6 H6 _ I6 q6) fun f s7 q7=>?_);have again:∀{σ7:St} {H7:Hp},Inv X (pins++kX fp s5.heap) σ7 H7 s7->N σ7 H7->∃m,m<n/\∃i σ' H',Inv X pins σ' H' s7/\tn i s7.heap/\(∀b∈fp,H' b=none)/\W i m σ' H':=fun {σ7 H7} I7 n7=>by
   obtain⟨m',hm,w7⟩:=hN σ7 H7 n7;refine⟨m',hm,i+1,σ7,H7,I7.unpinned,T.keep _ _ _ st5 fun b hb o e=>(I7.pin (b,o) (Vg _ (Vg _ (fA hb e)))).1,fun b hb=>?_,w7⟩;obtain⟨o,e,d⟩:=T.obj _ _ st5 b hb;exact(I7.pin (b,o) (Vg _ (Vg _ (fA hb e)))).2.1
  cases f with
  | next=>obtain⟨σ7,H7,I7,n7⟩:=q7;exact again I7 n7
  | cont=>obtain⟨σ7,H7,I7,n7⟩:=q7;exact again I7 n7
  | brk=>obtain⟨σ7,H7,I7,q7⟩:=q7;exact⟨σ7,H7,I7.unpinned,q7⟩
  | ret v=>obtain⟨x7,σ7,H7,I7,r7,q7⟩:=q7;exact⟨x7,σ7,H7,I7.unpinned,r7,q7⟩
end
end L2
namespace L2
open PySem PySem.Spec PyProof.Rows
abbrev R2:=V->V->Hp->VK->Prop
def OpR (X:Cx) (f:Value->Value->Sem Value) (r:R2):Prop :=
 ∀(pins:List (Addr×Obj)) (s:Shared) (σ:St) (H:Hp) (x y:V) (v u:Value) (Q:VK),Inv X pins σ H s->RelV x v->RelV y u->r x y H Q ->
  wpAny (model X.prog X.w) X.A (f v u) (EP X pins σ Q) X.xe s
def UnR (X:Cx) (f:Value->Sem Value) (r:V->Hp->VK->Prop):Prop :=
 ∀(pins:List (Addr×Obj)) (s:Shared) (σ:St) (H:Hp) (x:V) (v:Value) (Q:VK),Inv X pins σ H s->RelV x v->r x H Q ->
  wpAny (model X.prog X.w) X.A (f v) (EP X pins σ Q) X.xe s
def CallR (X:Cx) (f:Value) (r:List V->Hp->VK->Prop):Prop :=
 ∀(pins:List (Addr×Obj)) (s:Shared) (σ:St) (H:Hp) (xs:List V) (us:List Value) (Q:VK),Inv X pins σ H s->Vals xs us->r xs H Q ->
  wpAny (model X.prog X.w) X.A (call f us) (EP X pins σ Q) X.xe s
def tOp (r:R2) (ta tb:TE):TE:=fun σ H Q=>ta σ H fun x H1=>tb σ H1 fun y H2=>r x y H2 Q
def tUn (r:V->Hp->VK->Prop) (ta:TE):TE:=fun σ H Q=>ta σ H fun x H1=>r x H1 Q
def rI (C:Int->Int->Prop) (g:Int->Int->V):R2:=fun x y H Q=>∃i j,x=.int i/\y=.int j/\C i j/\Q (g i j) H
def rI0 (g:Int->Int->V):R2:=fun x y H Q=>∃i j,x=.int i/\y=.int j/\Q (g i j) H
def rU (g:Int->V):V->Hp->VK->Prop:=fun x H Q=>∃i,x=.int i/\Q (g i) H
section
variable {X:Cx} {a b c:Expr} {ta tb tc:TE} {pos:Pos}
theorem Dz (ha:PE X a ta) (hb:PE X b tb) {R:V->V->Hp->Prop} (I:Inv X pins σ H s)
  (h:ta σ H fun x H1=>tb σ H1 fun y H2=>R x y H2) {Q:Value->Shared->Prop} {f:Value->Value->Sem Value}
  (hf:∀v u s2 x y H2,Inv X pins σ H2 s2->RelV x v->RelV y u->R x y H2->wpAny (model X.prog X.w) X.A (f v u) Q X.xe s2) :
  wpAny (model X.prog X.w) X.A (eval a X.env) (fun v s₁=>wpAny (model X.prog X.w) X.A (eval b X.env) (fun u s₂=>wpAny (model X.prog X.w) X.A (f v u) Q X.xe s₂) X.xe s₁) X.xe s:=by
 refine thn (ha pins s σ H _ I h) fun v s1 zz9=>?_;obtain⟨x,H1,I1,r1,q1⟩:=zz9;refine thn (hb pins s1 σ H1 _ I1 q1) fun u s2 zz9=>?_;obtain⟨y,H2,I2,r2,q2⟩:=zz9;exact hf v u s2 x y H2 I2 r1 r2 q2
theorem aK {op:Operator} {r:R2} (ho:OpR X (binaryOp op) r) (ha:PE X a ta) (hb:PE X b tb):PE X (.BinOp a op b pos) (tOp r ta tb):=by
 intro pins s σ H Q I h;exact wpAny_BinOp (Dz ha hb I h fun v u s2 x y H2 I2 rx ry q=>ho pins s2 σ H2 x y v u Q I2 rx ry q)
theorem o6 (ho:UnR X (unaryOp op) r) (ha:PE X a ta):PE X (.UnaryOp op a pos) (tUn r ta):=by
 intro pins s σ H Q I h;exact UnaryOp_ (thn (ha pins s σ H _ I h) fun v s1 ⟨x,H1,I1,r1,q1⟩=>ho pins s1 σ H1 x v Q I1 r1 q1)
theorem opI {f:Value->Value->Sem Value} {C:Int->Int->Prop} {g:Int->Int->Int}
  (rule:∀(i j:Int) (t u:Tok) (s:Shared) (Q:Value->Shared->Prop) (E:Value->Shared->Prop),C i j->Q (.int (g i j) s.toks) { s with toks:=s.toks+1 }->wpAny (model X.prog X.w) X.A (f (.int i t) (.int j u)) Q E s) :
  OpR X f (rI C fun i j=>.int (g i j)):=by
 intro pins s σ H x y v u Q I rx ry h;obtain⟨i,j,rfl,rfl,hc,q⟩:=h;obtain⟨t,rfl⟩:=rx;obtain⟨t',rfl⟩:=ry;exact rule i j t t' s _ _ hc ⟨.int (g i j),H,I.tok _,⟨_,rfl⟩,q⟩
theorem F5 {f:Value->Value->Sem Value} {g:Int->Int->Int}
  (rule:∀(i j:Int) (t u:Tok) (s:Shared) (Q:Value->Shared->Prop) (E:Value->Shared->Prop),Q (.int (g i j) s.toks) { s with toks:=s.toks+1 }->wpAny (model X.prog X.w) X.A (f (.int i t) (.int j u)) Q E s) :
  OpR X f (rI0 fun i j=>.int (g i j)):=by
 intro pins s σ H x y v u Q I rx ry h;obtain⟨i,j,rfl,rfl,q⟩:=h;obtain⟨t,rfl⟩:=rx;obtain⟨t',rfl⟩:=ry;exact rule i j t t' s _ _ ⟨.int (g i j),H,I.tok _,⟨_,rfl⟩,q⟩
theorem xU {f:Value->Value->Sem Value} {g:Int->Int->Bool}
  (rule:∀(i j:Int) (t u:Tok) (s:Shared) (Q:Value->Shared->Prop) (E:Value->Shared->Prop),Q (.bool (g i j)) s->wpAny (model X.prog X.w) X.A (f (.int i t) (.int j u)) Q E s) :
  OpR X f (rI0 fun i j=>.bl (g i j)):=by
 intro pins s σ H x y v u Q I rx ry h;obtain⟨i,j,rfl,rfl,q⟩:=h;obtain⟨t,rfl⟩:=rx;obtain⟨t',rfl⟩:=ry;exact rule i j t t' s _ _ ⟨.bl (g i j),H,I,rfl,q⟩
def qK (i j:Int):Prop:=0<j/\j<1073741824
def u3 (i j:Int):Prop:=0<=j/\j<=1000000/\i.natAbs<2 ^ 64
def CMul (i j:Int):Prop:=(-(2 ^ 64)<i/\i<2 ^ 64)∨(-(2 ^ 64)<j/\j<2 ^ 64)
theorem CMul.ok (h:CMul i j):IntMulOk i j:=by
 rcases h with⟨h1,h2⟩|⟨h1,h2⟩
 ·exact .of_left (intBits_le_64 h1 h2)
 ·exact .of_right (intBits_le_64 h1 h2)
theorem op_add:OpR X (binaryOp .Add) (rI0 fun i j=>.int (i+j)):=F5 fun _ _ _ _ _ _ _ q=>add_int q
theorem cB:OpR X (binaryOp .Sub) (rI0 fun i j=>.int (i-j)):=F5 fun _ _ _ _ _ _ _ q=>sub_int q
theorem op_mul:OpR X (binaryOp .Mult) (rI CMul fun i j=>.int (i*j)):=opI fun _ _ _ _ _ _ _ hc q=>mul_int q hc.ok
theorem r6:OpR X (binaryOp .FloorDiv) (rI qK fun i j=>.int (i / j)):=opI fun i j _ _ _ _ _ hc q=>by
 have h1:(0:Int)<j:=hc.1;have h2:j<1073741824:=hc.2;exact floordiv_int (by lia) (by rw[Int.fdiv_eq_ediv_of_nonneg i (by lia)];exact q) (.inl (PyProof.noPylong_small (by lia)))
theorem fB:OpR X (binaryOp .Mod) (rI (fun _ j=>0<j) fun i j=>.int (i % j)):=opI fun i j _ _ _ _ _ hc q=>by
 have h1:(0:Int)<j:=hc;exact mod_int' (by lia) (by rw[Int.fmod_eq_emod_of_nonneg i (by lia)];exact q)
theorem DB:OpR X (binaryOp .Pow) (rI u3 fun i j=>.int (i ^ j.toNat)):=opI fun _ _ _ _ _ _ _ hc q=>pow_int_small hc.1 hc.2.1 hc.2.2 q
theorem unI {f:Value->Sem Value} {g:Int->Int}
  (rule:∀(i:Int) (t:Tok) (s:Shared) (Q:Value->Shared->Prop) (E:Value->Shared->Prop),Q (.int (g i) s.toks) { s with toks:=s.toks+1 }->wpAny (model X.prog X.w) X.A (f (.int i t)) Q E s) :
  UnR X f (rU fun i=>.int (g i)):=by
 intro pins s σ H x v Q I rx h;obtain⟨i,rfl,q⟩:=h;obtain⟨t,rfl⟩:=rx;exact rule i t s _ _ ⟨.int (g i),H,I.tok _,⟨_,rfl⟩,q⟩
theorem kY:UnR X (unaryOp .USub) (rU fun i=>.int (-i)):=unI fun _ _ _ _ _ q=>neg_int q
end
def DC:V->V->Bool
 | .non,.non=>true|.non,.int _=>true|.int _,.non=>true|.non,.bl _=>true|.bl _,.non=>true|.non,.str _=>true|.str _,.non=>true
 | .int _,.int _=>true|.bl _,.bl _=>true|.str _,.str _=>true|.byt _,.byt _=>true
 | .int _,.str _=>true|.str _,.int _=>true|.bl _,.str _=>true|.str _,.bl _=>true
 | _,_=>false
def rEq:R2:=fun x y H Q=>DC x y=true/\Q (.bl (decide (x=y))) H
def rNe:R2:=fun x y H Q=>DC x y=true/\Q (.bl (!decide (x=y))) H
theorem r9:decide (V.int i=V.int j)=(i == j):=by
 rw[Vf];simp
theorem u4:decide (V.bl i=V.bl j)=(i == j):=by
 rw[Vf];simp
theorem se:decide (V.str i=V.str j)=(i == j):=by
 rw[Vf];simp
theorem sh {i j:Array UInt8}:decide (V.byt i=V.byt j)=(i.toList == j.toList):=by
 rw[Vf];cases i;cases j;simp
section
variable {X:Cx} {a b c:Expr} {ta tb tc:TE} {pos:Pos}
theorem aZ (I:Inv X pins σ H s) (q:Q (.bl k) H) (e:k=k'):EP X pins σ Q (.bool k') s:=by
 subst e;exact⟨.bl k,H,I,rfl,q⟩
theorem F6:OpR X (compareOp .Eq) rEq:=by
 intro pins s σ H x y v u Q I rx ry h;obtain⟨hs,q⟩:=h;cases x with
 | non =>
  cases rx;cases y with
  | non=>cases ry;exact PySem.EqNone.eq_none_none (aZ I q (by simp))
  | bl j=>cases ry;exact PySem.EqNone.eq_none_bool (aZ I q (by simp))
  | int j=>obtain⟨t',rfl⟩:=ry;exact PySem.EqNone.eq_none_int (aZ I q (by simp))
  | str j=>obtain⟨t',rfl⟩:=ry;exact PySem.EqNone.eq_none_str (aZ I q (by simp))
  | _=>exact absurd (show false=true from hs) Vc
 | bl i =>
  cases rx;cases y with
  | non=>cases ry;exact PySem.EqNone.eq_bool_none (aZ I q (by simp))
  | bl j=>cases ry;exact eq_bool (aZ I q u4)
  | str j=>obtain⟨t',rfl⟩:=ry;exact PySem.EqMixed.eq_bool_str (aZ I q (by simp))
  | _=>exact absurd (show false=true from hs) Vc
 | int i =>
  obtain⟨t,rfl⟩:=rx;cases y with
  | non=>cases ry;exact PySem.EqNone.eq_int_none (aZ I q (by simp))
  | int j=>obtain⟨t',rfl⟩:=ry;exact eq_int (aZ I q r9)
  | str j=>obtain⟨t',rfl⟩:=ry;exact PySem.EqMixed.eq_int_str (aZ I q (by simp))
  | _=>exact absurd (show false=true from hs) Vc
 | str i =>
  obtain⟨t,rfl⟩:=rx;cases y with
  | non=>cases ry;exact PySem.EqNone.eq_str_none (aZ I q (by simp))
  | bl j=>cases ry;exact PySem.EqMixed.eq_str_bool (aZ I q (by simp))
  | int j=>obtain⟨t',rfl⟩:=ry;exact PySem.EqMixed.eq_str_int (aZ I q (by simp))
  | str j=>obtain⟨t',rfl⟩:=ry;exact eq_str (aZ I q se)
  | _=>exact absurd (show false=true from hs) Vc
 | byt i =>
  obtain⟨t,rfl⟩:=rx;cases y with
  | byt j=>obtain⟨t',rfl⟩:=ry;exact PySem.W.eq_bytes (aZ I q sh)
  | _=>exact absurd (show false=true from hs) Vc
 | _=>cases y<;>exact absurd (show false=true from hs) Vc
theorem op_ne:OpR X (compareOp .NotEq) rNe:=by
 intro pins s σ H x y v u Q I rx ry h;obtain⟨hs,q⟩:=h;cases x with
 | non =>
  cases rx;cases y with
  | non=>cases ry;exact PySem.EqNone.ne_none_none (aZ I q (by simp))
  | bl j=>cases ry;exact PySem.EqNone.ne_none_bool (aZ I q (by simp))
  | int j=>obtain⟨t',rfl⟩:=ry;exact PySem.EqNone.ne_none_int (aZ I q (by simp))
  | str j=>obtain⟨t',rfl⟩:=ry;exact PySem.EqNone.ne_none_str (aZ I q (by simp))
  | _=>exact absurd (show false=true from hs) Vc
 | bl i =>
  cases rx;cases y with
  | non=>cases ry;exact PySem.EqNone.ne_bool_none (aZ I q (by simp))
  | bl j=>cases ry;exact ne_bool (aZ I q (congrArg not u4))
  | str j=>obtain⟨t',rfl⟩:=ry;exact PySem.EqMixed.ne_bool_str (aZ I q (by simp))
  | _=>exact absurd (show false=true from hs) Vc
 | int i =>
  obtain⟨t,rfl⟩:=rx;cases y with
  | non=>cases ry;exact PySem.EqNone.ne_int_none (aZ I q (by simp))
  | int j=>obtain⟨t',rfl⟩:=ry;exact ne_int (aZ I q (congrArg not r9))
  | str j=>obtain⟨t',rfl⟩:=ry;exact PySem.EqMixed.ne_int_str (aZ I q (by simp))
  | _=>exact absurd (show false=true from hs) Vc
 | str i =>
  obtain⟨t,rfl⟩:=rx;cases y with
  | non=>cases ry;exact PySem.EqNone.ne_str_none (aZ I q (by simp))
  | bl j=>cases ry;exact PySem.EqMixed.ne_str_bool (aZ I q (by simp))
  | int j=>obtain⟨t',rfl⟩:=ry;exact PySem.EqMixed.ne_str_int (aZ I q (by simp))
  | str j=>obtain⟨t',rfl⟩:=ry;exact ne_str (aZ I q (congrArg not se))
  | _=>exact absurd (show false=true from hs) Vc
 | byt i =>
  obtain⟨t,rfl⟩:=rx;cases y with
  | byt j=>obtain⟨t',rfl⟩:=ry;exact PySem.W.ne_bytes (aZ I q (congrArg not sh))
  | _=>exact absurd (show false=true from hs) Vc
 | _=>cases y<;>exact absurd (show false=true from hs) Vc
theorem op_lt:OpR X (compareOp .Lt) (rI0 fun i j=>.bl (decide (i<j))):=xU fun _ _ _ _ _ _ _ q=>lt_int q
theorem mU:OpR X (compareOp .LtE) (rI0 fun i j=>.bl (decide (i<=j))):=xU fun _ _ _ _ _ _ _ q=>le_int q
theorem u5:OpR X (compareOp .Gt) (rI0 fun i j=>.bl (decide (j<i))):=xU fun _ _ _ _ _ _ _ q=>gt_int q
theorem zr:OpR X (compareOp .GtE) (rI0 fun i j=>.bl (decide (j<=i))):=xU fun _ _ _ _ _ _ _ q=>ge_int q
theorem tP:OpR X (compareOp .Lt) (fun x y H Q=>∃i j,x=.str i/\y=.str j/\Q (.bl (decide (i.cps.toList<j.cps.toList))) H):=by
 intro pins s σ H x y v u Q I rx ry h;obtain⟨i,j,rfl,rfl,q⟩:=h;obtain⟨t,rfl⟩:=rx;obtain⟨t',rfl⟩:=ry;exact lt_str (aZ I q rfl)
theorem op_in_str:OpR X (compareOp .In) (fun x y H Q=>∃i j,x=.str i/\y=.str j/\Q (.bl (!(Builtin.Str.occurrences j i 0 j.length 1).isEmpty)) H):=by
 intro pins s σ H x y v u Q I rx ry h;obtain⟨i,j,rfl,rfl,q⟩:=h;obtain⟨t,rfl⟩:=rx;obtain⟨t',rfl⟩:=ry;exact in_str (aZ I q rfl)
theorem OpR.or (h:OpR X f r) (h':OpR X f r'):OpR X f (fun x y H Q=>r x y H Q∨r' x y H Q):=by
 intro pins s σ H x y v u Q I rx ry q;rcases q with q|q
 ·exact h pins s σ H x y v u Q I rx ry q
 ·exact h' pins s σ H x y v u Q I rx ry q
theorem bq (b:Expr) (h:op≠.In:=by decide) (h2:op≠.NotIn:=by decide):behindInMarks op b=false:=by
 have e1:(op == CmpOp.In)=false:=by cases op<;>first|rfl|exact absurd rfl h
 have e2:(op == CmpOp.NotIn)=false:=by cases op<;>first|rfl|exact absurd rfl h2
 cases b<;>simp[behindInMarks,e1,e2]
theorem bZ (ho:OpR X (compareOp op) r) (ha:PE X a ta) (hb:PE X b tb) (hm:behindInMarks op b=false):PE X (.Compare a [op] [b] pos) (tOp r ta tb):=by
 intro pins s σ H Q I h;exact wpAny_Compare1 (Dz ha hb I h fun v u s2 x y H2 I2 rx ry q=>ho pins s2 σ H2 x y v u Q I2 rx ry q) hm
def u6 (t:TE):TT:=fun σ H Q=>t σ H fun x H'=>∃k,x=.bl k/\Q k H'
theorem bx (ho:OpR X (compareOp op) r) (ha:PE X a ta) (hb:PE X b tb) (hm:behindInMarks op b=false):PT X (.Compare a [op] [b] pos) (u6 (tOp r ta tb)):=by
 intro pins s σ H Q I h
 refine wpAny_isTrue_Compare1 (thn (ha pins s σ H _ I h) fun v s1 ⟨x,H1,I1,r1,q1⟩=>thn (hb pins s1 σ H1 _ I1 q1) fun u s2 ⟨y,H2,I2,r2,q2⟩ =>
  thn (ho pins s2 σ H2 x y v u _ I2 r1 r2 q2) fun c s3 ⟨z,H3,I3,r3,k,e,q3⟩=>?_) hm
 subst e;cases r3;exact AG ⟨H3,I3,q3⟩
theorem jB:(sizeLine:Nat)<2 ^ 63:=by rw[BW];decide
theorem op_add_str:OpR X (binaryOp .Add) (fun x y H Q=>∃i j,x=.str i/\y=.str j/\i.length+j.length<=sizeLine/\Q (.str (i++j)) H):=by
 intro pins s σ H x y v u Q I rx ry h;obtain⟨i,j,rfl,rfl,hz,q⟩:=h;obtain⟨t,rfl⟩:=rx;obtain⟨t',rfl⟩:=ry;exact add_str (fun t' tk=>⟨.str (i++j),H,I.tok _,⟨_,rfl⟩,q⟩) hz
theorem vals1 (r:Vals [x] us):∃u,us=[u]/\RelV x u:=by
 cases r with
 | cons r1 r2=>cases r2;exact⟨_,rfl,r1⟩
theorem vals2 (r:Vals [x,y] us):∃u w',us=[u,w']/\RelV x u/\RelV y w':=by
 cases r with
 | cons r1 r2 =>
  cases r2 with
  | cons r3 r4=>cases r4;exact⟨_,_,rfl,r1,r3⟩
theorem eZ:CallR X (.builtin "abs") (fun xs H Q=>∃i,xs=[.int i]/\Q (.int (if i<0 then -i else i)) H):=by
 intro pins s σ H xs us Q I r h;obtain⟨i,rfl,q⟩:=h;obtain⟨u,rfl,t,rfl⟩:=vals1 r;exact call_abs_int fun u tk=>⟨.int (if i<0 then -i else i),H,I.tok _,⟨_,rfl⟩,q⟩
theorem tQ (hc:X.calm=true):CallR X (.builtin "max") (fun xs H Q=>∃i j,xs=[.int i,.int j]/\Q (.int (if j > i then j else i)) H):=by
 intro pins s σ H xs us Q I r h;obtain⟨i,j,rfl,q⟩:=h;obtain⟨u,w',rfl,⟨t,rfl⟩,⟨t',rfl⟩⟩:=vals2 r;refine max_two_ints (I.ok.hd hc) fun h' tk k=>⟨_,H,I.kept k,?_,q⟩;by_cases hj:j > i
 ·rw[Af hj,Af hj];exact⟨_,rfl⟩
 ·rw[Ah hj,Ah hj];exact⟨_,rfl⟩
theorem mV (hc:X.calm=true):CallR X (.builtin "min") (fun xs H Q=>∃i j,xs=[.int i,.int j]/\Q (.int (if j<i then j else i)) H):=by
 intro pins s σ H xs us Q I r h;obtain⟨i,j,rfl,q⟩:=h;obtain⟨u,w',rfl,⟨t,rfl⟩,⟨t',rfl⟩⟩:=vals2 r;refine min_two_ints (I.ok.hd hc) fun h' tk k=>⟨_,H,I.kept k,?_,q⟩;by_cases hj:j<i
 ·rw[Af hj,Af hj];exact⟨_,rfl⟩
 ·rw[Ah hj,Ah hj];exact⟨_,rfl⟩
theorem tR:CallR X (.type "int") (fun xs H Q=>(∃i,xs=[.int i]/\Q (.int i) H)∨∃k,xs=[.bl k]/\Q (.int (if k then 1 else 0)) H):=by
 intro pins s σ H xs us Q I r h;rcases h with⟨i,rfl,q⟩|⟨k,rfl,q⟩
 ·obtain⟨u,rfl,t,rfl⟩:=vals1 r;exact call_int_int ⟨.int i,H,I,⟨_,rfl⟩,q⟩
 ·obtain⟨u,rfl,r1⟩:=vals1 r;cases r1;exact call_int_bool ⟨.int (if k then 1 else 0),H,I.tok _,⟨_,rfl⟩,q⟩
end
end L2
namespace L2
open PySem PySem.Spec PyProof.Rows
structure ObjM (h:Heap) (x dx C:Addr) (mA:Str->Option Value):Prop where
 obj:h.get? x=some (PySem.W.instObj C dx)
 ns:h.Ns1 dx mA
 ne:dx≠x
theorem tS {h:Heap} (n:h.Ns1 dx mA):∃od,h.get? dx=some od/\∀name,PySem.W.lookIn name od=some (mA name):=by
 obtain⟨o,es,ep,ho,hd,hk,_,hm⟩:=n;refine⟨o,ho,fun name=>?_⟩;have e:=hm name;unfold nsFind findBy at e;rw[← Array.find?_toList]at e;unfold PySem.W.lookIn;rw[hd];dsimp only;split
 ·rename_i y q
  rw[q]at e;exact congrArg some e
 ·rename_i q
  rw[q]at e;have a:es.toList.any (·.refKey)=false:=by
   rw[List.any_eq_false];intro y hy;obtain⟨z,t,hkey⟩:=hk y (Array.mem_toList_iff.mp hy);simp[DictEntry.refKey,hkey]
  have a':¬ es.toList.any (·.refKey)=true:=by rw[a];exact Vc
  rw[Ah a'];exact congrArg some e
theorem ObjM.look (I:ObjM h x dx C mA):∃od,PySem.W.InstAt h x (PySem.W.instObj C dx) C (some od)/\∀name,PySem.W.lookIn name od=some (mA name) :=
 let ⟨od,ho,hl⟩:=tS I.ns
 ⟨od,⟨I.obj,rfl,rfl,ho⟩,hl⟩
theorem RelO.some_of (r:RelO (some v) o):∃u,o=some u/\RelV v u:=by
 cases o with
 | none=>exact(show False from r).elim
 | some u=>exact⟨u,rfl,r⟩
section
variable {P:Program} {w:World} {H H':Hp} {h h':Heap} {a C dx:Addr} {fs fs':List (Str×V)}
theorem xV (hok:HOk P w H h) (e:H a=some (.ins C dx fs)):∃mA,ObjM h a dx C mA/\(∀f,RelO (fs.lookup f) (mA f))/\PySem.Within mA (fs.map (·.1))/\fs.length<=1000/\H dx=some (.own a):=by
 obtain⟨d,z,ne,ob,mA,n,r,q⟩:=(show ObjOk P w H h a (.ins C dx fs) from hok a _ e);exact⟨mA,⟨ob,n,ne⟩,r,q,z,d⟩
end
structure Cls (K:Ab) (C:Addr):Prop where
 pg:PySem.W.plainGet K C Str.empty=true
 hd:PySem.W.hasDictIn K C=true
 po:PySem.W.plainOver K C=true
 sa:PySem.W.findIn K (.ref C) "__setattr__"=some (some (.builtin "object.__setattr__"))
theorem Cls.get {K:Ab} {C:Addr} (c:Cls K C) (f:Str):PySem.W.plainGet K C f=true:=c.pg
section
variable {X:Cx} {pins:List (Addr×Obj)} {σ:St} {H:Hp} {s:Shared} {A:Around} {E:Value->Shared->Prop} {Q:Value->Shared->Prop} {c:Value} {b:Bool}
inductive TyOf (K:Ab) (H:Hp):V->Value->Prop where
 | non:TyOf K H .non (.type "NoneType")
 | bl (x:Bool):TyOf K H (.bl x) (.type "bool")
 | int (i:Int):TyOf K H (.int i) (.type "int")
 | str (x:Str):TyOf K H (.str x) (.type "str")
 | flt (x:UInt64):TyOf K H (.flt x) (.type "float")
 | lst {a:Addr} {xs:List V} (e:H a=some (.lst xs)):TyOf K H (.ref a) (.type "list")
 | frz {a:Addr} {o:Obj} {xs:List V} (e:H a=some (.frz o (.lst xs))):TyOf K H (.ref a) (.type "list")
 | tup {a:Addr} {xs:List V} (e:H a=some (.tup xs)):TyOf K H (.ref a) (.type "tuple")
 | dK {a:Addr} {kvs:List (Key×V)} (e:H a=some (.dK kvs)):TyOf K H (.ref a) (.type "dict")
 | dT {a:Addr} {ep:Nat×List Addr} {kvs:List (List Key×V)} (e:H a=some (.dT ep kvs)):TyOf K H (.ref a) (.type "dict")
 | ins {a C dx:Addr} {fs:List (Str×V)} (e:H a=some (.ins C dx fs)) (cl:Cls K C) (ha:PySem.W.findIn K (.ref C) "__class__"=some (some (.builtin "object.__class__")))
   (hn:PySem.W.specialIn K (.builtin "object.__class__") "__get__"=some (some (.builtin "getset_descriptor.__get__"))) (htk:PySem.W.takesIn K (.builtin "object.__class__")=some true)
   (hm:PySem.W.mroIn K C (.type "object")=some true):TyOf K H (.ref a) (.ref C)
theorem cC (I:Inv X pins σ H s) (rx:RelV x u) (ty:TyOf X.K H x t) (e:PySem.W.kitOne X.K t c=some b) (h:∀tk,Q (.bool b) { s with toks:=tk }) :
  wpAny (model X.prog X.w) A (call (.builtin "isinstance") [u,c]) Q E s:=by
 cases ty with
 | non=>cases (show u=Value.none from rx);exact As PySem.W.kitx_none I.kIn True.intro e (fun z=>nomatch z) h
 | bl y=>cases (show u=Value.bool y from rx);exact As PySem.W.kitx_bool I.kIn True.intro e (fun z=>nomatch z) h
 | int i=>obtain⟨t,q⟩:=(show ∃t,u=Value.int i t from rx);cases q;exact As PySem.W.kitx_int I.kIn True.intro e (fun z=>nomatch z) h
 | str y=>obtain⟨t,q⟩:=(show ∃t,u=Value.str y t from rx);cases q;exact As PySem.W.kitx_str I.kIn True.intro e (fun z=>nomatch z) h
 | flt y=>obtain⟨t,q⟩:=(show ∃t,u=Value.float y t from rx);cases q;exact As PySem.W.kitx_float I.kIn True.intro e (fun z=>nomatch z) h
 | @lst a xs ea =>
  cases (show u=Value.ref a from rx);obtain⟨_,_,n,_,h1⟩:=(show ObjOk X.prog X.w H s.heap a (.lst xs) from I.hok a _ ea);exact As Cg I.kIn ⟨_,h1,rfl⟩ e (fun z=>nomatch z) h
 | @frz a ob xs ea =>
  cases (show u=Value.ref a from rx);obtain⟨_,_,_,n,_,h1⟩:=(show ObjOk X.prog X.w H s.heap a (.frz ob (.lst xs)) from I.hok a _ ea);exact As Cg I.kIn ⟨_,h1,rfl⟩ e (fun z=>nomatch z) h
 | @tup a xs ea =>
  cases (show u=Value.ref a from rx);obtain⟨_,_,_,p⟩:=(show ObjOk X.prog X.w H s.heap a (.tup xs) from I.hok a _ ea);obtain⟨o,h1,h2,_⟩:=p;exact As PySem.W.kitx_tuple I.kIn ⟨o,h1,h2⟩ e (fun z=>nomatch z) h
 | @dK a kvs ea =>
  cases (show u=Value.ref a from rx);obtain⟨_,_,vs,_,p⟩:=(show ObjOk X.prog X.w H s.heap a (.dK kvs) from I.hok a _ ea);obtain⟨o,es,ep,h1,h2,_⟩:=p;exact As PySem.W.kitx_dict I.kIn ⟨o,h1,h2.1⟩ e (fun z=>nomatch z) h
 | @dT a ep kvs ea =>
  cases (show u=Value.ref a from rx);obtain⟨_,_,xs,_,_,o,es,h1,h2,_⟩:=(show ObjOk X.prog X.w H s.heap a (.dT ep kvs) from I.hok a _ ea);exact As PySem.W.kitx_dict I.kIn ⟨o,h1,h2.1⟩ e (fun z=>nomatch z) h
 | @ins a C dx fs ea cl ha hn htk hm =>
  cases (show u=Value.ref a from rx);obtain⟨mA,O,_⟩:=xV I.hok ea;obtain⟨od,J,_⟩:=O.look;exact As (PySem.W.kitx_own (cl.get _) cl.hd ha hn htk hm) I.kIn J e (fun z=>nomatch z) h
end
end L2
namespace L2
open PySem PySem.Spec PyProof.Rows
structure Room (k:Nat) (A:Around):Prop where
 hd:A.handled=none
 dp:A.depth+3*k+5<recursionLimit
 un:A.units+16*k+200<cLine
theorem Room.mono (r:Room k A) (h:j<=k):Room j A:=⟨r.hd,by have:=r.dp;lia,by have:=r.un;lia⟩
theorem Room.deeper {A:Around} (r:Room (k+1) A) (env:Env):Room k (A.deeper env) :=
 ⟨r.hd,by have:=r.dp;show A.depth+1+3*k+5<_;lia,by have:=r.un;show A.units+3+16*k+200<_;lia⟩
theorem Room.depth {A:Around} (r:Room k A):A.depth<recursionLimit:=by have:=r.dp;lia
theorem Room.units {A:Around} (r:Room k A):A.units+64<cLine:=by have:=r.un;lia
def kZ:TA:=fun _ H Q=>Q [] H
def dm (ta:TE) (tr:TA):TA:=fun σ H Q=>ta σ H fun x H1=>tr σ H1 fun xs H2=>Q (x::xs) H2
section
variable {X:Cx} {e:Expr} {es:List Expr} {te:TE} {t:TA} {pos:Pos}
theorem ae:PA X [] kZ:=fun _ _ _ _ H Q I h=>Calls.spliced_nil ⟨[],H,I,.nil,h⟩
theorem si (ha:PE X e te) (hr:PA X es t) (hs:starEach (e::es) X.env=(false,eval e X.env)::starEach es X.env:=by rfl):PA X (e::es) (dm te t):=by
 intro pos pins s σ H Q I h;rw[hs];show wpAny _ _ (spliced ((false,eval e X.env)::backTo pos (starEach es X.env))) _ _ s;refine Calls.spliced_cons (thn (ha pins s σ H _ I h) fun u s1 zz9=>?_);obtain⟨x,H1,I1,r1,q1⟩:=zz9;exact thn (hr pos pins s1 σ H1 _ I1 q1) fun us s2 ⟨xs,H2,I2,r2,q2⟩=>⟨x::xs,H2,I2,.cons r1 r2,q2⟩
def F7 (t:TA):TE:=fun σ H Q=>t σ H fun xs H1=>xs.length<=sizeLine/\∀p,H1 p=none->Q (.ref p) (upd H1 p (.tup xs))
def u7 (t:TA):TE:=fun σ H Q=>t σ H fun xs H1=>xs.length<=sizeLine/\∀p,H1 p=none->Q (.ref p) (upd H1 p (.lst xs))
theorem cE {x1} (h:PA X es t):PE X (.Tuple es x1 pos) (F7 t):=by
 intro pins s σ H Q I hq;refine wpAny_Tuple_spliced (thn (h pos pins s σ H _ I hq) fun us s1 ⟨xs,H1,I1,r,z,q⟩=>⟨by rw[← r.length];exact z,?_⟩)
 have hf:H1 s1.heap.objs.size=none:=I1.hok.fresh (Va _);refine⟨.ref s1.heap.objs.size,upd H1 s1.heap.objs.size (.tup xs),I1.laid (t':=s1.toks) (fun b u e=>Ad _ e) (Va _) ?_,rfl,q _ hf⟩;exact⟨z,us,r,⟨_,Al _ rfl,rfl,_,rfl⟩⟩
theorem cF (h:PA X es t):PE X (.List es pos) (u7 t):=by
 intro pins s σ H Q I hq;refine wpAny_List_spliced (thn (h pos pins s σ H _ I hq) fun us s1 ⟨xs,H1,I1,r,z,q⟩=>⟨by rw[← r.length];exact z,?_⟩)
 have hf:H1 s1.heap.objs.size=none:=I1.hok.fresh (Va _);refine⟨.ref s1.heap.objs.size,upd H1 s1.heap.objs.size (.lst xs),I1.laid (t':=s1.toks) (fun b u e=>Ad _ e) (Va _) ?_,rfl,q _ hf⟩;exact⟨z,us,0,r,Al _ rfl⟩
end
abbrev Sp:=List V->Hp->VK->XK->Prop
abbrev CXT:=List Env->Hp->Shared->XK->Value->Shared->Prop
structure Env0 (P:Program) (w:World) (K:Ab) (mg:Str->Option Value) (base:Heap) (A:Around) (outer:List Env) (s:Shared) (H:Hp):Prop where
 frames:A.frames=some outer
 mod:Mod K mg base
 bs:∀b o,base.get? b=some o->s.heap.get? b=some o/\H b=none
 bsz:base.objs.size<=s.heap.objs.size
 funs:s.heap.FunFrames base outer
 frf:∀b∈frs outer,H b=none
 hok:HOk P w H s.heap
 bare:AllBare s.gens
def CE (outer:List Env) (P:Program) (w:World) (H:Hp) (s:Shared) (Q:VK) (u:Value) (s':Shared):Prop :=
 ∃v H',s'.os=s.os/\AllBare s'.gens/\Un (frs outer) [] H H' s.heap s'.heap/\HOk P w H' s'.heap/\RelV v u/\Q v H'
def CR (CX:CXT) (outer:List Env) (P:Program) (w:World) (H:Hp) (s:Shared) (Q:VK) (E:XK) (r:Result) (s':Shared):Prop :=
 match r with
 | .ok (.ret u)=>CE outer P w H s Q u s'
 | .ok _=>False
 | .error e=>CX outer H s E e s'
structure FnOk (P:Program) (w:World) (K:Ab) (mg:Str->Option Value) (base:Heap) (CX:CXT) (k:Nat) (f:Addr) (fd:FuncData) (ps:List Str) (sp:Sp):Prop where
 len:∀vs H Q E,sp vs H Q E->vs.length=ps.length
 run:∀(A:Around) (outer:List Env) (s:Shared) (H:Hp) (args:Args) (us:List Value) (vs:List V) (Q:VK) (E:XK),Room k A->Env0 P w K mg base A outer s H->BindsTo s fd args (ps.zip us)->Vals vs us->sp vs H Q E ->
  codeAny (model P w) A (.call (.ref f) args) (CR CX outer P w H s Q E) s
theorem FnOk.imp {P:Program} {w:World} {K:Ab} {mg:Str->Option Value} {base:Heap} {CX:CXT} {k:Nat} {f:Addr} {fd:FuncData} {ps:List Str} {sp sp':Sp} (F:FnOk P w K mg base CX k f fd ps sp)
  (h:∀vs H Q E,sp' vs H Q E->sp vs H Q E):FnOk P w K mg base CX k f fd ps sp' :=
 ⟨fun vs H Q E q=>F.len vs H Q E (h _ _ _ _ q),fun A outer s H args us vs Q E hr he hb hv hs=>F.run A outer s H args us vs Q E hr he hb hv (h _ _ _ _ hs)⟩
section
variable {X:Cx} {pins:List (Addr×Obj)} {σ:St} {H:Hp} {s s':Shared}
theorem Inv.env0 (I:Inv X pins σ H s):Env0 X.prog X.w X.K X.mg X.base X.A X.stack s H :=
 ⟨I.ok.frames,I.ok.mod,I.bs,Qd I.ok.bsz I.sz,I.stack,I.stkFree,I.hok,I.bare⟩
theorem Inv.after (I:Inv X pins σ H s) (h:CE X.stack X.prog X.w H s Q u s'):EP X pins σ Q u s':=by
 obtain⟨v,H',os,bare,un,hok,r,q⟩:=h;obtain⟨hh,g,d,t,os'⟩:=s';obtain rfl:os'=s.os:=os;exact⟨v,H',I.call (h':=hh) (g':=g) (d':=d) (t':=t) (ch:=[]) un hok bare (fun b z=>absurd z (by simp)),r,q⟩
end
def u8 (sp:Sp) (dvs:List V) (E:XK) (t:TA):TE:=fun σ H Q=>t σ H fun vs H1=>sp (vs++dvs) H1 Q E
def Binds (K:Ab) (fd:FuncData) (ps:List Str) (ds:List Value):Prop :=
 ∀(s:Shared) (us:List Value),K.In s.heap->(us++ds).length=ps.length->BindsTo s fd ⟨us,[]⟩ (ps.zip (us++ds))
theorem Binds.all {K:Ab} {fd:FuncData} {ps:List Str} (h:∀us:List Value,us.length=ps.length->bindArgs fd ⟨us,[]⟩=pure (ps.zip us)):Binds K fd ps []:=fun s us _ hl=>by
 rw[Qe]at hl ⊢;exact .of_eq (h us hl)
def qL (CX:CXT) (X:Cx) (E:XK):Prop:=∀(pins:List (Addr×Obj)) (σ:St) (H:Hp) (s:Shared) (e:Value) (s':Shared),Inv X pins σ H s->CX X.stack H s E e s'->X.xe e s'
section
variable {X:Cx} {CX:CXT} {k:Nat} {f C:Addr} {fd:FuncData} {ps:List Str} {sp:Sp} {dvs:List V} {ds:List Value} {E:XK} {x m:Str} {p pos apos:Pos} {e o:Expr} {es:List Expr} {ta:TE} {t:TA}
theorem DD (F:FnOk X.prog X.w X.K X.mg X.base CX k f fd ps sp) (hr:Room k X.A) (hb:Binds X.K fd ps ds) (hd:Vals dvs ds) (hx:qL CX X E)
  (I:Inv X pins σ H s) (r:Vals vs us) (h:sp (vs++dvs) H Q E):wpAny (model X.prog X.w) X.A (call (.ref f) us) (EP X pins σ Q) X.xe s:=by
 have r2:Vals (vs++dvs) (us++ds):=r.append hd;have hl:(us++ds).length=ps.length:=by rw[← r2.length];exact F.len _ _ _ _ h
 refine wpAny_call (codeAny_mono (F.run X.A X.stack s H ⟨us,[]⟩ (us++ds) (vs++dvs) Q E hr I.env0 (hb s us I.kIn hl) r2 h) fun r s' hq=>?_);cases r with
 | error e=>exact hx pins σ H s e s' I hq
 | ok fl =>
  cases fl with
  | ret u=>exact I.after hq
  | next=>exact False.elim hq
  | brk=>exact False.elim hq
  | cont=>exact False.elim hq
theorem xW (F:FnOk X.prog X.w X.K X.mg X.base CX k f fd ps sp) (hr:Room k X.A) (hg:Gl X x) (hm:X.mg x=some (.ref f)) (hk:PySem.W.keepIn X.K (.ref f)=true) (hb:Binds X.K fd ps ds) (hd:Vals dvs ds) (hx:qL CX X E)
  (ha:PA X (e::es) t) (hdb:(x == ("__debug__":Str))=false:=by decide) (he:starEach (e::es) X.env=(false,eval e X.env)::starEach es X.env:=by rfl) (hpl:(backTo pos (starEach es X.env)).any (·.1)=false:=by rfl) :
  PE X (.Call (.Name x p) (e::es) [] pos) (u8 sp dvs E t):=by
 intro pins s σ H Q I h;refine B7 (xP I hg hm ?_ hdb);refine PySem.W.callWith_K (h₀:=X.base) I.ok.mod.kin hk (thn (ha pos pins s σ H _ I h) fun us s1 ⟨vs,H1,I1,r,q⟩=>⟨I1.kIn,?_⟩) he hpl;exact DD F hr hb hd hx I1 r q
end
structure FnScope (N P:List Str) (sc:Scope):Prop where
 kind:sc.kind=.function
 co:sc.isCoroutine=false
 gen:sc.isGenerator=false
 nd:N.Nodup
 pre:N.take P.length=P
 par:∀x∈P,sc.names.lookup x=some .local∨sc.names.lookup x=some .cell
 nofree:∀y∈sc.names,y.2≠.free
theorem mW {kindOf:Str->Option NameKind} {x:Str}:∀{binds:List (Str×Value)} {m:Str->Option Value},(∀v,(x,v)∉binds)->bindL kindOf binds m x=m x
 | [],_,_=>rfl
 | (n,v)::r,m,h=>by
  unfold bindL;rw[mW fun w hw=>h w (Vb _ hw)];split
  ·have:x≠n:=by rintro rfl;exact h v Xb
   simp[this]
  ·rfl
theorem mX {kindOf:Str->Option NameKind} {x:Str}:∀{binds:List (Str×Value)} {m:Str->Option Value},(∀v,(x,v)∉binds)->bindC kindOf binds m x=m x
 | [],_,_=>rfl
 | (n,v)::r,m,h=>by
  unfold bindC;rw[mX fun w hw=>h w (Vb _ hw)];split
  ·rfl
  ·have:x≠n:=by rintro rfl;exact h v Xb
   simp[this]
theorem mY {kindOf:Str->Option NameKind} {x:Str} {v:Value}:∀{P:List Str} {vs:List Value} {i:Nat} {m:Str->Option Value},P.Nodup->P[i]?=some x->vs[i]?=some v->kindOf x=some .local ->
  bindL kindOf (P.zip vs) m x=some v
 | [],_,_,_,_,h,_,_=>by simp at h
 | _::_,[],_,_,_,_,h,_=>by simp at h
 | p::P,w::vs,0,m,nd,h1,h2,hk=>by
  simp at h1 h2;subst h1;subst h2;show bindL kindOf ((p,w)::P.zip vs) m p=_;unfold bindL;rw[mW fun v hv=>(Xi.mp nd).1 (CF hv).1,Af hk];simp
 | p::P,w::vs,i+1,m,nd,h1,h2,hk=>by
  show bindL kindOf ((p,w)::P.zip vs) m x=_;unfold bindL;exact mY (i:=i) (Xi.mp nd).2 (by simpa using h1) (by simpa using h2) hk
theorem mZ {kindOf:Str->Option NameKind} {x:Str} {v:Value}:∀{P:List Str} {vs:List Value} {i:Nat} {m:Str->Option Value},P.Nodup->P[i]?=some x->vs[i]?=some v->kindOf x≠some .local ->
  bindC kindOf (P.zip vs) m x=some v
 | [],_,_,_,_,h,_,_=>by simp at h
 | _::_,[],_,_,_,_,h,_=>by simp at h
 | p::P,w::vs,0,m,nd,h1,h2,hk=>by
  simp at h1 h2;subst h1;subst h2;show bindC kindOf ((p,w)::P.zip vs) m p=_;unfold bindC;rw[mX fun v hv=>(Xi.mp nd).1 (CF hv).1,Ah hk];simp
 | p::P,w::vs,i+1,m,nd,h1,h2,hk=>by
  show bindC kindOf ((p,w)::P.zip vs) m x=_;unfold bindC;exact mZ (i:=i) (Xi.mp nd).2 (by simpa using h1) (by simpa using h2) hk
def start (N:List Str) (vs:List V):St:=vs.map some++List.replicate (N.length-vs.length) none
def qM (CX:CXT) (P:Program) (w:World) (K:Ab) (mg:Str->Option Value) (base:Heap) (N:List Str) (qual:Str) (scope:Scope) (f:Addr) (cd:Value) (A:Around) (outer:List Env) (s:Shared) (H:Hp) (E:XK):Cx where
 prog:=P
 w:=w
 K:=K
 mg:=mg
 base:=base
 A:=A.deeper (envOfC qual scope s.heap.objs.size f cd)
 N:=N
 s₀:=s
 H₀:=H
 env:=envOfC qual scope s.heap.objs.size f cd
 outer:=outer
 stack:=envOfC qual scope s.heap.objs.size f cd::outer
 ex:=[]
 calm:=true
 fn:=fun _=>true
 pn:=[]
 xe:=fun e s'=>wpAny (model P w) (A.deeper (envOfC qual scope s.heap.objs.size f cd)) (leaving (envOfC qual scope s.heap.objs.size f cd) e) (fun _ s''=>CX outer H s E e s'') (fun e' s''=>CX outer H s E e' s'') s'
theorem o7 {sc:Scope} (h:sc.names.lookup x=some .cell):∃c,(cellsFrom n sc.names []).lookup x=some c:=by
 have q:=C5 sc.names n [] (.inl h);exact Option.isSome_iff_exists.mp q
theorem tT {CX:CXT} {P:Program} {w:World} {K:Ab} {mg:Str->Option Value} {base:Heap} {N ps:List Str} {qual:Str} {scope:Scope} {f:Addr} {cd:Value} {A:Around} {outer:List Env} {s s1:Shared} {H:Hp} {E:XK} {us:List Value} {vs:List V}
  (S:FnScope N ps scope) (hd:A.handled=none) (e0:Env0 P w K mg base A outer s H) (hl:vs.length=ps.length) (r:Vals vs us)
  (x:InCallC s s.heap.objs.size (bindL (envOfC qual scope s.heap.objs.size f cd).kindOf (ps.zip us) fun _=>none) (cellsFrom (s.heap.objs.size+1) scope.names []) (bindC (envOfC qual scope s.heap.objs.size f cd).kindOf (ps.zip us) fun _=>none) s1) :
  Inv (qM CX P w K mg base N qual scope f cd A outer s H E) [] (start N vs) H s1:=by
 have hpl:ps.length<=N.length:=by have:=congrArg List.length S.pre;rw[Xl]at this;lia
 obtain⟨h1,tk,rfl,hk⟩:=x.done;have noA:∀b:Addr,b∉(qM CX P w K mg base N qual scope f cd A outer s H E).ex:=fun b z=>absurd (show b∈([]:List Addr) from z) (by simp)
 refine⟨⟨e0.mod,S.kind,rfl,rfl,Va _,fun y z c h1 h2=>?_,fun y hy=>?_,fun y c _ h=>?_,fun _=>hd,Around.frames_deeper e0.frames,.inr ⟨rfl,rfl⟩,fun b z=>absurd z (noA b),e0.bs,e0.bsz,fun b _ _=>noA b,fun b z=>absurd z (noA b),e0.funs,e0.frf⟩,
  rfl,e0.bare,Un.kept hk,⟨_,x.toInCall.ns,fun i y v h1 h2 h3=>?_⟩,fun y c h=>⟨_,x.cell y c h⟩,e0.hok.fresh (Va _),fun y c h=>?_,fun p hp=>absurd (show p∈([]:List (Addr×Obj)) from hp) (by simp),e0.hok.kept hk,?_⟩
 ·exact name_of_addr x.apart (Ay h1) (Ay h2)
 ·have hy:scope.names.lookup y=some .cell∨scope.names.lookup y=some .free:=hy;rcases hy with hy|hy
  ·exact o7 hy
  ·exact absurd rfl (S.nofree _ (Ay hy))
 ·exact Xk (x.above y c (Ay h))
 ·have hi:i<vs.length:=by
   unfold start at h2;by_cases hi:i<vs.length
   ·exact hi
   ·rw[Xg (by simpa using hi)]at h2
    rw[AH]at h2;split at h2<;>cases h2
  have ha:vs[i]?=some v:=by
   unfold start at h2;rw[Qi (by simpa using hi),Qb]at h2
   cases e:vs[i]? with
   | none=>rw[e]at h2;cases h2
   | some a=>rw[e]at h2;cases h2;rfl
  obtain⟨u,hu,rv⟩:=r.get ha;have hp:ps[i]?=some y:=by
   rw[← S.pre,List.getElem?_take_of_lt (by lia)];exact h1
  have ndP:ps.Nodup:=by rw[← S.pre];exact S.nd.sublist (List.take_sublist _ _)
  refine⟨u,rv,?_⟩;rcases S.par y (Wa hp) with k|k
  ·exact .inl ⟨k,mY ndP hp hu k⟩
  ·obtain⟨c,e⟩:=o7 (n:=s.heap.objs.size+1) k;refine .inr ⟨.inl k,c,e,?_⟩;have q:=x.cell y c e;rw[mZ ndP hp hu (by show scope.names.lookup y≠_;rw[k];decide)]at q
   exact q
 ·exact e0.hok.fresh (Xk (x.above y c (Ay h)))
 ·unfold start;show _=N.length;rw[Yb,Ya,A6];lia
theorem F8 {CX:CXT} {K:Ab} {mg:Str->Option Value} {k:Nat} {f:Addr} {name qual:Str} {params:Arguments} {body:List Stmt} {scope:Scope} {dV kV doc pm cdv ct oc:Value} {an od:Option Addr}
  {osl:Array (Option Value)} {N ps:List Str} {sp:Sp} (lk:K.lookup f=some ⟨oc,od,.func (PySem.W.fnOf name qual params body scope dV kV doc pm an cdv ct),osl⟩) (hcd:PySem.W.codeIn K cdv qual=true) (S:FnScope N ps scope)
  (len:∀vs H Q E,sp vs H Q E->vs.length=ps.length)
  (hbody:∀(A:Around) (outer:List Env) (s:Shared) (H:Hp) (vs:List V) (Q:VK) (E:XK),Room k (A.deeper (envOfC qual scope s.heap.objs.size f cdv))->sp vs H Q E ->
   ∃t,PSs (qM CX P w K mg base N qual scope f cdv A outer s H E) body t/\t { nx:=fun _ H'=>Q .non H',rt:=Q } (start N vs) H) :
  FnOk P w K mg base CX (k+1) f (PySem.W.fnOf name qual params body scope dV kV doc pm an cdv ct) ps sp:=by
 refine⟨len,fun A outer s H args us vs Q E hr e0 hb r hsp=>?_⟩;have hl:=len _ _ _ _ hsp;have KX:K.In s.heap:=e0.mod.kin.keeps fun b o e=>(e0.bs b o e).1;have lim:s.heap.NoLimit:=e0.mod.nolimit.keeps fun b o e=>(e0.bs b o e).1;have hkind:∀y∈ps.zip us,scope.names.lookup y.1=some .local∨(scope.names.lookup y.1=some .cell/\((cellsFrom (s.heap.objs.size+1) scope.names []).lookup y.1).isSome=true):=fun⟨n,v⟩ hy=>by
  rcases S.par n (CF hy).1 with q|q
  ·exact .inl q
  ·exact .inr ⟨q,C5 _ _ _ (.inl q)⟩
 refine codeAny_call_function hr.depth (KX _ _ lk) rfl S.co S.gen rfl (PySem.W.codeRec_of KX hcd) (hb _ _ _ _ ?_);refine wpAny_newFunctionEnv_cells S.kind hkind fun env he s1 x=>?_;subst he;refine⟨lim.keeps x.toInCall.keep,codeAny_func ?_⟩;obtain⟨t,ht,hq⟩:=hbody A outer s H vs Q E (hr.deeper _) hsp;have I:Inv (qM CX P w K mg base N qual scope f cdv A outer s H E) [] (start N vs) H s1:=tT S hr.hd e0 hl r x;refine AC (ht [] s1 (start N vs) H _ I hq) (fun fl s' hs=>?_) fun e s' hs=>hs;have fin:∀{σ':St} {H':Hp} {v:V} {u:Value},Inv (qM CX P w K mg base N qual scope f cdv A outer s H E) [] σ' H' s'->RelV v u->Q v H'->CE outer P w H s Q u s' :=
  fun {σ' H' v u} J rv q=>⟨v,H',J.os,J.bare,J.base,J.hok,rv,q⟩
 cases fl with
 | ret u =>
  obtain⟨v,σ',H',J,rv,q⟩:=hs;exact fin J rv q
 | next =>
  obtain⟨σ',H',J,q⟩:=hs;exact fin (v:=V.non) (u:=Value.none) J rfl q
 | brk =>
  obtain⟨_,_,_,q⟩:=hs;exact False.elim q
 | cont =>
  obtain⟨_,_,_,q⟩:=hs;exact False.elim q
end L2
namespace L2
open PySem PySem.Spec PyProof.Rows
section
variable {X:Cx} {x:Str} {p pos:Pos} {e:Expr} {es:List Expr} {t:TA} {id T:String} {r:List V->Hp->VK->Prop}
def tCB (r:List V->Hp->VK->Prop) (t:TA):TE:=fun σ H Q=>t σ H fun vs H1=>r vs H1 Q
theorem aH (hc:CallR X (.builtin id) r) (hg:Gl X x) (hm:X.mg x=none) (hv:bootBuiltins x=some (.builtin id)) (ha:PA X (e::es) t) (hn:x≠"__name__":=by decide) (hdb:(x == ("__debug__":Str))=false:=by decide)
  (he:starEach (e::es) X.env=(false,eval e X.env)::starEach es X.env:=by rfl) (hpl:(backTo pos (starEach es X.env)).any (·.1)=false:=by rfl):PE X (.Call (.Name x p) (e::es) [] pos) (tCB r t):=by
 intro pins s σ H Q I h;refine B7 (gh I hg hm hv ?_ hn hdb);exact PyProof.Rows.callWith_builtin1 (thn (ha pos pins s σ H _ I h) fun us s1 ⟨vs,H1,I1,r1,q1⟩=>hc pins s1 σ H1 vs us Q I1 r1 q1) he hpl
theorem cn (hc:CallR X (.type T) r) (hg:Gl X x) (hm:X.mg x=none) (hv:bootBuiltins x=some (.type T)) (ha:PA X (e::es) t) (hn:x≠"__name__":=by decide) (hdb:(x == ("__debug__":Str))=false:=by decide)
  (he:starEach (e::es) X.env=(false,eval e X.env)::starEach es X.env:=by rfl) (hpl:(backTo pos (starEach es X.env)).any (·.1)=false:=by rfl):PE X (.Call (.Name x p) (e::es) [] pos) (tCB r t):=by
 intro pins s σ H Q I h;refine B7 (gh I hg hm hv ?_ hn hdb);exact Ax (thn (ha pos pins s σ H _ I h) fun us s1 ⟨vs,H1,I1,r1,q1⟩=>hc pins s1 σ H1 vs us Q I1 r1 q1) he hpl
end
end L2
namespace L2
open PySem PySem.Spec PyProof.Rows
section
variable {κ:Type} [DecidableEq κ]
def gk (kvs:List (κ×V)) (k:κ):Option V:=(kvs.find? fun kv=>decide (kv.1=k)).map (·.2)
def putK (kvs:List (κ×V)) (k:κ) (v:V):List (κ×V) :=
 if (kvs.any fun kv=>decide (kv.1=k))=true then kvs.map (fun kv=>if kv.1=k then(kv.1,v) else kv) else kvs++[(k,v)]
theorem gl {p:κ×V} {r:List (κ×V)} {k:κ} (e:p.1=k):gk (p::r) k=some p.2:=by simp[gk,Yh,e]
theorem gm {p:κ×V} {r:List (κ×V)} {k:κ} (e:¬ p.1=k):gk (p::r) k=gk r k:=by simp[gk,Yh,e]
theorem o8 (k:κ):∀kvs:List (κ×V),(kvs.any fun kv=>decide (kv.1=k))=(gk kvs k).isSome
 | []=>rfl
 | p::r=>by
  rw[AR];by_cases e:p.1=k
  ·simp only[gl e,Ag e,Bool.true_or,Option.isSome_some]
  ·rw[gm e,Ae e,Bool.false_or];exact o8 k r
theorem jW (kvs:List (κ×V)) (k:κ) (v:V):(putK kvs k v).length<=kvs.length+1:=by
 unfold putK;split
 ·rw[Ya];lia
 ·rw[Yb,Ye,Wi];lia
theorem RelO.isSome_eq {o:Option V} {u:Option Value} (r:RelO o u):o.isSome=u.isSome:=by
 cases o with
 | none=>cases u with
  | none=>rfl
  | some _=>exact(show False from r).elim
 | some _=>cases u with
  | none=>exact(show False from r).elim
  | some _=>rfl
theorem KV.val {kvs:List (κ×V)} {vs:List (κ×Value)} (r:KV kvs vs) (k:κ):RelO (gk kvs k) (valueAt vs k):=by
 unfold KV at r;induction r with
 | nil=>exact True.intro
 | @cons p q ps qs h t ih =>
  obtain⟨h1,h2⟩:=h;by_cases e:p.1=k
  ·have e':q.1=k:=h1.symm.trans e;have b:valueAt (q::qs) k=some q.2:=by simp[valueAt,Yh,e']
   rw[gl e,b];exact h2
  ·have e':¬ q.1=k:=fun z=>e (h1.trans z);have b:valueAt (q::qs) k=valueAt qs k:=by simp[valueAt,Yh,e']
   rw[gm e,b];exact ih
theorem KV.any {kvs:List (κ×V)} {vs:List (κ×Value)} (r:KV kvs vs) (k:κ):(kvs.any fun kv=>decide (kv.1=k))=vs.any fun kv=>decide (kv.1=k):=by
 unfold KV at r;induction r with
 | nil=>rfl
 | cons h t ih=>rw[AR,AR,ih,h.1]
theorem KV.repl {kvs:List (κ×V)} {vs:List (κ×Value)} (r:KV kvs vs) (k:κ) (ry:RelV y u) :
  KV (kvs.map fun kv=>if kv.1=k then(kv.1,y) else kv) (vs.map fun kv=>if kv.1=k then(kv.1,u) else kv):=by
 unfold KV at r ⊢;induction r with
 | nil=>exact .nil
 | @cons p q ps qs h t ih =>
  rw[Wd,Wd];refine .cons ?_ ih;obtain⟨h1,h2⟩:=h;by_cases e:p.1=k
  ·rw[Af e,Af (h1.symm.trans e)];exact⟨h1,ry⟩
  ·rw[Ah e,Ah (fun z=>e (h1.trans z))];exact⟨h1,h2⟩
theorem KV.put (r:KV kvs vs) (k:κ) (ry:RelV y u):KV (putK kvs k y) (stored vs k u):=by
 unfold putK stored;rw[r.any k];by_cases e:(vs.any fun kv=>decide (kv.1=k))=true
 ·rw[Af e,Af e];exact r.repl k ry
 ·rw[Ah e,Ah e];exact Paired.snoc r ⟨rfl,ry⟩
theorem KV.length {kvs:List (κ×V)} {vs:List (κ×Value)} (r:KV kvs vs):kvs.length=vs.length:=Paired.length r
end
theorem o9 (r:RelV (kV k) u):(bE P w).is k u=true:=by
 cases k with
 | inl i=>obtain⟨t,e⟩:=(show ∃t,u=Value.int i t from r);subst e;exact oV P w i t
 | inr x=>obtain⟨t,e⟩:=(show ∃t,u=Value.str x t from r);subst e;exact oW P w x t
theorem m5:∀{ks:List Key} {us:List Value},Vals (ks.map kV) us->ItemsAre (bE P w) ks us
 | [],_,r=>by rw[BM]at r;cases r;exact .nil
 | k::ks,_,r=>by
  rw[Wd]at r;cases r with
  | cons h t=>exact .cons (o9 h) (m5 t)
abbrev KT (H:Hp):List (List Key×V)->List (List Key×Addr×Value)->Prop:=Paired fun p q=>p.1=q.1/\H q.2.1=some (.tup (p.1.map kV))/\RelV p.2 q.2.2
theorem KT.val {kvs:List (List Key×V)} {xs:List (List Key×Addr×Value)} (r:KT H kvs xs) (k:List Key):RelO (gk kvs k) ((atKey xs k).map (·.2)):=by
 induction r with
 | nil=>exact True.intro
 | @cons p q ps qs h t ih =>
  obtain⟨h1,_,h2⟩:=h;by_cases e:p.1=k
  ·have e':q.1=k:=h1.symm.trans e;have b:atKey (q::qs) k=some q.2:=by simp[atKey,Yh,e']
   rw[gl e,b];exact h2
  ·have e':¬ q.1=k:=fun z=>e (h1.trans z);have b:atKey (q::qs) k=atKey qs k:=by simp[atKey,Yh,e']
   rw[gm e,b];exact ih
theorem KT.repl {kvs:List (List Key×V)} {xs:List (List Key×Addr×Value)} (r:KT H kvs xs) (k:List Key) (ry:RelV y u) :
  KT H (kvs.map fun kv=>if kv.1=k then(kv.1,y) else kv) (xs.map (putAt k u)):=by
 induction r with
 | nil=>exact .nil
 | @cons p q ps qs h t ih =>
  rw[Wd,Wd];refine .cons ?_ ih;obtain⟨h1,h2,h3⟩:=h;unfold putAt;by_cases e:p.1=k
  ·rw[Af e,Af (h1.symm.trans e)];exact⟨h1,h2,ry⟩
  ·rw[Ah e,Ah (fun z=>e (h1.trans z))];exact⟨h1,h2,h3⟩
theorem KT.put (r:KT H kvs xs) (k:List Key) (hb:H b=some (.tup (k.map kV))) (ry:RelV y u) :
  KT H (putK kvs k y) (storedH xs k b u):=by
 have e:(kvs.any fun kv=>decide (kv.1=k))=(atKey xs k).isSome:=by
  rw[o8,(r.val k).isSome_eq,Bu]
 unfold putK storedH;rw[e];by_cases q:(atKey xs k).isSome=true
 ·rw[Af q,Af q];exact r.repl k ry
 ·rw[Ah q,Ah q];exact Paired.snoc r ⟨rfl,hb,ry⟩
theorem KT.keeps (r:KT H kvs xs) (ht:∀b ys,H b=some (.tup ys)->H' b=some (.tup ys)):KT H' kvs xs :=
 Paired.mapP r fun _ _ z=>⟨z.1,ht _ _ z.2.1,z.2.2⟩
section
variable {P:Program} {w:World} {H:Hp} {h:Heap} {a:Addr}
theorem zt (ok:HOk P w H h) (e:Rd H a u):ObjOk P w H h a u:=e.ok ok
theorem pb {kvs:List (Key×V)} (ok:HOk P w H h) (e:Rd H a (.dK kvs)):kvs.length<=sizeLine/\(a == sysModules)=false/\∃vs,KV kvs vs/\h.DictOf (bE P w) a vs :=
 show ObjOk P w H h a (.dK kvs) from zt ok e
theorem F9 {kvs:List (Key×V)} (ok:HOk P w H h) (e:H a=some (.dK kvs)):kvs.length<=sizeLine/\(a == sysModules)=false/\∃vs,KV kvs vs/\h.DictOf (bE P w) a vs:=pb ok (.inl e)
theorem iu {ks:List Key} (ok:HOk P w H h) (e:H a=some (.tup (ks.map kV))):(tupleKind (bE P w)).is h ks a:=by
 obtain⟨_,its,r,o,h1,h2,n,h3⟩:=(show ObjOk P w H h a (.tup (ks.map kV)) from ok a _ e);exact⟨o,its.toArray,n,h1,h2,h3,by simpa using m5 r⟩
theorem pe {kvs:List (List Key×V)} (ok:HOk P w H h) (e:Rd H a (.dT ep kvs)):kvs.length<=sizeLine/\(a == sysModules)=false /\
  ∃xs,KT H kvs xs/\h.DictOfH (tupleKind (bE P w)) a xs:=by
 obtain⟨z,y,xs,r,_,o,es,h1,h2,h3,h4,h5⟩:=(show ObjOk P w H h a (.dT ep kvs) from zt ok e);refine⟨z,y,xs,r,o,es,ep.1,h1,h2,h3,h4,fun x hx=>?_,h5⟩;have all:∀{l:List (List Key×V)} {m:List (List Key×Addr×Value)},KT H l m->∀x∈m,(tupleKind (bE P w)).is h x.1 x.2.1:=by
  intro l m q;induction q with
  | nil=>intro x hx;exact nomatch hx
  | @cons p q ps qs hq t ih =>
   intro x hx;rcases Yd.mp hx with e|hx
   ·subst e;exact iu ok (by rw[← hq.1];exact hq.2.1)
   ·exact ih x hx
 exact all r x hx
theorem ph {kvs:List (List Key×V)} (ok:HOk P w H h) (e:H a=some (.dT ep kvs)):kvs.length<=sizeLine/\(a == sysModules)=false /\
  ∃xs,KT H kvs xs/\h.DictOfH (tupleKind (bE P w)) a xs:=pe ok (.inl e)
end
section
variable {P:Program} {w:World} {H:Hp} {h:Heap} {a:Addr}
theorem zu {kvs:List (List Key×V)} (ok:HOk P w H h) (e:H a=some (.dT ep kvs)):kvs.length<=sizeLine/\(a == sysModules)=false /\
  ∃xs,KT H kvs xs/\xs.map (·.2.1)=ep.2/\h.DictOfH (tupleKind (bE P w)) a xs:=by
 obtain⟨z,y,xs,r,ra,o,es,h1,h2,h3,h4,h5⟩:=(show ObjOk P w H h a (.dT ep kvs) from ok a _ e);refine⟨z,y,xs,r,ra,o,es,ep.1,h1,h2,h3,h4,fun x hx=>?_,h5⟩;have all:∀{l:List (List Key×V)} {m:List (List Key×Addr×Value)},KT H l m->∀x∈m,(tupleKind (bE P w)).is h x.1 x.2.1:=fun {l m} q=>by
  induction q with
  | nil=>exact fun x hx=>nomatch hx
  | cons hq t ih =>
   intro x hx;rcases Yd.mp hx with e'|hx
   ·subst e';exact iu ok (by rw[← hq.1];exact hq.2.1)
   ·exact ih x hx
 exact all r x hx
end
def DGet (H:Hp) (a:Addr) (y:V) (r:Option V):Prop :=
 (∃kvs k,Rd H a (.dK kvs)/\y=kV k/\r=gk kvs k)∨∃ep kvs k b,Rd H a (.dT ep kvs)/\y=.ref b/\H b=some (.tup (k.map kV))/\r=gk kvs k
def tU (as:List Addr) (kvs:List (List Key×V)) (k:List Key) (b:Addr):List Addr:=if (gk kvs k).isSome=true then as else as++[b]
def Ga (H:Hp) (a:Addr) (y v:V) (R:Hp->Prop):Prop :=
 (∃kvs k,H a=some (.dK kvs)/\y=kV k/\kvs.length<sizeLine/\R (upd H a (.dK (putK kvs k v)))) ∨
 ∃ep kvs k b,H a=some (.dT ep kvs)/\y=.ref b/\H b=some (.tup (k.map kV))/\kvs.length<sizeLine/\∀n,R (upd H a (.dT (n,tU ep.2 kvs k b) (putK kvs k v)))
theorem DGet.k {a:Addr} {kvs:List (Key×V)} {k:Key} (e:H a=some (.dK kvs)):DGet H a (kV k) (gk kvs k):=.inl ⟨kvs,k,.inl e,rfl,rfl⟩
theorem DGet.t {k:List Key} (e:H a=some (.dT ep kvs)) (eb:H b=some (.tup (k.map kV))):DGet H a (.ref b) (gk kvs k):=.inr ⟨ep,kvs,k,b,.inl e,rfl,eb,rfl⟩
theorem DE {xs:List (List Key×Addr×Value)} (ra:xs.map (·.2.1)=as) (rel:KT H kvs xs):(storedH xs k b u).map (·.2.1)=tU as kvs k b:=by
 have e:(gk kvs k).isSome=(atKey xs k).isSome:=by rw[(rel.val k).isSome_eq,Bu]
 unfold storedH tU;rw[e];by_cases q:(atKey xs k).isSome=true
 ·rw[Af q,Af q,← ra,Xe];refine Zg fun x _=>?_;show(putAt k u x).2.1=x.2.1;unfold putAt;split<;>rfl
 ·rw[Ah q,Ah q,Yf,ra];rfl
section
variable {X:Cx} {pins:List (Addr×Obj)} {σ:St} {H:Hp} {s:Shared} {a:Addr} {y v:V} {u r:Value} {o:Option V} {A:Around} {E:Value->Shared->Prop}
theorem Inv.big (I:Inv X pins σ H s):sysModules<s.heap.objs.size:=by
 have h:mainGlobals<s.heap.objs.size:=(I.mod.glob.keeps I.bk).lt;exact Bj (by decide) h
theorem tV (hu:A.units+1<cLine) (I:Inv X pins σ H s) (g:DGet H a y (some v)) (ry:RelV y u) (h:∀w' s',Inv X pins σ H s'->RelV v w'->Q w' s') :
  wpAny (model X.prog X.w) A (getItem (.ref a) u) Q E s:=by
 rcases g with⟨kvs,k,e,ey,l⟩|⟨ep,kvs,k,b,e,ey,eb,l⟩
 ·subst ey;obtain⟨z,hd,vs,rel,dd⟩:=pb I.hok e;obtain⟨w',hw,rw'⟩:=RelO.some_of (v:=v) (o:=valueAt vs k) (by rw[l];exact rel.val k)
  exact wpAny_getItem_of (o9 ry) dd.mapOf hw (h w' _ (I.tok _) rw')
 ·subst ey;cases (show u=Value.ref b from ry);obtain⟨z,hd,xs,rel,dd⟩:=pe I.hok e;obtain⟨w',hw,rw'⟩:=RelO.some_of (v:=v) (o:=(atKey xs k).map (·.2)) (by rw[l];exact rel.val k)
  obtain⟨p,hp,hp2⟩:=Zd.mp hw;refine wpAny_getItem_heap (AD hu) (iu I.hok eb) dd hp ?_;rw[hp2];exact h w' _ (I.tok _) rw'
theorem G5 (hu:A.units+1<cLine) (I:Inv X pins σ H s) (g:DGet H a y o) (ry:RelV y u) (h:∀s',Inv X pins σ H s'->Q (.bool o.isSome) s') :
  wpAny (model X.prog X.w) A (compareOp .In u (.ref a)) Q E s:=by
 rcases g with⟨kvs,k,e,ey,l⟩|⟨ep,kvs,k,b,e,ey,eb,l⟩
 ·subst ey;obtain⟨z,hd,vs,rel,dd⟩:=pb I.hok e;refine wpAny_in_of (o9 ry) hd dd.mapOf ?_;rw[← (rel.val k).isSome_eq,← l];exact h _ (I.tok _)
 ·subst ey;cases (show u=Value.ref b from ry);obtain⟨z,hd,xs,rel,dd⟩:=pe I.hok e;refine wpAny_in_heap (AD hu) (iu I.hok eb) hd dd ?_;have q:=(rel.val k).isSome_eq;rw[Bu]at q;rw[← q,← l];exact h _ (I.tok _)
theorem xX (hu:A.units+1<cLine) (I:Inv X pins σ H s) (g:DGet H a y o) (ry:RelV y u) (h:∀s',Inv X pins σ H s'->Q (.bool (!o.isSome)) s') :
  wpAny (model X.prog X.w) A (compareOp .NotIn u (.ref a)) Q E s:=by
 rcases g with⟨kvs,k,e,ey,l⟩|⟨ep,kvs,k,b,e,ey,eb,l⟩
 ·subst ey;obtain⟨z,hd,vs,rel,dd⟩:=pb I.hok e;refine wpAny_notIn_of (o9 ry) hd dd.mapOf ?_;rw[← (rel.val k).isSome_eq,← l];exact h _ (I.tok _)
 ·subst ey;cases (show u=Value.ref b from ry);obtain⟨z,hd,xs,rel,dd⟩:=pe I.hok e;refine wpAny_notIn_heap (AD hu) (iu I.hok eb) hd dd ?_;have q:=(rel.val k).isSome_eq;rw[Bu]at q;rw[← q,← l];exact h _ (I.tok _)
theorem nO {h':Heap} {t':Nat} (I:Inv X pins σ H s) (mu:Mut (H a)) (hs:Heap.SameBut a s.heap h') (he:∃q,h'.get? a=some q) (new:ObjOk X.prog X.w (upd H a ob) h' a ob) :
  Inv X pins σ (upd H a ob) { s with heap:=h',toks:=t' } :=
 I.write (x:=a) (e:=a) mu (.inl rfl) (fun b q hb z=>(hs.2 b hb).trans z) he new
theorem DF {h':Heap} {kvs:List (Key×V)} (z:kvs.length<=sizeLine) (hd:(a == sysModules)=false) (rel:KV kvs vs) (dd:h'.DictOf (bE P w) a vs) :
  ObjOk P w H' h' a (.dK kvs):=⟨z,hd,vs,rel,dd⟩
theorem tW {R:Hp->Prop} {Q:Unit->Shared->Prop} (hu:A.units+1<cLine) (I:Inv X pins σ H s) (g:Ga H a y v R) (ry:RelV y u) (rv:RelV v r) (h:∀s' H',Inv X pins σ H' s'->R H'->Q () s') :
  wpAny (model X.prog X.w) A (setItem (.ref a) u r) Q E s:=by
 rcases g with⟨kvs,k,e,ey,l,eH⟩|⟨ep,kvs,k,b,e,ey,eb,l,eH⟩
 ·subst ey;obtain⟨z,hd,vs,rel,dd⟩:=F9 I.hok e;have hz:vs.length<=sizeLine:=by rw[← rel.length];exact z
  have hl:(putK kvs k v).length<=sizeLine:=by have:=jW kvs k v;lia
  refine wpAny_setItem_pairs (hsz:=hz) (o9 ry) dd fun h' dd' hs=>h _ _ ?_ eH;have he:∃q,h'.get? a=some q:=let ⟨q,_,_,hq,_⟩:=dd';⟨q,hq⟩;exact nO I (by rw[e];exact True.intro) hs he (DF hl hd (rel.put k rv) dd')
 ·subst ey;cases (show u=Value.ref b from ry);obtain⟨z,hd,xs,rel,ra0,dd⟩:=zu I.hok e;have hz:xs.length<=sizeLine:=by rw[← Paired.length rel];exact z
  have hl:(putK kvs k v).length<=sizeLine:=by have:=jW kvs k v;lia
  have ra:xs.map (·.2.1)=ep.2:=ra0;refine wpAny_setItem_heap (hsz:=hz) (AD hu) (iu I.hok eb) dd fun h' dd' hs=>?_;obtain⟨q,es,ep',hq,h2,h3,h4,_,h5⟩:=dd';refine h _ _ ?_ (eH ep');refine nO I (by rw[e];exact True.intro) hs ⟨q,hq⟩ ⟨hl,hd,_,(rel.put k eb rv).keeps fun c ys ec=>?_,DE ra rel,q,es,hq,h2,h3,h4,h5⟩
  rw[aF (FW ec e (fun z=>nomatch z))];exact ec
end
def DG (i:Expr):Prop:=∀ov iv,subscripted i false ov iv=operate [ov,iv] (getItem ov iv)
theorem xY {A:Around} {E:Value->Shared->Prop} {T id:String} {Q:Value->Shared->Prop}
  (hl:typeLookup (.type T) "__getitem__"=pure (some (.builtin id))) (hs:DG slice)
  (h:wpAny (model prog w) A (eval value env) (fun o s₁=>wpAny (model prog w) A (eval slice env) (fun i s₂=>s₂.TypeIs o T/\wpAny (model prog w) A (getItem o i) Q E s₂) E s₁) E s) :
  wpAny (model prog w) A (eval (.Subscript value slice pos) env) Q E s:=by
 refine Subscript_ (AC h (fun o s₁ h₁=>AC h₁ (fun i s₂ h₂=>?_) fun _ _ x=>x) fun _ _ x=>x);obtain⟨hT,h₂⟩:=h₂;unfold subscriptTail;refine Aa ?_;rw[getitemInPython_of_ne hT.not_modules];refine Aa (wpAny_specialOf hT hl ?_);have fin:wpAny (model prog w) A (subscripted slice false o i) (fun r s₃=>wpAny (model prog w) A (letTemporaryGo value o r >>= fun _=>pure r) Q E s₃) E s₂:=by
  rw[hs o i];exact wpAny_operating (AC h₂ (fun r s₃ h₃=>Aa (wpAny_letTemporaryGo (Ac h₃))) fun _ _ x=>x)
 first
  | exact Ac (Aa fin)
  | exact Aa (Ac (Aa fin))
  | exact Aa fin
theorem pi {s:Shared} (I:Inv X pins σ H s) (g:DGet H a y o):s.TypeIs (.ref a) "dict":=by
 rcases g with⟨kvs,k,e,_,_⟩|⟨ep,kvs,k,b,e,_,_,_⟩
 ·obtain⟨_,_,vs,_,dd⟩:=pb I.hok e;exact dd.typeIs
 ·obtain⟨_,_,xs,_,dd⟩:=pe I.hok e;exact dd.typeIs
def Gb (td ty:TE):TE:=fun σ H Q=>td σ H fun x H1=>ty σ H1 fun y H2=>∃a v,x=.ref a/\DGet H2 a y (some v)/\Q v H2
section
variable {X:Cx} {o i e value:Expr} {pos pos' tpos:Pos} {td ty tv:TE}
theorem xZ (hu:X.A.units+1<cLine) (ho:PE X o td) (hi:PE X i ty) (hs:DG i):PE X (.Subscript o i pos) (Gb td ty):=by
 intro pins s σ H Q I h;refine xY PySem.F.slot_dict_getitem.lookup hs (thn (ho pins s σ H _ I h) fun u s1 ⟨x,H1,I1,rx,q1⟩=>thn (hi pins s1 σ H1 _ I1 q1) fun iv s2 zz9=>?_);obtain⟨y,H2,I2,ry,a,v,ex,g,q2⟩:=zz9;subst ex;obtain rfl:u=Value.ref a:=rx;exact⟨pi I2 g,tV hu I2 g ry fun w' s3 I3 rw'=>⟨v,H2,I3,rw',q2⟩⟩
end
theorem u9 (h:Heap) (hb:sysModules<h.objs.size):ObjOk P w H (h.push { cls:=.type "dict",data:=.dict #[] }) h.objs.size (.dK []) :=
 ⟨Wh _,beq_eq_false_iff_ne.mpr (AF (Yg hb)),[],.nil,Heap.DictOf.new h⟩
theorem pj (h:Heap) (hb:sysModules<h.objs.size):ObjOk P w H (h.push { cls:=.type "dict",data:=.dict #[] }) h.objs.size (.dT (0,[]) []) :=
 ⟨Wh _,beq_eq_false_iff_ne.mpr (AF (Yg hb)),[],.nil,rfl,_,#[],Al _ rfl,⟨rfl,rfl,rfl⟩,rfl,rfl,BZ⟩
def va:TE:=fun _ H Q=>∀p,H p=none->Q (.ref p) (upd H p (.dK []))
def vb:TE:=fun _ H Q=>∀p,H p=none->Q (.ref p) (upd H p (.dT (0,[]) []))
section
variable {X:Cx} {pos:Pos}
theorem vc:PE X (.Dict [] [] pos) va:=fun pins s σ H Q I h =>
 wpAny_Dict_empty ⟨.ref s.heap.objs.size,_,I.laid (a:=s.heap.objs.size) (o:=.dK []) (t':=s.toks) (fun _ _ q=>Ad _ q) (Va _) (u9 s.heap I.big),rfl,h _ (I.hok.fresh (Va _))⟩
theorem iU:PE X (.Dict [] [] pos) vb:=fun pins s σ H Q I h =>
 wpAny_Dict_empty ⟨.ref s.heap.objs.size,_,I.laid (a:=s.heap.objs.size) (o:=.dT (0,[]) []) (t':=s.toks) (fun _ _ q=>Ad _ q) (Va _) (pj s.heap I.big),rfl,h _ (I.hok.fresh (Va _))⟩
end
end L2
namespace HT
open PySem PyProof.Rows
theorem rcLt_int (A:Around) (s:Shared) (a:Int) (t:Tok) (c:Int) (u:Tok) (prog:Program) (w:World) (E:Value->Shared->Prop) (Q:Value->Shared->Prop) (h:Q (.bool (decide (a<c))) s) :
  wpAny (model prog w) A (richCompare .Lt (.int a t) (.int c u)) Q E s :=
 (PyProof.Rows.lt_int h:wpAny (model prog w) A (compareOp .Lt (.int a t) (.int c u)) Q E s)
section
variable {prog:Program} {w:World} {A:Around} {E:Value->Shared->Prop} {s:Shared}
theorem cat_tup {vs ws:List Value} (ht:IsTup s.heap t vs.toArray) (hb:IsTup s.heap b ws.toArray) (hv:vs≠[])
  (h1:ws=[]->Q (.ref t) s) (h2:ws≠[]->Q (.ref s.heap.objs.size) { s with heap:=s.heap.push { cls:=.type "tuple",data:=.seq (vs++ws).toArray } })
  (hsz:vs.length+ws.length<=sizeLine):wpAny (model prog w) A (binaryOp .Add (.ref t) (.ref b)) Q E s:=by
 obtain⟨⟨cls,dd,data,sl⟩,ho,hc,n,hd⟩:=id ht;obtain⟨⟨cls2,dd2,data2,sl2⟩,ho2,hc2,n2,hd2⟩:=id hb;simp only at hc hd hc2 hd2;subst hc hd hc2 hd2;have e:vs.toArray++ws.toArray=(vs++ws).toArray:=by simp
 by_cases hw:ws=[]
 ·exact concat_meets ⟨_,ho,rfl⟩ ⟨_,ho2,rfl⟩ noFill_tuple_add seq_tuple_add C6 C2 (CV _ _)
   (tuple_addW1 t b vs.toArray ws.toArray n n2 dd dd2 sl sl2 (by simpa using hv) (by simp[hw])) ⟨ho,ho2,h1 hw⟩
 ·refine concat_meets ⟨_,ho,rfl⟩ ⟨_,ho2,rfl⟩ noFill_tuple_add seq_tuple_add C6 C2 (CV _ _)
   (tuple_addW2 t b vs.toArray ws.toArray n n2 dd dd2 sl sl2 (by simpa using hv) (by simpa using hw) (by rw[Wb,Wb];exact hsz)) ⟨ho,ho2,?_⟩
  rw[e];exact h2 hw
def sIx (n d:Nat):Option Int->Nat
 | none=>d
 | some v=>if v<0 then(v+(n:Int)).toNat else min v.toNat n
theorem sIx_nat (n d k:Nat):sIx n d (some (k:Int))=min k n:=by
 show(if (k:Int)<0 then((k:Int)+(n:Int)).toNat else min (k:Int).toNat n)=min k n;rw[Ah (by lia),Bw]
theorem DH (n d:Nat) (hd:d<=n) (o:Option Int):sIx n d o<=n:=by
 cases o with
 | none=>exact hd
 | some v =>
  show(if v<0 then(v+(n:Int)).toNat else min v.toNat n)<=n;by_cases hv:v<0
  ·rw[Af hv];lia
  ·rw[Ah hv];exact Cs _ _
theorem clip_nat (v:Int) (n:Nat) (hv:¬ v<0):min v (n:Int)=((min v.toNat n:Nat):Int):=by
 obtain⟨k,rfl⟩:=Ym (Int.not_lt.mp hv);rw[Bw];rcases Nat.le_total k n with h|h
 ·rw[Yn h];exact Int.min_eq_left (Int.ofNat_le.mpr h)
 ·rw[Ct h];exact Int.min_eq_right (Int.ofNat_le.mpr h)
theorem sj (v:Int) (n d:Nat):(if v<0 then max (v+(n:Int)) 0 else min v (n:Int))=((sIx n d (some v):Nat):Int):=by
 show(if v<0 then max (v+(n:Int)) 0 else min v (n:Int))=(((if v<0 then(v+(n:Int)).toNat else min v.toNat n):Nat):Int);by_cases hv:v<0
 ·rw[Af hv,Af hv];exact(Int.ofNat_toNat _).symm
 ·rw[Ah hv,Ah hv];exact clip_nat v n hv
theorem qN (lo hi:Option Int) (n:Nat):Builtin.Slice.sliceAdjust lo hi 1 (n:Int)=(((sIx n 0 lo:Nat):Int),((sIx n n hi:Nat):Int)):=by
 have h1:¬ ((1:Int)<0):=by lia
 unfold Builtin.Slice.sliceAdjust;simp only[h1,if_false];refine Prod.ext ?_ ?_
 ·cases lo with
  | none=>rfl
  | some v=>exact sj v n 0
 ·cases hi with
  | none=>rfl
  | some v=>exact sj v n n
theorem qO (i j:Nat):Builtin.Slice.slicePlaces (i:Int) (j:Int) 1=j-i:=by
 unfold Builtin.Slice.slicePlaces;have h1:(1:Int) > 0:=by lia
 simp only[h1,if_true,Int.ediv_one];split<;>lia
theorem k0 (p:IsPart v o) (h:Q o s):wpAny (model prog w) A (Builtin.Slice.slicePartIndex v) Q E s:=by
 cases p with
 | none=>exact slicePart_none h
 | int i t=>exact slicePart_int h
theorem jC {sl:Addr} {vl vu:Value} {lo hi:Option Int} {n:Nat} {Q:Int×Int×Nat->Shared->Prop} (hs:s.heap.IsSliceOf sl vl vu .none) (pl:IsPart vl lo) (pu:IsPart vu hi)
  (h:Q (((sIx n 0 lo:Nat):Int),1,sIx n n hi-sIx n 0 lo) s):wpAny (model prog w) A (Builtin.Slice.sliceApplied (.ref sl) (pure (n:Int))) Q E s:=by
 obtain⟨os,hos,hcs,hds⟩:=id hs;unfold Builtin.Slice.sliceApplied Builtin.Slice.sliceFields;refine Aa (Aa (Bt hos hds (x:=vl) rfl (Aa (Bt hos hds (x:=vu) rfl (Aa (Bt hos hds (x:=.none) rfl (Ac ?_)))))));refine Aa (slicePart_none ?_);show wpAny _ _ (if ((1:Int) == 0)=true then _ else _) _ _ s;rw[Ah (by decide)]
 refine Aa (k0 pl (Aa (k0 pu (Aa (Ac ?_)))));show wpAny _ _ (match Builtin.Slice.sliceAdjust lo hi 1 (n:Int) with|(lo,hi)=>pure (lo,(1:Int),Builtin.Slice.slicePlaces lo hi 1)) _ _ s
 rw[qN lo hi n];show wpAny _ _ (pure (((sIx n 0 lo:Nat):Int),(1:Int),Builtin.Slice.slicePlaces ((sIx n 0 lo:Nat):Int) ((sIx n n hi:Nat):Int) 1)) _ _ s;rw[qO];exact Ac h
theorem vd (xs:Array Value) (i k:Nat):((List.range k).filterMap fun(m:Nat)=>xs[((i:Int)+(m:Int)*1).toNat]?).toArray=((xs.toList.drop i).take k).toArray:=by
 have e:(fun(m:Nat)=>xs[((i:Int)+(m:Int)*1).toNat]?)=fun m=>xs[i+m]?:=by
  funext m
  have:((i:Int)+(m:Int)*1).toNat=i+m:=by lia
  rw[this]
 rw[e];have:=pick_run xs i k;rw[List.filterMap_map]at this;have e2:((fun x=>xs[x]?) ∘ fun x=>i+x)=fun m=>xs[i+m]?:=rfl;rw[e2]at this;rw[this]
theorem getItem_tuple_cut {t sl:Addr} {items:Array Value} {vl vu:Value} {lo hi:Option Int} {Q:Value->Shared->Prop} (ht:IsTup s.heap t items) (hs:s.heap.IsSliceOf sl vl vu .none) (pl:IsPart vl lo) (pu:IsPart vu hi)
  (hw:¬ (sIx items.size 0 lo=0/\sIx items.size items.size hi=items.size))
  (h:Q (.ref s.heap.objs.size) { s with heap:=s.heap.push { cls:=.type "tuple",data:=.seq ((items.toList.drop (sIx items.size 0 lo)).take (sIx items.size items.size hi-sIx items.size 0 lo)).toArray } })
  (hsz:items.size<=sizeLine):wpAny (model prog w) A (getItem (.ref t) (.ref sl)) Q E s:=by
 have htake:sizeOk (.seq ((items.toList.drop (sIx items.size 0 lo)).take (sIx items.size items.size hi-sIx items.size 0 lo)).toArray):=by
  show((items.toList.drop (sIx items.size 0 lo)).take (sIx items.size items.size hi-sIx items.size 0 lo)).toArray.size<=sizeLine;rw[Wb,Xl,AN,Xd];exact Qd (Cs _ _) (Qd (Nat.sub_le _ _) hsz)
 have hj:sIx items.size items.size hi<=items.size:=DH _ _ (Va _) hi;obtain⟨os,hos,hcs,hds⟩:=id hs;have hTs:s.TypeIs (.ref sl) "slice":=⟨os,hos,hcs⟩;unfold getItem
 try with_reducible refine Aq ?_
 first|refine Aa (Ac ?_)|skip
 refine Aa (wpAny_sequenceKey ht.typeIs (by decide) ?_)
 refine Aa (AW (name:=Str.ofString "__getitem__") ht.typeIs Cn
  (Az Cn ht.typeIs entry_tuple_getitem ?_ (args_tuple_getitem _ _)))
 show wpAny _ _ (Builtin.Tuple.tupleItemsOf (.ref t) >>= _) _ _ s;refine Aa (tupleItemsOf_ ht ?_);refine Aa (AJ hTs ?_);rw[Af (by decide)]
 refine Aa (jC hs pl pu ?_);have hno:¬ ((((sIx items.size 0 lo:Nat):Int) == 0&&(1:Int) == 1&&(sIx items.size items.size hi-sIx items.size 0 lo) == items.size)=true):=by
  intro q;rw[Wg,Wg]at q;have q1:((sIx items.size 0 lo:Nat):Int)=0:=B1 q.1.1;have q2:sIx items.size items.size hi-sIx items.size 0 lo=items.size:=B1 q.2;exact hw ⟨by lia,by lia⟩
 show wpAny _ _ (if (((sIx items.size 0 lo:Nat):Int) == 0&&(1:Int) == 1&&(sIx items.size items.size hi-sIx items.size 0 lo) == items.size)=true then _ else _) _ _ s;rw[Ah hno,vd]
 first
  | exact Aa (m:=Builtin.Tuple.tupleExact _) (AA (Ac ⟨_,rfl,Ac h⟩) htake)
  | exact Aa (m:=Builtin.Tuple.tupleExact _) (AA (Aa (Ac (Ac ⟨_,rfl,Ac h⟩))) htake)
  | exact Aa (Aa (m:=Builtin.Tuple.tupleExact _) (AA (Ac (Ac ⟨_,rfl,Ac h⟩)) htake))
  | exact Aa (Aa (m:=Builtin.Tuple.tupleExact _) (AA (Ac ⟨_,rfl,Ac h⟩) htake))
end
end HT
namespace L2
open PySem PySem.Spec PyProof.Rows
abbrev TO:=St->Hp->(Option Int->Hp->Prop)->Prop
def PO (X:Cx) (e:Option Expr) (t:TO):Prop :=
 ∀(pins:List (Addr×Obj)) (s:Shared) (σ:St) (H:Hp) (Q:Option Int->Hp->Prop),Inv X pins σ H s->t σ H Q ->
  wpAny (model X.prog X.w) X.A (evalPart e X.env) (fun u s'=>∃o H',Inv X pins σ H' s'/\IsPart u o/\Q o H') X.xe s
def zv (t:TE):TO:=fun σ H Q=>t σ H fun x H1=>∃i,x=.int i/\Q (some i) H1
section
variable {X:Cx} {e:Expr} {te:TE} {lo hi:Option Expr} {tl th:TO} {pos p2:Pos}
theorem sk (h:PE X e te):PO X (some e) (zv te):=by
 intro pins s σ H Q I hw;rw[evalPart_some];refine thn (h pins s σ H _ I hw) fun u s1 zz9=>?_;obtain⟨x,H1,I1,r1,q1⟩:=zz9;obtain⟨i,rfl,q⟩:=q1;obtain⟨t,rfl⟩:=r1;exact⟨some i,H1,I1,.int i t,q⟩
def SlR (X:Cx) (r:V->Option Int->Option Int->Hp->VK->Prop):Prop :=
 ∀(pins:List (Addr×Obj)) (s:Shared) (σ:St) (H:Hp) (x:V) (v vl vu:Value) (lo hi:Option Int) (sl:Addr) (Q:VK),Inv X pins σ H s->RelV x v->s.heap.IsSliceOf sl vl vu .none->IsPart vl lo->IsPart vu hi->r x lo hi H Q ->
  ∃T id,typeLookup (.type T) "__getitem__"=pure (some (.builtin id))/\s.TypeIs v T/\wpAny (model X.prog X.w) X.A (getItem v (.ref sl)) (EP X pins σ Q) X.xe s
theorem SlR.or (h:SlR X r) (h':SlR X r'):SlR X (fun x lo hi H Q=>r x lo hi H Q∨r' x lo hi H Q):=by
 intro pins s σ H x v vl vu lo hi sl Q I rx hs pl pu q;rcases q with q|q
 ·exact h pins s σ H x v vl vu lo hi sl Q I rx hs pl pu q
 ·exact h' pins s σ H x v vl vu lo hi sl Q I rx hs pl pu q
def tSl (r:V->Option Int->Option Int->Hp->VK->Prop) (te:TE) (tl th:TO):TE:=fun σ H Q=>te σ H fun x H1=>tl σ H1 fun l H2=>th σ H2 fun u H3=>r x l u H3 Q
theorem ve (hr:SlR X r) (he:PE X e te) (hl:PO X lo tl) (hu:PO X hi th):PE X (.Subscript e (.Slice lo hi none p2) pos) (tSl r te tl th):=by
 intro pins s σ H Q I h;refine Subscript_ (thn (he pins s σ H _ I h) fun v s1 zz9=>?_);obtain⟨x,H1,I1,r1,q1⟩:=zz9;refine wpAny_Slice (thn (hl pins s1 σ H1 _ I1 q1) fun vl s2 ⟨l,H2,I2,pl,q2⟩=>thn (hu pins s2 σ H2 _ I2 q2) fun vu s3 zz9=>?_);obtain⟨u,H3,I3,pu,q3⟩:=zz9;rw[evalPart_none];refine Ac ?_;have I4:Inv X pins σ H3 { s3 with heap:=s3.heap.push { cls:=.type "slice",data:=.fields #[vl,vu,.none] } }:=I3.kept (t':=s3.toks) fun b ob q=>Ad _ q;obtain⟨T,id,hT,ht,hg⟩:=hr pins { s3 with heap:=s3.heap.push { cls:=.type "slice",data:=.fields #[vl,vu,.none] } } σ H3 x v vl vu l u s3.heap.objs.size Q I4 r1 (Heap.IsSliceOf.new ..) pl pu q3;show wpAny (model X.prog X.w) X.A (subscriptTail e (.Slice lo hi none p2) v (.ref s3.heap.objs.size)) (EP X pins σ Q) X.xe { s3 with heap:=s3.heap.push { cls:=.type "slice",data:=.fields #[vl,vu,.none] } };exact tail_any (ops:=[.ref s3.heap.objs.size,v]) ht hT hg (by with_unfolding_all rfl)
def pk (xs:List V) (lo hi:Option Int):List V:=(xs.drop (HT.sIx xs.length 0 lo)).take (HT.sIx xs.length xs.length hi-HT.sIx xs.length 0 lo)
theorem jX (xs:List V) (lo hi:Option Int):(pk xs lo hi).length<=xs.length:=by
 unfold pk;rw[Xl,AN];lia
def DI (K:Ab):V->Option Int->Option Int->Hp->VK->Prop:=fun x lo hi H Q=>∃a xs,x=.ref a/\SqT K H a xs /\
 ¬ (HT.sIx xs.length 0 lo=0/\HT.sIx xs.length xs.length hi=xs.length)/\∀p,H p=none->Q (.ref p) (upd H p (.tup (pk xs lo hi)))
theorem DJ:SlR X (DI X.K):=by
 intro pins s σ H x v vl vu lo hi sl Q I rx hs pl pu h;obtain⟨a,xs,rfl,hx,hw,q⟩:=h;cases rx;obtain⟨its,r,ht,hz⟩:=I.tuple hx;have hlen:its.toArray.size=xs.length:=by rw[Wb];exact r.length.symm
 refine⟨"tuple",_,Cn.lookup,ht.typeIs,?_⟩;refine HT.getItem_tuple_cut ht hs pl pu (by rw[hlen];exact hw) ?_ (by rw[hlen];exact hz)
 rw[hlen];refine⟨.ref s.heap.objs.size,_,I.laid (t':=s.toks) (o:=.tup (pk xs lo hi)) (fun b ob q=>Ad _ q) (Va _) ?_,rfl,q _ (I.hok.fresh (Va _))⟩;exact⟨Qd (jX xs lo hi) hz,_,(r.drop (HT.sIx xs.length 0 lo)).take (HT.sIx xs.length xs.length hi-HT.sIx xs.length 0 lo),IsTup.new _ _⟩
def vf (K:Ab):R2:=fun x y H Q=>∃a b xs ys,x=.ref a/\y=.ref b/\SqT K H a xs/\SqT K H b ys/\xs≠[]/\xs.length+ys.length<=sizeLine /\
 (ys=[]->Q (.ref a) H)/\(ys≠[]->∀p,H p=none->Q (.ref p) (upd H p (.tup (xs++ys))))
theorem Vals.nil_iff (r:Vals xs us):us=[]↔xs=[]:=by
 cases r with
 | nil=>simp
 | cons _ _=>simp
theorem x6:OpR X (binaryOp .Add) (vf X.K):=by
 intro pins s σ H x y v u Q I rx ry h;obtain⟨a,b,xs,ys,rfl,rfl,ha,hb,hx,hz,q1,q2⟩:=h;cases rx;cases ry;obtain⟨its,r1,p1,_⟩:=I.tuple ha;obtain⟨its2,r2,p2,_⟩:=I.tuple hb;refine HT.cat_tup p1 p2 (fun z=>hx (r1.nil_iff.mp z)) (fun z=>⟨.ref a,H,I,rfl,q1 (r2.nil_iff.mp z)⟩) (fun z=>?_) (by rw[← r1.length,← r2.length];exact hz)
 refine⟨.ref s.heap.objs.size,_,I.laid (t':=s.toks) (o:=.tup (xs++ys)) (fun b ob q=>Ad _ q) (Va _) ?_,rfl,q2 (fun w=>z (r2.nil_iff.mpr w)) _ (I.hok.fresh (Va _))⟩;exact⟨by rw[Yb];exact hz,_,r1.append r2,IsTup.new _ _⟩
end
end L2
namespace L2
open PySem PySem.Spec PyProof.Rows
def ixN (n:Nat) (i:Int):Option Nat:=if 0<=i then(if i<n then some i.toNat else none) else if -(n:Int)<=i then some (i+n).toNat else none
def atI {α:Type} (xs:List α) (i:Int):Option α:=(ixN xs.length i).bind fun j=>xs[j]?
theorem sn (h:ixN n i=some j):seqIndex? i n=some j/\j<n/\-(n:Int)<=i/\i<n:=by
 unfold ixN at h;by_cases h0:0<=i
 ·rw[Af h0]at h;by_cases h1:i<n
  ·rw[Af h1]at h;have e:i.toNat=j:=Option.some.inj h;exact⟨by rw[seqIndex_of h0 h1,e],by lia,by lia,h1⟩
  ·rw[Ah h1]at h;cases h
 ·rw[Ah h0]at h;by_cases h1:-(n:Int)<=i
  ·rw[Af h1]at h;have e:(i+n).toNat=j:=Option.some.inj h;exact⟨by rw[seqIndex_neg (by lia) h1,e],by lia,h1,by lia⟩
  ·rw[Ah h1]at h;cases h
theorem nP {xs:List α} (h:atI xs i=some v):∃j,seqIndex? i xs.length=some j/\xs[j]?=some v/\j<xs.length/\-(xs.length:Int)<=i/\i<xs.length:=by
 unfold atI at h;cases e:ixN xs.length i with
 | none=>rw[e]at h;cases h
 | some j =>
  rw[e]at h;obtain⟨h1,h2,h3,h4⟩:=sn e;exact⟨j,h1,h,h2,h3,h4⟩
theorem nQ {α:Type} {xs:List α} {j:Nat} {v:α} (h:xs[j]?=some v):atI xs (j:Int)=some v:=by
 have hj:j<xs.length:=(Xa.mp h).1;have e:ixN xs.length (j:Int)=some j:=by
  unfold ixN;rw[Af (by lia),Af (by lia)];simp
 unfold atI;rw[e];exact h
def sr (b:Expr):Prop:=∀o i,subscripted b false o i=operate [o,i] (getItem o i)
def IxR (X:Cx) (r:R2):Prop :=
 ∀(value slice:Expr) (pins:List (Addr×Obj)) (s:Shared) (σ:St) (H:Hp) (x y:V) (v u:Value) (Q:VK),Inv X pins σ H s->RelV x v->RelV y u->r x y H Q ->
  subscripted slice false v u=operate [v,u] (getItem v u)->wpAny (model X.prog X.w) X.A (subscriptTail value slice v u) (EP X pins σ Q) X.xe s
def MtR (X:Cx) (id:String) (r:V->List V->Hp->VK->Prop):Prop :=
 ∀(pins:List (Addr×Obj)) (s:Shared) (σ:St) (H:Hp) (x:V) (xs:List V) (v:Value) (us:List Value) (Q:VK),Inv X pins σ H s->RelV x v->Vals xs us->r x xs H Q ->
  wpAny (model X.prog X.w) X.A (call (.builtin id) (v::us)) (EP X pins σ Q) X.xe s
section
variable {X:Cx} {a b:Expr} {ta tb:TE} {pos:Pos}
theorem IxR.or (h:IxR X r) (h':IxR X r'):IxR X (fun x y H Q=>r x y H Q∨r' x y H Q):=by
 intro value slice pins s σ H x y v u Q I rx ry q hs;rcases q with q|q
 ·exact h value slice pins s σ H x y v u Q I rx ry q hs
 ·exact h' value slice pins s σ H x y v u Q I rx ry q hs
theorem bd (hr:IxR X r) (ha:PE X a ta) (hb:PE X b tb) (hs:sr b):PE X (.Subscript a b pos) (tOp r ta tb):=by
 intro pins s σ H Q I h;exact Subscript_ (Dz ha hb I h fun v u s2 x y H2 I2 rx ry q=>hr a b pins s2 σ H2 x y v u Q I2 rx ry q (hs _ _))
def DL (K:Ab):R2:=fun x y H Q=>∃p xs i v,x=.ref p/\y=.int i/\SqL K H p xs/\atI xs i=some v/\Q v H
def DM (K:Ab):R2:=fun x y H Q=>∃p xs i v,x=.ref p/\y=.int i/\SqT K H p xs/\atI xs i=some v/\Q v H
def DN:R2:=fun x y H Q=>∃z i c,x=.str z/\y=.int i/\z.length<=sizeLine/\atI z.cps.toList i=some c/\Q (.str ⟨#[c]⟩) H
theorem ix_list:IxR X (DL X.K):=by
 intro value slice pins s σ H x y v u Q I rx ry h hs;obtain⟨p,xs,i,z,rfl,rfl,hq,he,q⟩:=h;cases rx;obtain⟨t,rfl⟩:=ry;obtain⟨its,r,pl,hz⟩:=I.list hq;obtain⟨j,h1,h2,h3,h4,h5⟩:=nP he;obtain⟨w,ew,rw'⟩:=r.get h2;have hl:=r.length;have hn:=jB;have fin:EP X pins σ Q w s:=⟨z,H,I,rw',q⟩;by_cases h0:0<=i
 ·have hj:i.toNat=j:=by
   rw[seqIndex_of h0 h5]at h1;exact Option.some.inj h1
  exact item_listR pl.isList h0 (by lia) (by rw[hj];simpa using ew) fin hs
 ·have hj:(i+(its.toArray.size:Int)).toNat=j:=by
   rw[seqIndex_neg (by lia) h4]at h1
   rw[Wb,← hl];exact Option.some.inj h1
  exact subscriptTail_builtinR (x:=w) pl.isList.typeIs slot_list_getitem.lookup
   (wpAny_getItem_list_neg (Q:=fun r s'=>r=w/\EP X pins σ Q r s') pl.isList (by lia) (by rw[Wb]<;>lia) (by lia) (by rw[hj];simpa using ew) ⟨rfl,fin⟩) hs
theorem ix_tup:IxR X (DM X.K):=by
 intro value slice pins s σ H x y v u Q I rx ry h hs;obtain⟨p,xs,i,z,rfl,rfl,hq,he,q⟩:=h;cases rx;obtain⟨t,rfl⟩:=ry;obtain⟨its,r,pl,hz⟩:=I.tuple hq;obtain⟨j,h1,h2,h3,h4,h5⟩:=nP he;obtain⟨w,ew,rw'⟩:=r.get h2;have hl:=r.length;have hn:=jB;have fin:EP X pins σ Q w s:=⟨z,H,I,rw',q⟩;exact subscriptTail_builtinR (x:=w) pl.typeIs slot_tuple_getitem.lookup
  (getItem_tuple (j:=j) (Q:=fun r s'=>r=w/\EP X pins σ Q r s') pl (by lia) (by lia) (by rw[Wb,← hl];exact h1) (by simpa using ew) ⟨rfl,fin⟩) hs
theorem DP:IxR X DN:=by
 intro value slice pins s σ H x y v u Q I rx ry h hs;obtain⟨z,i,c,rfl,rfl,hz,he,q⟩:=h;obtain⟨t,rfl⟩:=rx;obtain⟨t',rfl⟩:=ry;obtain⟨j,h1,h2,h3,h4,h5⟩:=nP he;have hl:z.cps.toList.length=z.length:=by simp[Str.length]
 rw[hl]at h1 h4 h5;have hn:=jB
 exact tail_any (CK s z t) slot_str_getitem.lookup (getItem_str (c:=c) (by
  have e1:decide (i < -(2 ^ 63:Int))=false:=Ae (by lia)
  have e2:decide (i ≥ 2 ^ 63)=false:=Ae (by lia)
  rw[e1,e2,Bool.or_false]) (by rw[h1];simpa using h2) ⟨.str ⟨#[c]⟩,H,I.tok _,⟨_,rfl⟩,q⟩) hs
def rIx (K:Ab):R2:=fun x y H Q=>DL K x y H Q∨DM K x y H Q∨DN x y H Q
theorem DQ:IxR X (rIx X.K):=ix_list.or (ix_tup.or DP)
theorem qP (its:List Value) (n j:Nat) (u:Value):Obj.mapSeq (·.setIfInBounds j u) { cls:=.type "list",data:=.seq its.toArray n }={ cls:=.type "list",data:=.seq (its.set j u).toArray n }:=by
 simp[Obj.mapSeq]
theorem Inv.lst {s:Shared} (I:Inv X pins σ H s) (h:H p=some (.lst xs)) :
  ∃(its:List Value) (n:Nat),Vals xs its/\s.heap.get? p=some { cls:=.type "list",data:=.seq its.toArray n }/\xs.length<=sizeLine:=by
 obtain⟨z,its,n,r,e⟩:=I.hok p _ h;exact⟨its,n,r,e,z⟩
theorem Inv.lstUpd {s:Shared} {xs ys:List V} {its its':List Value} (I:Inv X pins σ H s) (h:H p=some (.lst xs))
  (ho:s.heap.get? p=some { cls:=.type "list",data:=.seq its.toArray n }) (hf:f { cls:=.type "list",data:=.seq its.toArray n }={ cls:=.type "list",data:=.seq its'.toArray n' }) (r:Vals ys its') (hz:ys.length<=sizeLine) (t:Nat) :
  Inv X pins σ (upd H p (.lst ys)) { s with heap:=s.heap.update p f,toks:=t }:=by
 have e:(s.heap.update p f).get? p=some { cls:=.type "list",data:=.seq its'.toArray n' }:=by
  rw[BU f ho (by rw[hf]<;>rfl),hf]
 refine I.write (x:=p) (e:=p) (by rw[h];trivial) (.inl rfl) (fun b u hb q=>(BO _ _ (AF hb)).trans q) ⟨_,e⟩ ?_
 exact⟨hz,its',n',r,e⟩
def zw:V->V->V->Hp->(Hp->Prop)->Prop:=fun o i v H Q=>∃p xs k j,o=.ref p/\i=.int k/\H p=some (.lst xs)/\ixN xs.length k=some j/\Q (upd H p (.lst (xs.set j v)))
theorem set_list:Du X zw:=by
 intro pins s σ H o i v ov iv u Q I ro ri rv h;obtain⟨p,xs,k,j,rfl,rfl,hp,hj,q⟩:=h;cases ro;obtain⟨t,rfl⟩:=ri;obtain⟨its,n,r,ho,hz⟩:=I.lst hp;obtain⟨h1,h2,h3,h4⟩:=sn hj;have hl:=r.length;have hn:=jB;have I':Inv X pins σ (upd H p (.lst (xs.set j v))) { s with heap:=s.heap.update p (Obj.mapSeq (·.setIfInBounds j u)) } :=
  I.lstUpd hp ho (qP its n j u) (r.set rv j) (by rw[AT];exact hz) s.toks
 by_cases h0:0<=k
 ·have hk:k.toNat=j:=by
   rw[seqIndex_of h0 h4]at h1;exact Option.some.inj h1
  exact PySem.W.ki_setAt ho h0 (by lia) (by rw[Wb,← hl];exact h4) (by rw[hk];exact⟨_,I',q⟩)
 ·have hk:(k+(its.toArray.size:Int)).toNat=j:=by
   rw[seqIndex_neg (by lia) h3]at h1
   rw[Wb,← hl];exact Option.some.inj h1
  exact PySem.W.ki_setBack ho (by lia) (by rw[Wb,← hl];exact h3) (by lia) (by rw[hk];exact⟨_,I',q⟩)
theorem vg (i:Int) (n:Nat):max 0 (min (if i<0 then i+(n:Int) else i) (n:Int))=(((if i<0 then(i+(n:Int)).toNat else min i.toNat n):Nat):Int):=by
 by_cases h:i<0
 ·rw[Af h,Af h,Int.min_eq_left (by lia),Int.max_comm];exact(Int.ofNat_toNat _).symm
 ·rw[Ah h,Ah h,HT.clip_nat i n h];exact Int.max_eq_right (Int.natCast_nonneg _)
theorem nR (lo hi:Option Int) (n:Nat):(sliceBounds lo hi none n).1=((HT.sIx n 0 lo:Nat):Int)/\(sliceBounds lo hi none n).2.1=((HT.sIx n n hi:Nat):Int)/\(sliceBounds lo hi none n).2.2=1:=by
 refine⟨?_,?_,rfl⟩
 ·cases lo with
  | none=>simp[sliceBounds,HT.sIx]
  | some i=>exact vg i n
 ·cases hi with
  | none=>simp[sliceBounds,HT.sIx]
  | some i=>exact vg i n
theorem mH (its:List Value) (lo hi:Option Int):slicePick its.toArray lo hi none=((its.drop (HT.sIx its.length 0 lo)).take (HT.sIx its.length its.length hi-HT.sIx its.length 0 lo)).toArray:=by
 obtain⟨h1,h2,h3⟩:=nR lo hi its.toArray.size;unfold slicePick;rw[h1,h2,h3];simp only[sliceRange_one,pick_run,Wb]<;>rfl
def DR (K:Ab):V->Option Int->Option Int->Hp->VK->Prop:=fun x lo hi H Q=>∃a xs,x=.ref a/\SqL K H a xs/\∀p,H p=none->Q (.ref p) (upd H p (.lst (pk xs lo hi)))
theorem x8:SlR X (DR X.K):=by
 intro pins s σ H x v vl vu lo hi sl Q I rx hs pl pu h;obtain⟨a,xs,rfl,hx,q⟩:=h;cases rx;obtain⟨its,r,ht,hz⟩:=I.list hx;have hlen:=r.length;refine⟨"list",_,slot_list_getitem.lookup,ht.isList.typeIs,?_⟩;refine wpAny_getItem_list_slice ht.isList hs pl pu .none (by simp) ?_ (by rw[Wb]<;>lia)
 rw[mH,← hlen];refine⟨.ref s.heap.objs.size,_,I.laid (t':=s.toks) (o:=.lst (pk xs lo hi)) (fun b ob q=>Ad _ q) (Va _) ?_,rfl,q _ (I.hok.fresh (Va _))⟩;exact⟨Qd (jX xs lo hi) hz,_,0,(r.drop (HT.sIx xs.length 0 lo)).take (HT.sIx xs.length xs.length hi-HT.sIx xs.length 0 lo),Al _ rfl⟩
def gY:V->Bool
 | .non=>true
 | .bl _=>true
 | .int _=>true
 | .str _=>true
 | _=>false
def eqV:V->V->Bool
 | .non,.non=>true
 | .bl a,.bl b=>a == b
 | .bl a,.int b=>(if a then 1 else 0) == b
 | .int a,.bl b=>a == (if b then 1 else 0)
 | .int a,.int b=>a == b
 | .str a,.str b=>a == b
 | _,_=>false
theorem DS (ry:RelV y u) (rx:RelV x v) (fy:gY y=true) (fx:gY x=true):SeqAt.EqAt A s u v (eqV y x):=by
 cases y with
 | non =>
  cases ry;cases x with
  | non=>cases rx;exact SeqAt.EqAt.same _
  | bl b=>cases rx;exact SeqAt.EqAt.none_bool b
  | int b=>obtain⟨t,rfl⟩:=rx;exact SeqAt.EqAt.none_int b t
  | str b=>obtain⟨t,rfl⟩:=rx;exact SeqAt.EqAt.none_str b t
  | _=>exact absurd (show false=true from fx) Vc
 | bl a =>
  cases ry;cases x with
  | non=>cases rx;exact SeqAt.EqAt.bool_none a
  | bl b=>cases rx;exact SeqAt.EqAt.bool_bool a b
  | int b=>obtain⟨t,rfl⟩:=rx;exact SeqAt.EqAt.bool_int a b t
  | str b=>obtain⟨t,rfl⟩:=rx;exact SeqAt.EqAt.bool_str a b t
  | _=>exact absurd (show false=true from fx) Vc
 | int a =>
  obtain⟨t',rfl⟩:=ry;cases x with
  | non=>cases rx;exact SeqAt.EqAt.int_none a t'
  | bl b=>cases rx;exact SeqAt.EqAt.int_bool a t' b
  | int b=>obtain⟨t,rfl⟩:=rx;exact SeqAt.EqAt.int_int a t' b t
  | str b=>obtain⟨t,rfl⟩:=rx;exact B9 a t' b t
  | _=>exact absurd (show false=true from fx) Vc
 | str a =>
  obtain⟨t',rfl⟩:=ry;cases x with
  | non=>cases rx;exact SeqAt.EqAt.str_none a t'
  | bl b=>cases rx;exact SeqAt.EqAt.str_bool a t' b
  | int b=>obtain⟨t,rfl⟩:=rx;exact B8 a t' b t
  | str b=>obtain⟨t,rfl⟩:=rx;exact SeqAt.EqAt.str_str a t' b t
  | _=>exact absurd (show false=true from fx) Vc
 | _=>exact absurd (show false=true from fy) Vc
def eqU (x:V) (u:Value):Bool:=match u with
 | .none=>eqV .non x
 | .bool b=>eqV (.bl b) x
 | .int i _=>eqV (.int i) x
 | .str z _=>eqV (.str z) x
 | _=>false
theorem vh (r:RelV y u) (f:gY y=true):eqU x u=eqV y x:=by
 cases y with
 | non=>cases r;rfl
 | bl b=>cases r;rfl
 | int i=>obtain⟨t,rfl⟩:=r;rfl
 | str z=>obtain⟨t,rfl⟩:=r;rfl
 | _=>exact absurd (show false=true from f) Vc
theorem nS:∀{xs:List V} {us:List Value},Vals xs us->xs.all gY=true->us.any (eqU x)=xs.any fun y=>eqV y x
 | _,_,.nil,_=>rfl
 | y::xs,u::us,.cons r t,f=>by
  rw[CZ,Wg]at f;rw[AR,AR,vh r f.1,nS t f.2]
theorem ld (rx:RelV x v) (fx:gY x=true):∀{xs:List V} {us:List Value},Vals xs us->xs.all gY=true->∀u∈us,SeqAt.EqAt A s u v (eqU x u)
 | _,_,.nil,_=>fun u hu=>by cases hu
 | y::xs,u::us,.cons r t,f=>fun u' hu=>by
  rw[CZ,Wg]at f;rcases Yd.mp hu with rfl|hu
  ·rw[vh r f.1];exact DS r rx f.1 fx
  ·exact ld rx fx t f.2 u' hu
def inV (x:V) (xs:List V):Bool:=xs.any fun y=>eqV y x
def rIn (K:Ab) (neg:Bool):R2:=fun x y H Q=>∃p xs,y=.ref p/\(SqL K H p xs∨SqT K H p xs)/\gY x=true/\xs.all gY=true/\Q (.bl (if neg then !inV x xs else inV x xs)) H
theorem tX:OpR X (compareOp .In) (rIn X.K false):=by
 intro pins s σ H x y v u Q I rx ry h;obtain⟨p,xs,rfl,hq,fx,fs,q⟩:=h;cases ry;rcases hq with hq|hq
 ·obtain⟨its,r,pl,hz⟩:=I.list hq;refine SeqAt.in_listAt (eqU x) pl.isList (fun w hw=>ld rx fx r fs w (by simpa using hw)) ⟨.bl _,H,I,rfl,?_⟩
  rw[show its.toArray.any (eqU x)=its.any (eqU x) by simp,nS r fs]
  exact q
 ·obtain⟨its,r,pl,hz⟩:=I.tuple hq;refine SeqAt.in_tupleAt (eqU x) pl (fun w hw=>ld rx fx r fs w (by simpa using hw)) ⟨.bl _,H,I,rfl,?_⟩
  rw[show its.toArray.any (eqU x)=its.any (eqU x) by simp,nS r fs]
  exact q
theorem nT:CallR X (.builtin "len") (fun xs H Q=>∃p ys,xs=[.ref p]/\(SqL X.K H p ys∨SqT X.K H p ys)/\Q (.int ys.length) H):=by
 intro pins s σ H xs us Q I r h;obtain⟨p,ys,rfl,hq,q⟩:=h;obtain⟨u,rfl,rx⟩:=vals1 r;cases rx;have hn:=jB;rcases hq with hq|hq
 ·obtain⟨its,r',pl,hz⟩:=I.list hq;have hlen:=r'.length;exact Calls.call_len_list pl.isList (by simp only[Wb]<;>lia) ⟨.int ys.length,H,I.tok _,⟨s.toks+1,by rw[Wb,hlen]⟩,q⟩
 ·obtain⟨its,r',pl,hz⟩:=I.tuple hq;have hlen:=r'.length;exact len_tuple pl (by simp only[Wb]<;>lia) ⟨.int ys.length,H,I.tok _,⟨s.toks+1,by rw[Wb,hlen]⟩,q⟩
theorem nU:CallR X (.builtin "len") (fun xs H Q=>∃z,xs=[.str z]/\z.length<=sizeLine/\Q (.int z.length) H):=by
 intro pins s σ H xs us Q I r h;obtain⟨z,rfl,hz,q⟩:=h;obtain⟨u,rfl,t,rfl⟩:=vals1 r;have hn:=jB;exact len_str (by lia) ⟨.int z.length,H,I.tok _,⟨_,rfl⟩,q⟩
theorem CallR.or (h:CallR X f r) (h':CallR X f r'):CallR X f (fun xs H Q=>r xs H Q∨r' xs H Q):=by
 intro pins s σ H xs us Q I rs q;rcases q with q|q
 ·exact h pins s σ H xs us Q I rs q
 ·exact h' pins s σ H xs us Q I rs q
theorem nV:CallR X (.type "list") (fun xs H Q=>∃p ys,xs=[.ref p]/\(SqL X.K H p ys∨SqT X.K H p ys)/\∀l,H l=none->Q (.ref l) (upd H l (.lst ys))):=by
 intro pins s σ H xs us Q I r h;obtain⟨p,ys,rfl,hq,q⟩:=h;obtain⟨u,rfl,rx⟩:=vals1 r;cases rx;have fin:∀(its:List Value),Vals ys its->ys.length<=sizeLine->∀(h':Heap) (c':Nat),(∀b o',s.heap.get? b=some o'->h'.get? b=some o') ->
   h'.get? s.heap.objs.size=some { cls:=.type "list",dict:=none,data:=.seq its.toArray c',slots:=#[] }->EP X pins σ Q (.ref s.heap.objs.size) { s with heap:=h' }:=fun its r' hz h' c' kp e =>
  ⟨.ref s.heap.objs.size,_,I.laid (t':=s.toks) kp (Va _) (show ObjOk X.prog X.w _ h' _ (.lst ys) from⟨hz,its,c',r',e⟩),rfl,q _ (I.hok.fresh (Va _))⟩
 rcases hq with hq|hq
 ·obtain⟨its,r',pl,hz⟩:=I.list hq;have hlen:=r'.length;obtain⟨o,ho,hc,n,hd⟩:=pl.isList;exact call_list_seq p (.inl rfl) ho hc hd (fun h' c' kp e=>fin its r' hz h' c' kp e) (by simp only[Wb]<;>lia)
 ·obtain⟨its,r',pl,hz⟩:=I.tuple hq;have hlen:=r'.length;obtain⟨o,ho,hc,n,hd⟩:=pl;exact call_list_seq p (.inr rfl) ho hc hd (fun h' c' kp e=>fin its r' hz h' c' kp e) (by simp only[Wb]<;>lia)
def tyV (K:Ab) (T:String) (x:V) (H:Hp):Prop:=match x with
 | .str _=>T="str"
 | .int _=>T="int"
 | .ref p=>(T="list"/\∃xs,SqL K H p xs)∨(T="tuple"/\∃o,K.lookup p=some o/\o.cls=.type "tuple"/\o.dict=none) ∨
   (T="dict"/\((∃kvs,H p=some (.dK kvs))∨∃ep kvs,H p=some (.dT ep kvs)))∨(T="set"/\∃S n,H p=some (.set S n))
 | _=>False
theorem vi {s:Shared} (I:Inv X pins σ H s) (r:RelV x v) (ty:tyV X.K T x H) :
  s.TypeIs v T/\∀a,v=.ref a->∃ob,s.heap.get? a=some ob/\ob.dict=none:=by
 cases x with
 | str z =>
  obtain⟨t,rfl⟩:=r;cases (show T="str" from ty);exact⟨CK s z t,fun _ e=>nomatch e⟩
 | int i =>
  obtain⟨t,rfl⟩:=r;cases (show T="int" from ty);exact⟨typeIs_int s i t,fun _ e=>nomatch e⟩
 | ref p =>
  cases r;rcases ty with⟨rfl,xs,hq⟩|⟨rfl,o,hk,hc,hd⟩|⟨rfl,hk⟩|⟨rfl,S,n,hk⟩
  ·obtain⟨its,_,pl,_⟩:=I.list hq;refine⟨pl.isList.typeIs,fun a e=>?_⟩;cases e;obtain⟨o,n,e,c,hd,_⟩:=pl;exact⟨o,e,hd⟩
  ·refine⟨⟨o,I.kIn p o hk,hc⟩,fun a e=>?_⟩;cases e;exact⟨o,I.kIn _ o hk,hd⟩
  ·have z:∃o,s.heap.get? p=some o/\o.ExactDict:=by
    rcases hk with⟨kvs,hk⟩|⟨ep,kvs,hk⟩
    ·obtain⟨_,_,_,_,o,_,_,e,ex,_⟩:=I.hok p _ hk;exact⟨o,e,ex⟩
    ·obtain⟨_,_,_,_,_,o,_,e,ex,_⟩:=I.hok p _ hk;exact⟨o,e,ex⟩
   obtain⟨o,e,ex⟩:=z;refine⟨⟨o,e,ex.1⟩,fun a e2=>?_⟩;cases e2;exact⟨o,e,ex.2.1⟩
  ·obtain⟨o,_,_,_,e,ex,_⟩:=I.hok p _ hk;refine⟨⟨o,e,ex.1⟩,fun a e2=>?_⟩;cases e2;exact⟨o,e,ex.2.1⟩
 | _=>exact False.elim ty
def DU (K:Ab) (T:String) (r:V->List V->Hp->VK->Prop) (to:TE):TE:=fun σ H Q=>to σ H fun x H1=>tyV K T x H1/\r x [] H1 Q
def tBM (K:Ab) (T:String) (r:V->List V->Hp->VK->Prop) (to:TE) (t:TA):TE:=fun σ H Q=>to σ H fun x H1=>tyV K T x H1/\t σ H1 fun xs H2=>r x xs H2 Q
variable {o e:Expr} {es:List Expr} {to:TE} {t:TA} {name:Str} {apos cpos:Pos} {T id:String} {r:V->List V->Hp->VK->Prop}
theorem DV (pa:PlainAttrs T) (slot:Slot T name id) (hty:typeOf (.builtin id)=pure (.type "method_descriptor")) (hm:MtR X id r) (ho:PE X o to)
  (hbase:attributeBase o name X.env (eval o X.env)=eval o X.env:=by rfl) (hline:(apos.endLine == cpos.line)=true:=by rfl):PE X (.Call (.Attribute o name apos) [] [] cpos) (DU X.K T r to):=by
 intro pins s σ H Q I h;refine wpAny_Call_method0_late hbase hline (thn (ho pins s σ H _ I h) fun v s1 zz9=>?_);obtain⟨x,H1,I1,r1,ty,q1⟩:=zz9;obtain⟨h1,h2⟩:=vi I1 r1 ty;exact⟨T,id,pa,slot,hty,h1,h2,Calls.callWith_builtin rfl (PySem.evalArgs_none (hm pins s1 σ H1 x [] v [] Q I1 r1 .nil q1))⟩
theorem gZ (pa:PlainAttrs T) (slot:Slot T name id) (hty:typeOf (.builtin id)=pure (.type "method_descriptor")) (hm:MtR X id r) (ho:PE X o to) (ha:PA X (e::es) t)
  (hbase:attributeBase o name X.env (eval o X.env)=eval o X.env:=by rfl)
  (hfew:((backTo cpos (starEach (e::es) X.env)).all (fun x=>!x.1)&&(backToKw cpos (keywordEach [] X.env)).all (fun x=>x.1.isSome)
   && decide ((e::es).length+([]:List Keyword).length+(if ([]:List Keyword).isEmpty then 0 else 1)<30))=true:=by rfl)
  (hline:(apos.endLine == cpos.line)=true:=by rfl) (hs:starEach (e::es) X.env=(false,eval e X.env)::starEach es X.env:=by rfl) (hplain:(backTo cpos (starEach es X.env)).any (·.1)=false:=by rfl) :
  PE X (.Call (.Attribute o name apos) (e::es) [] cpos) (tBM X.K T r to t):=by
 intro pins s σ H Q I h;refine wpAny_Call_method_late hbase hfew hline rfl (thn (ho pins s σ H _ I h) fun v s1 zz9=>?_);obtain⟨x,H1,I1,r1,ty,q1⟩:=zz9;obtain⟨h1,h2⟩:=vi I1 r1 ty;refine⟨T,id,pa,slot,hty,h1,h2,?_⟩;have hA:=ha cpos pins s1 σ H1 _ I1 q1;rw[hs]at hA ⊢;refine Calls.callWith_builtin (by show(false||(backTo cpos (starEach es X.env)).any (·.1))=false;rw[hplain]<;>rfl) (Calls.evalArgs_plain ?_)
 exact thn hA fun us s2 ⟨vs,H2,I2,r2,q2⟩=>hm pins s2 σ H2 x vs v us Q I2 r1 r2 q2
end
end L2
namespace L2
open PySem PySem.Spec PyProof.Rows
def MtM (X:Cx) (id:String) (r:V->List V->Hp->VK->Prop):Prop :=
 ∀(pins:List (Addr×Obj)) (s:Shared) (σ:St) (H:Hp) (x:V) (xs:List V) (v:Value) (us:List Value) (Q:VK),Inv X pins σ H s->RelV x v->Vals xs us->r x xs H Q ->
  wpAny (model X.prog X.w) X.A (call (.builtin id) (v::us)) (EP X pins σ Q) X.xe s
theorem Vals.one:∀{x:V} {us:List Value},Vals [x] us->∃u,us=[u]/\RelV x u
 | _,_,.cons r .nil=>⟨_,rfl,r⟩
theorem Vals.zero:∀{us:List Value},Vals [] us->us=[]
 | _,.nil=>rfl
theorem Vals.eraseIdx:∀{xs:List V} {us:List Value} (i:Nat),Vals xs us->Vals (xs.eraseIdx i) (us.eraseIdx i)
 | _,_,_,.nil=>.nil
 | _,_,0,.cons _ t=>t
 | _,_,i+1,.cons r t=>.cons r (Vals.eraseIdx i t)
theorem m6:∀(l:List α) (i:Nat),(l.eraseIdx i).length<=l.length
 | [],_=>Va _
 | _::_,0=>Nat.le_succ _
 | _::r,i+1=>Nat.succ_le_succ (m6 r i)
section
variable {X:Cx} {pins:List (Addr×Obj)} {σ:St} {H:Hp} {s:Shared} {l b:Addr} {xs ys zs:List V}
theorem Inv.lset {its its':List Value} {t':Nat} (I:Inv X pins σ H s) (hH:H l=some (.lst xs))
  (e:s.heap.get? l=some { cls:=.type "list",data:=.seq its.toArray n }) (hf:f its.toArray=its'.toArray) (hv:Vals ys its') (hz:ys.length<=sizeLine) :
  Inv X pins σ (upd H l (.lst ys)) { s with heap:=s.heap.update l (Obj.mapSeq f),toks:=t' }:=by
 have q:=PySem.IsL.update e f;rw[hf]at q;refine I.write (x:=l) (e:=l) (by rw[hH];exact trivial) (.inl rfl) (fun b' u hb hu=>(BO s.heap (Obj.mapSeq f) (AF hb)).trans hu) ⟨_,q⟩ ?_
 exact⟨hz,its',_,hv,q⟩
theorem Inv.lnew {t':Nat} (I:Inv X pins σ H s) (hv:Vals ys its) (hz:ys.length<=sizeLine) :
  Inv X pins σ (upd H s.heap.objs.size (.lst ys)) { s with heap:=s.heap.push { cls:=.type "list",data:=.seq its.toArray },toks:=t' } :=
 I.laid (fun _ _ q=>Ad _ q) (Va _) ⟨hz,its,0,hv,Al _ rfl⟩
theorem Inv.fresh (I:Inv X pins σ H s):H s.heap.objs.size=none:=I.hok.fresh (Va _)
theorem Inv.lstM (I:Inv X pins σ H s) (hH:H l=some (.lst xs)):xs.length<=sizeLine/\∃(its:List Value) (n:Nat),Vals xs its/\xs.length=its.length/\s.heap.get? l=some { cls:=.type "list",data:=.seq its.toArray n }:=by
 obtain⟨z,its,n,r,e⟩:=I.hok l _ hH;exact⟨z,its,n,r,r.length,e⟩
theorem pq (h:n<=sizeLine):Builtin.List.listTooLong n=false:=by
 unfold Builtin.List.listTooLong;exact Ae (by lia)
end
section
variable {X:Cx}
def nW:V->List V->Hp->VK->Prop:=fun x vs H Q=>∃l xs y,x=.ref l/\vs=[y]/\H l=some (.lst xs)/\xs.length<sizeLine/\Q .non (upd H l (.lst (xs++[y])))
theorem cG:MtM X "list.append" nW:=by
 intro pins s σ H x vs v us Q I rx rv h;obtain⟨l,xs,y,rfl,rfl,hH,hz,q⟩:=h;cases rx;obtain⟨u,rfl,ru⟩:=rv.one;obtain⟨z,its,n,r,hl,e⟩:=I.lstM hH;refine BJ F.slot_list_append ⟨_,e,rfl⟩ F.entry_list_append (F.args_list_append_2 _ _) (PySem.list_append l its.toArray n u (by rw[Wb];lia)) ⟨e,?_⟩
 refine⟨.non,_,I.lset (its':=its++[u]) hH e (by simp) (r.append (.cons ru .nil)) ?_,rfl,q⟩
 rw[Yb,Xf];lia
def ss:V->List V->Hp->VK->Prop:=fun x vs H Q=>∃l b xs zs,x=.ref l/\vs=[.ref b]/\H l=some (.lst xs)/\H b=some (.lst zs)/\xs.length+zs.length<=sizeLine/\Q .non (upd H l (.lst (xs++zs)))
theorem tY:MtM X "list.extend" ss:=by
 intro pins s σ H x vs v us Q I rx rv h;obtain⟨l,b,xs,zs,rfl,rfl,hH,hB,hz,q⟩:=h;cases rx;obtain⟨u,rfl,ru⟩:=rv.one;cases ru;obtain⟨z,its,n,r,hl,e⟩:=I.lstM hH;obtain⟨z2,its2,n2,r2,hl2,e2⟩:=I.lstM hB;have hsz:its.toArray.size+its2.toArray.size<=sizeLine:=by rw[Wb,Wb];lia
 have hlong:¬ (!its.toArray.isEmpty&&Builtin.List.listTooLong (its.toArray.size+its2.toArray.size))=true:=by
  rw[pq hsz,Bool.and_false];exact Vc
 refine BJ F.slot_list_extend ⟨_,e,rfl⟩ F.entry_list_extend (F.args_list_extend_2 _ _)
  (AutoSeq1.list_extend_list_list_0 l its.toArray n b its2.toArray n2 hlong (by rw[Wb];lia) (by lia)) ⟨e,e2,?_⟩
 refine⟨.non,_,I.lset (its':=its++its2) hH e (by simp) (r.append r2) ?_,rfl,q⟩
 rw[Yb];lia
def vj:V->List V->Hp->VK->Prop:=fun x vs H Q=>∃l xs i k y,x=.ref l/\vs=[.int i]/\H l=some (.lst xs)/\-(2 ^ 63)<=i/\i<2 ^ 63/\seqIndex? i xs.length=some k/\xs[k]?=some y/\Q y (upd H l (.lst (xs.eraseIdx k)))
theorem vk:MtM X "list.pop" vj:=by
 intro pins s σ H x vs v us Q I rx rv h;obtain⟨l,xs,i,k,y,rfl,rfl,hH,h1,h2,hk,hy,q⟩:=h;cases rx;obtain⟨u,rfl,ru⟩:=rv.one;obtain⟨t,rfl⟩:=ru;obtain⟨z,its,n,r,hl,e⟩:=I.lstM hH;obtain⟨w,hw,rw'⟩:=r.get hy;refine BJ F.slot_list_pop ⟨_,e,rfl⟩ F.entry_list_pop (F.args_list_pop_2 _ _)
  (MeetsSeq.list_pop_at l its.toArray n i t k w (fitsIndex_both h1 h2) (by rw[Wb,← hl];exact hk) (by rw[← Xh];exact hw) (by rw[Wb];lia)) ⟨e,?_⟩
 refine⟨y,_,I.lset (its':=its.eraseIdx k) hH e ?_ (r.eraseIdx k) ?_,rw',q⟩
 ·show its.toArray.eraseIdxIfInBounds k=(its.eraseIdx k).toArray;rw[List.eraseIdxIfInBounds_toArray]
 ·have:=m6 xs k;lia
def DW:R2:=fun x y H Q=>∃l b xs zs,x=.ref l/\y=.ref b/\H l=some (.lst xs)/\H b=some (.lst zs)/\xs.length+zs.length<=sizeLine/\∀p,H p=none->Q (.ref p) (upd H p (.lst (xs++zs)))
theorem op_cat:OpR X (binaryOp .Add) DW:=by
 intro pins s σ H x y v u Q I rx ry h;obtain⟨l,b,xs,zs,rfl,rfl,hH,hB,hz,q⟩:=h;cases rx;cases ry;obtain⟨z,its,n,r,hl,e⟩:=I.lstM hH;obtain⟨z2,its2,n2,r2,hl2,e2⟩:=I.lstM hB;refine PySem.P.add_list e e2 ?_ (by rw[Wb,Wb];lia)
 have ea:its.toArray++its2.toArray=(its++its2).toArray:=by simp
 rw[ea];exact⟨.ref _,_,I.lnew (t':=s.toks) (r.append r2) (by rw[Yb];lia),rfl,q _ I.fresh⟩
end
end L2
namespace Att
open PySem PySem.W PySem.Calls PyProof.Rows
theorem ku:∀(ns:List Int) (vs:List Value),WellAll P h vs (ns.map WData.int)->IntsAre vs ns:=by
 intro ns;induction ns with
 | nil =>
  intro vs w;rw[BM]at w;cases w;exact .nil
 | cons n ns ih =>
  intro vs w;rw[Wd]at w;cases w with
  | cons a b =>
   cases a;exact .cons _ _ (ih _ b)
theorem tZ {l:OpenLaw} (hn:l.most=some n) {h:Heap}
  (hpre:l.row.toRowW.claim.pre args=true) (hwl:WellAll P h vals args) :
  ∃a vs ns,vals=[Value.ref a]/\args=[WData.list (ns.map WData.int)]/\h.get? a=some { cls:=.type "list",data:=.seq vs.toArray }/\IntsAre vs ns/\ns.length<=n:=by
 have hsh:WShape.hasAll [] args [.list .int]=true:=(pre_splitW hpre).1;have hc:l.pre.holds [] { args:=args }=true:=(pre_splitW hpre).2;obtain⟨d,r,rfl,h1,h2⟩:=hasAllW_cons hsh;obtain rfl:=hasAllW_nil h2;obtain⟨xs,rfl,h3⟩:=hasW_list h1;obtain⟨ns,rfl⟩:=items_int h3;have hlen:ns.length<=n:=by
  unfold OpenLaw.pre at hc;have h4:(WTm.not (.lt (.lit (.int (n:Int))) (.len (.arg 0)))).holds [] { args:=[.list (ns.map .int)] }=true:=by
   have h4:=(holds_andW hc).1;rw[hn]at h4;exact h4
  have h5:=condW_of h4 (w_not (w_lt w_lit (w_len_list (w_arg rfl))));rw[Ya]at h5;refine BD fun q=>?_;have q':(n:Int)<((ns.length:Nat):Int):=by lia
  first
   | (rw[Ag q']at h5;exact absurd h5 (by decide))
   | (simp at h5;lia)
 cases hwl with
 | cons w1 w2 =>
  cases w2;cases w1 with
  | list ho hall=>exact⟨_,_,ns,rfl,rfl,ho,ku ns _ hall,hlen⟩
theorem t7 (l:OpenLaw) (args:List WData):l.row.toRowW.claim.post args (.bool true) args=true :=
 postW_of (r:=l.row.toRowW) (X:=(true == true))
  (show WShape.has [] (.bool true) .bool=true by first|rfl|decide|simp[WShape.has,WShape.arms,WShape.armsAll])
  (show(WTm.eq .res (.lit (.bool true))).value [] { args:=args,res:=some (.bool true),after:=args }=some (.bool (true == true)) from w_eq_bool (w_res rfl) w_lit) rfl
theorem attach_call {l:OpenLaw} {d:DefRec}
  (hn:l.most=some n) (hdf:d.params.defaults=[])
  (call:∀(w:World) (s₀ s₁:Shared) (mg mb:Str->Option Value) (fa:Addr) (o:Obj) (pm cd doc:Value) (a:Addr) (vs:List Value) (ns:List Int),
   Ground q loose [] XP w s₀ mg mb s₁.heap->YP w s₁.heap ->
   s₁.heap.get? fa=some o->o.data=.func (docDef d.name d.params d.body d.scope pm cd doc)->s₁.heap.CodeRec cd d.name->mg d.name=some (.ref fa) ->
   s₁.heap.get? a=some { cls:=.type "list",data:=.seq vs.toArray }->IntsAre vs ns->ns.length<=n->s₁.gens=#[] ->
   codeAny (model l.prog w) callerA (.call (.ref fa) ⟨[.ref a],[]⟩) (fun r s'=>r=.ok (.ret (.bool true))/\OldK s₁.heap s'.heap/\s'.os=s₁.os/\AllBare s'.gens) s₁) :
  WalkO q loose XP YP l.row.toRowW d [] (fun f vs=>PySem.call f vs):=by
 intro w s₀ s₁ mg mb G Y fa o pm cd doc dV kV ho hd hcd hD hmg hg args vals as hpre hlay hrd hwl hlo;obtain rfl:dV=.none:=Dflts.none hD hdf;obtain rfl:kV=.none:=Dflts.noKw hD;obtain⟨a,vs,ns,rfl,rfl,hobj,hints,hlen⟩:=tZ hn hpre hwl;refine enter_call (codeAny_mono (call w s₀ s₁ mg mb fa o pm cd doc a vs ns G Y ho (fd_plain hd) hcd hmg hobj hints hlen hg) fun r s' hq=>?_);obtain⟨rfl,h2,h3,h4⟩:=hq;exact⟨.inl ⟨.bool true,.bool true,[],rfl,fun _=>rfl,.bool true,t7 l _,fun _=>⟨List.Pairwise.nil,fun _ hm=>(nomatch hm)⟩⟩,h2,h3,h4⟩
end Att
namespace L2
open PySem PySem.Spec PyProof.Rows
theorem m7:∀{vs:List Value} {ns:List Int},IntsAre vs ns->Vals (ns.map V.int) vs
 | _,_,.nil=>.nil
 | _,_,.cons n t h=>.cons ⟨t,rfl⟩ (m7 h)
def DX (H:Hp):Prop:=∀b,H b=none∨∃o xs,H b=some (.frz o (.lst xs))
theorem vm {K:Ab} {s₁:Shared} {vs:List Value} {ns:List Int}
  (KX:K.In s₁.heap) (hns:s₁.heap.Ns mainGlobals mg) (hb:s₁.heap.Ns builtinsNs mb) (hbb:∀x:Str,x≠"__name__"->mb x=bootBuiltins x) (hlim:s₁.heap.NoLimit) (hg:s₁.gens=#[])
  (ha:s₁.heap.get? a=some { cls:=.type "list",data:=.seq vs.toArray }) (hi:IntsAre vs ns) (hl:ns.length<=sizeLine) (hr:Room k callerA)
  (F:∀base:Heap,K.In base->base.Ns mainGlobals mg->FnOk P w K mg base CX k fa fd [x] sp) (hbind:∀(s:Shared) (u:Value),BindsTo s fd ⟨[u],[]⟩ [(x,u)])
  (hsp:∀H:Hp,DX H->SqL K H a (ns.map V.int)->sp [.ref a] H (fun v _=>v=.bl true) fun _ _ _=>False)
  (hCX:∀H e s',CX [] H s₁ (fun _ _ _=>False) e s'->False) :
  codeAny (model P w) callerA (.call (.ref fa) ⟨[.ref a],[]⟩) (fun r s'=>r=.ok (.ret (.bool true))/\OldK s₁.heap s'.heap/\s'.os=s₁.os/\AllBare s'.gens) s₁:=by
 have rv:=m7 hi;have Ec:=hi.length;have core:∀H:Hp,DX H->SqL K H a (ns.map V.int)->HOk P w H s₁.heap->(∀b,H b≠none->b=a)->(H a≠none->K.lookup a=none) ->
   codeAny (model P w) callerA (.call (.ref fa) ⟨[.ref a],[]⟩) (fun r s'=>r=.ok (.ret (.bool true))/\OldK s₁.heap s'.heap/\s'.os=s₁.os/\AllBare s'.gens) s₁:=by
  intro H hO hS hok hA hK;have base_of:∀{b:Addr} {o:Obj},s₁.heap.get? b=some o->H b=none->(nM s₁.heap H).get? b=some o:=fun e n=>uV e n;have noA:∀{b:Addr} {o:Obj} {es:Array DictEntry} {ep:Nat},s₁.heap.get? b=some o->o.data=.dict es ep->H b=none:=fun {b o es ep} e d=>by
   cases q:H b with
   | none=>rfl
   | some u =>
    have e':b=a:=hA b (by rw[q];simp)
    subst e';rw[ha]at e;cases e;have d':Data.seq vs.toArray _=Data.dict es ep:=d;cases d'
  have nsK:∀{b:Addr} {m:Str->Option Value},s₁.heap.Ns b m->(nM s₁.heap H).Ns b m:=fun {b m} ⟨o,es,ep,e,d,r⟩=>⟨o,es,ep,base_of e (noA e d),d,r⟩
  have hKb:K.In (nM s₁.heap H):=fun b o e=>base_of (KX b o e) (by
   cases q:H b with
   | none=>rfl
   | some u =>
    have e':b=a:=hA b (by rw[q];simp)
    subst e'
    rw[hK (by rw[q];simp)]at e;cases e)
  have hM:Mod K mg (nM s₁.heap H):=⟨hKb,nsK hns,⟨mb,nsK hb,hbb⟩,let ⟨mc,h1,h2⟩:=hlim;⟨mc,nsK h1,h2⟩⟩;have e0:Env0 P w K mg (nM s₁.heap H) callerA [] s₁ H:=⟨rfl,hM,fun b o e=>xO e,C8 (tK _ _),trivial,fun b hb=>absurd (show b∈([]:List Addr) from hb) (by simp),hok,.of_eq hg⟩
  refine codeAny_mono ((F _ hKb (nsK hns)).run callerA [] s₁ H ⟨[.ref a],[]⟩ [.ref a] [.ref a] _ _ hr e0 (hbind s₁ (.ref a)) (.cons rfl .nil) (hsp H hO hS)) fun r s' h=>?_;cases r with
  | error e=>exact(hCX H e s' h).elim
  | ok fl =>
   cases fl with
   | next=>exact False.elim h
   | brk=>exact False.elim h
   | cont=>exact False.elim h
   | ret u =>
    obtain⟨v,H',os,bare,un,hok',r',q⟩:=h;have q':v=.bl true:=q;subst q';obtain rfl:u=Value.bool true:=r';refine⟨rfl,OldK.of_keep fun b o e=>?_,os,bare⟩;cases q:H b with
    | none=>exact un.keep b o e q (by intro z;exact absurd (show b∈([]:List Addr) from z) (by simp)) (by simp)
    | some u =>
     rcases hO b with z|⟨ob,xs,z⟩
     ·rw[q]at z;cases z
     ·have z2:=un.frzs b ob _ z;obtain⟨e1,_⟩:=hok b _ z;obtain⟨e2,_⟩:=hok' b _ z2;rw[e]at e1;cases e1;exact e2
 cases hk:K.lookup a with
 | some o =>
  have e:=KX a o hk;rw[ha]at e;cases e;refine core (fun _=>none) (fun _=>.inl rfl) (.inr ⟨_,vs.toArray,_,hk,rfl,rfl,rfl,by rw[Wb,Ec];exact hl,by simpa using rv⟩) (fun b u z=>by have z':(none:Option HO)=some u:=z;cases z') (fun b z=>absurd rfl z) fun z=>absurd rfl z
 | none =>
  refine core (fun b=>if b=a then some (.frz { cls:=.type "list",data:=.seq vs.toArray } (.lst (ns.map V.int))) else none) (fun b=>?_) (.inl (.inr ⟨{ cls:=.type "list",data:=.seq vs.toArray },Af rfl⟩)) (fun b u z=>?_) (fun b z=>?_) fun _=>hk
  ·by_cases hb:b=a
   ·exact .inr ⟨_,_,Af hb⟩
   ·exact .inl (Ah hb)
  ·by_cases hb:b=a
   ·have z':=(Af hb).symm.trans z;cases z';subst hb;exact⟨ha,by rw[Ya];exact hl,vs,_,rv,ha⟩
   ·have z':=(Ah hb).symm.trans z;cases z'
  ·by_cases hb:b=a
   ·exact hb
   ·exact absurd (Ah hb) z
theorem walk_of {l:PySem.W.OpenLaw} {n k:Nat} {loose:List Str} {XP:(Str->Option Value)->Heap->Prop} {YP:World->Heap->Prop} {d:DefRec} {K:Params->Ab} {CX:World->CXT} {sp:World->Sp} {x:Str}
  (hn:l.most=some n) (hn2:n<=sizeLine) (hdf:d.params.defaults=[]) (hr:Room k callerA)
  (hY:∀(w:World) (h:Heap),YP w h->(K w.params).In h)
  (F:∀(w:World) (mg:Str->Option Value) (fa:Addr) (h:Heap),(K w.params).In h->h.Ns mainGlobals mg->mg d.name=some (.ref fa) ->
   ∃fd:FuncData,(∀(s:Shared) (u:Value),BindsTo s fd ⟨[u],[]⟩ [(x,u)]) /\
    ∀base:Heap,(K w.params).In base->base.Ns mainGlobals mg->FnOk l.prog w (K w.params) mg base (CX w) k fa fd [x] (sp w))
  (hsp:∀(w:World) (H:Hp) (a:Addr) (ns:List Int),ns.length<=n->DX H->SqL (K w.params) H a (ns.map V.int)->sp w [.ref a] H (fun v _=>v=.bl true) fun _ _ _=>False)
  (hCX:∀(w:World) (H:Hp) (s:Shared) (e:Value) (s':Shared),CX w [] H s (fun _ _ _=>False) e s'->False) :
  PySem.W.WalkO q loose XP YP l.row.toRowW d [] (fun f vs=>PySem.call f vs):=by
 refine Att.attach_call hn hdf fun w s₀ s₁ mg mb fa o pm cd doc a vs ns G Y ho hd hcd hmg hobj hints hlen hg=>?_;have KX:=hY w _ Y;obtain⟨fd,hb,hF⟩:=F w mg fa _ KX G.T.g hmg;exact vm KX G.T.g G.T.b G.T.builtins G.T.nolimit hg hobj hints (Qd hlen hn2) hr hF hb (fun H hO hS=>hsp w H a ns hlen hO hS) fun H e s'=>hCX w H s₁ e s'
end L2
namespace L2
open PySem PySem.Spec PyProof.Rows
def gI (s:Stmt):Arguments:=match s with
 | .FunctionDef _ a _ _ _ _ _ _ _ _=>a
 | _=>{ posonlyargs:=[],args:=[],vararg:=none,kwonlyargs:=[],kw_defaults:=[],kwarg:=none,defaults:=[] }
def d7 (s:Stmt):List Stmt:=match s with
 | .FunctionDef _ _ b _ _ _ _ _ _ _=>b
 | _=>[]
def aA (s:Stmt):Scope:=match s with
 | .FunctionDef _ _ _ _ _ _ sc _ _ _=>sc
 | _=>{ kind:=.function,names:=[],isGenerator:=false,isCoroutine:=false }
abbrev CX0:CXT:=fun _ _ _ _ _ _=>False
abbrev E0:XK:=fun _ _ _=>False
theorem Gc:qL CX0 X E0:=fun _ _ _ _ _ _ _ h=>h.elim
structure Fun (K:Ab) (x qual:Str) (st:Stmt) (f:Addr) (fd:FuncData):Prop where
 ex:∃(oc:Value) (od:Option Addr) (kV doc pm:Value) (an:Option Addr) (cdv ct:Value) (osl:Array (Option Value)),
  fd=PySem.W.fnOf x qual (gI st) (d7 st) (aA st) .none kV doc pm an cdv ct/\K.lookup f=some ⟨oc,od,.func fd,osl⟩/\PySem.W.codeIn K cdv qual=true
 kp:PySem.W.keepIn K (.ref f)=true
section
variable {P:Program} {w:World} {K:Ab} {mg:Str->Option Value} {base:Heap}
theorem Fun.ok {x qual:Str} {st:Stmt} {f:Addr} {fd:FuncData} {N ps:List Str} {k:Nat} {sp:Sp} (F:Fun K x qual st f fd) (S:FnScope N ps (aA st)) (len:∀vs H Q E,sp vs H Q E->vs.length=ps.length)
  (hbody:∀(cdv:Value) (A:Around) (outer:List Env) (s:Shared) (H:Hp) (vs:List V) (Q:VK) (E:XK),Room k (A.deeper (envOfC qual (aA st) s.heap.objs.size f cdv))->sp vs H Q E ->
   ∃t,PSs (qM CX0 P w K mg base N qual (aA st) f cdv A outer s H E).nox (d7 st) t/\t { nx:=fun _ H'=>Q .non H',rt:=Q } (start N vs) H):FnOk P w K mg base CX0 (k+1) f fd ps sp:=by
 obtain⟨oc,od,kV,doc,pm,an,cdv,ct,osl,rfl,lk,hcd⟩:=F.ex;refine F8 lk hcd S len fun A outer s H vs Q E hr hsp=>?_;obtain⟨t,h,q⟩:=hbody cdv A outer s H vs Q E hr hsp;exact⟨t,h.nox,q⟩
theorem Fun.binds {x qual:Str} {st:Stmt} {f:Addr} {fd:FuncData} {ps:List Str} (F:Fun K x qual st f fd)
  (h:∀(kV doc pm:Value) (an:Option Addr) (cdv ct:Value) (us:List Value),us.length=ps.length->bindArgs (PySem.W.fnOf x qual (gI st) (d7 st) (aA st) .none kV doc pm an cdv ct) ⟨us,[]⟩=pure (ps.zip us)):Binds K fd ps []:=by
 obtain⟨oc,od,kV,doc,pm,an,cdv,ct,osl,rfl,lk,hcd⟩:=F.ex;exact .all (h kV doc pm an cdv ct)
theorem DY {x qual:Str} {st:Stmt} {f:Addr} {oc:Value} {od an:Option Addr} {osl:Array (Option Value)} {kV doc pm cdv ct:Value} (l:K.lookup f=some ⟨oc,od,.func (PySem.W.fnOf x qual (gI st) (d7 st) (aA st) .none kV doc pm an cdv ct),osl⟩)
  (c:PySem.W.codeIn K cdv qual=true) (k:PySem.W.keepIn K (.ref f)=true):Fun K x qual st f (PySem.W.fnOf x qual (gI st) (d7 st) (aA st) .none kV doc pm an cdv ct):=⟨⟨oc,od,kV,doc,pm,an,cdv,ct,osl,rfl,l,c⟩,k⟩
end
theorem d8 {A:Around} (hr:Room k A):A.units+1<cLine:=Zn (Yj (by decide:1<=64) _) hr.units
theorem t8 (h:n<=1000):n<sizeLine:=Zn h (by decide)
section
variable {X:Cx}
theorem pv (i:Nat) (hN:X.N[i]?=some x:=by rfl) (hv:Vis X.env.scope x:=by first|exact Or.inl rfl|exact Or.inr (Or.inl rfl)|exact Or.inr (Or.inr rfl)) (hd:(x == ("__debug__":Str))=false:=by decide)
  (hcd:(x == ("__classdict__":Str))=false:=by decide):PE X (.Name x pos) (gc i):=Dt hN hv hd hcd
end
def Same (H H':Hp):Prop:=∀b o,H b=some o->H' b=some o
theorem Same.refl (H:Hp):Same H H:=fun _ _ h=>h
end L2
namespace L2
open PySem PySem.Spec PyProof.Rows
def bG (env:Env):List (Str×NameKind)->List (Str×Addr)->List (Str×Addr)
 | [],acc=>acc
 | (n,k)::r,acc=>if k=.free then bG env r ((n,(env.cells.lookup n).getD 0)::acc) else bG env r acc
theorem fD {env:Env} {f:Str×NameKind->List (Str×Addr)->Sem (ForInStep (List (Str×Addr)))}
  (h1:∀n k cs c,k=NameKind.free->env.cells.lookup n=some c->f (n,k) cs=pure (.yield ((n,c)::cs)))
  (h2:∀n k cs,k≠NameKind.free->f (n,k) cs=pure (.yield cs)) :
  ∀(names:List (Str×NameKind)) (acc:List (Str×Addr)),(∀x∈names,x.2=.free->∃c,env.cells.lookup x.1=some c)->forIn names acc f=pure (bG env names acc)
 | [],_,_=>rfl
 | (n,k)::r,acc,h=>by
  have hr:∀x∈r,x.2=.free->∃c,env.cells.lookup x.1=some c:=fun x hx=>h x (Vb _ hx);by_cases hk:k=.free
  ·obtain⟨c,hc⟩:=h (n,k) Xb hk;have e:bG env ((n,k)::r) acc=bG env r ((n,c)::acc):=by
    show(if k=.free then _ else _)=_;rw[Af hk];have hc':env.cells.lookup n=some c:=hc;rw[hc'];rfl
   rw[List.forIn_cons,h1 n k acc c hk hc,pure_bind,e];exact fD h1 h2 r _ hr
  ·have e:bG env ((n,k)::r) acc=bG env r acc:=by
    show(if k=.free then _ else _)=_;rw[Ah hk]
   rw[List.forIn_cons,h2 n k acc hk,pure_bind,e];exact fD h1 h2 r _ hr
theorem iW {scope:Scope} {env:Env} (h:∀x∈scope.names,x.2=.free->∃c,env.cells.lookup x.1=some c):closureFor scope env=pure (bG env scope.names []):=by
 simp only[closureFor];have key:=fun f h1 h2=>fD (env:=env) (f:=f) h1 h2 scope.names [] h
 rw[key _ (fun n k cs c hk hc=>by subst hk;simp[cellOf,hc]) (fun n k cs hk=>by
  have:(k == NameKind.free)=false:=by simpa using hk
  simp only[this,Ze,if_false])]
 rfl
theorem bS {α β:Type} [BEq α] {x n:α} {k:β} {r:List (α×β)}:List.lookup x ((n,k)::r)=if (x == n)=true then some k else List.lookup x r:=by
 rw[List.lookup_cons];cases x == n<;>rfl
theorem eF {env:Env} {x:Str} {c:Addr}:∀(names:List (Str×NameKind)) (acc:List (Str×Addr)),(∀x∈names,x.2=.free->∃c,env.cells.lookup x.1=some c) ->
  (∀y c,acc.lookup y=some c->env.cells.lookup y=some c)->(bG env names acc).lookup x=some c->env.cells.lookup x=some c
 | [],acc,_,ha,e=>ha x c e
 | (n,k)::r,acc,h,ha,e=>by
  have hr:∀x∈r,x.2=.free->∃c,env.cells.lookup x.1=some c:=fun x hx=>h x (Vb _ hx);by_cases hk:k=.free
  ·obtain⟨c',hc⟩:=h (n,k) Xb hk;have hc':env.cells.lookup n=some c':=hc;have q:bG env ((n,k)::r) acc=bG env r ((n,c')::acc):=by
    show(if k=.free then _ else _)=_;rw[Af hk,hc'];rfl
   rw[q]at e;refine eF r _ hr (fun y d hy=>?_) e;rw[bS]at hy;by_cases hyn:(y == n)=true
   ·rw[Af hyn]at hy;have:y=n:=by simpa using hyn
    rw[this,hc',hy]
   ·rw[Ah hyn]at hy;exact ha y d hy
  ·have q:bG env ((n,k)::r) acc=bG env r acc:=by
    show(if k=.free then _ else _)=_;rw[Ah hk]
   rw[q]at e;exact eF r _ hr ha e
theorem iw {env:Env} {x:Str} {c:Addr} (hx:env.cells.lookup x=some c):∀(names:List (Str×NameKind)) (acc:List (Str×Addr)),(acc.lookup x=some c∨(x,NameKind.free)∈names)->(bG env names acc).lookup x=some c
 | [],acc,h=>by
  rcases h with h|h
  ·exact h
  ·cases h
 | (n,k)::r,acc,h=>by
  by_cases hk:k=.free
  ·have q:bG env ((n,k)::r) acc=bG env r ((n,(env.cells.lookup n).getD 0)::acc):=by
    show(if k=.free then _ else _)=_;rw[Af hk]
   rw[q];refine iw hx r _ ?_;by_cases hxn:(x == n)=true
   ·left;have e:x=n:=by simpa using hxn
    rw[bS,Af hxn,← e,hx];rfl
   ·rcases h with h|h
    ·left;rw[bS,Ah hxn];exact h
    ·right;rcases Yd.mp h with h|h
     ·cases h;exact absurd (by simp) hxn
     ·exact h
  ·have q:bG env ((n,k)::r) acc=bG env r acc:=by
    show(if k=.free then _ else _)=_;rw[Ah hk]
   rw[q];refine iw hx r _ ?_;rcases h with h|h
   ·exact .inl h
   ·rcases Yd.mp h with h|h
    ·cases h;exact absurd rfl hk
    ·exact .inr h
theorem dH {env:Env} {x:Str}:∀(names:List (Str×NameKind)),
  ((names.map fun(n,k)=>if (k == NameKind.free&&env.scope.kind == .function&&env.kindOf n == some .cell) then(n,NameKind.cell) else(n,k)).lookup x=none/\names.lookup x=none) ∨
  ∃k k',names.lookup x=some k/\(names.map fun(n,k)=>if (k == NameKind.free&&env.scope.kind == .function&&env.kindOf n == some .cell) then(n,NameKind.cell) else(n,k)).lookup x=some k'/\(k'=k∨(k=.free/\k'=.cell))
 | []=>.inl ⟨rfl,rfl⟩
 | (n,k)::r=>by
  have ih:=@dH env x r;show(List.lookup x ((if (k == NameKind.free&&env.scope.kind == .function&&env.kindOf n == some .cell)=true then(n,NameKind.cell) else(n,k))::_)=none/\_)∨∃k' k'',_/\List.lookup x ((if (k == NameKind.free&&env.scope.kind == .function&&env.kindOf n == some .cell)=true then(n,NameKind.cell) else(n,k))::_)=_/\_;by_cases hc:(k == NameKind.free&&env.scope.kind == .function&&env.kindOf n == some .cell)=true
  ·rw[Af hc,bS,bS];have hk:k=.free:=by
    simp only[Wg]at hc;simpa using hc.1.1
   by_cases hx:(x == n)=true
   ·rw[Af hx,Af hx];exact .inr ⟨k,.cell,rfl,rfl,.inr ⟨hk,rfl⟩⟩
   ·rw[Ah hx,Ah hx];exact ih
  ·rw[Ah hc,bS,bS];by_cases hx:(x == n)=true
   ·rw[Af hx,Af hx];exact .inr ⟨k,k,rfl,rfl,.inl rfl⟩
   ·rw[Ah hx,Ah hx];exact ih
abbrev cxC (X:Cx) (N:List Str) (scope:Scope) (C:Addr) (s:Shared) (H:Hp) (fp:List Addr):Cx :=
 { X with N:=N,s₀:=s,H₀:=H,env:=compEnvC scope (bG X.env scope.names []) C X.env,outer:=X.stack,stack:=X.stack,ex:=fp,fn:=fun _=>false,pn:=[],xe:=fun _ _=>False }
structure BlkScope (X:Cx) (N:List Str) (k:Nat) (caps:List Nat) (scope:Scope):Prop where
 kind:scope.kind=.function
 nocell:∀y∈scope.names,y.2≠.cell
 loc:∀y∈scope.names,y.2=.local->scope.names.lookup y.1=some .local
 free:∀y∈scope.names,y.2=.free->(X.env.kindOf y.1=some .cell∨X.env.kindOf y.1=some .free)
 len:N.length=k+caps.length
 cap:∀(j i:Nat),caps[j]?=some i->∃x,N[k+j]?=some x/\X.N[i]?=some x/\scope.names.lookup x=some .free
def blk (k:Nat) (caps:List Nat) (σ:St):St:=List.replicate k none++caps.map fun i=>(σ[i]?).getD none
section
variable {X:Cx} {N:List Str} {k:Nat} {caps:List Nat} {scope:Scope}
theorem BlkScope.cells (S:BlkScope X N k caps scope) (ok:X.Ok):∀x∈scope.names,x.2=.free->∃c,X.env.cells.lookup x.1=some c:=fun x hx hk=>ok.has x.1 (S.free x hx hk)
theorem BlkScope.sub (S:BlkScope X N k caps scope) (ok:X.Ok) (e:(bG X.env scope.names []).lookup x=some c):X.env.cells.lookup x=some c :=
 eF _ _ (S.cells ok) (fun y c h=>by cases h) e
theorem BlkScope.has (S:BlkScope X N k caps scope) (ok:X.Ok) (h:scope.names.lookup x=some .free):∃c,X.env.cells.lookup x=some c/\(bG X.env scope.names []).lookup x=some c:=by
 have hm:=Ay h;obtain⟨c,hc⟩:=S.cells ok _ hm rfl;exact⟨c,hc,iw hc _ _ (.inr hm)⟩
theorem su (σ:St):(blk k caps σ).length=k+caps.length:=by unfold blk;simp
theorem sv (h:(blk k caps σ)[i]?=some (some v)):∃j i',i=k+j/\caps[j]?=some i'/\σ[i']?=some (some v):=by grind [blk]
theorem DZ {s:Shared} (S:BlkScope X N k caps scope) (I:Inv X pins σ H s) (hf:∀b∈fp,mG X pins H b) (hlt:∀b∈fp,b<s.heap.objs.size) (hC:s.heap.objs.size<=C) :
  (cxC X N scope C s H fp).Ok:=by
 have nfs:∀b∈fp,b∉frs X.stack:=fun b hb z=>by
  rcases Yd.mp (I.stkSub b z) with e|e
  ·exact(hf b hb).2.1 e
  ·exact(hf b hb).2.2.1 e
 refine⟨I.ok.mod,S.kind,I.ok.glob,I.ok.blt,hC,fun x y c h1 h2=>I.ok.inj x y c (S.sub I.ok h1) (S.sub I.ok h2),fun x hx=>?_,fun x c h=>(by cases h),I.ok.hd,I.ok.frames,.inl rfl,fun b hb=>⟨?_,fun x c e=>?_⟩,I.bs,Qd I.ok.bsz I.sz,fun b o e hb=>?_,nfs,I.stack,I.stkFree⟩
 ·have hx':(relabel scope X.env).names.lookup x=some .cell∨(relabel scope X.env).names.lookup x=some .free:=hx;rcases dH (env:=X.env) (x:=x) scope.names with⟨e,_⟩|⟨k1,k2,e1,e2,e3⟩
  ·rcases hx' with z|z<;>(have z':=e.symm.trans z;cases z')
  ·have hk2:k2=.cell∨k2=.free:=by
    rcases hx' with z|z
    ·exact .inl (Option.some.inj (e2.symm.trans z))
    ·exact .inr (Option.some.inj (e2.symm.trans z))
   have hfree:k1=.free:=by
    rcases e3 with z|⟨z,_⟩
    ·rcases hk2 with q|q
     ·exact absurd (z.symm.trans q) (S.nocell _ (Ay e1))
     ·exact z.symm.trans q
    ·exact z
   rw[hfree]at e1;obtain⟨c,_,hc⟩:=S.has I.ok e1;exact⟨c,hc⟩
 ·exact Yg (Wc (hlt b hb) hC)
 ·exact(hf b hb).2.2.2.2.1 x c (S.sub I.ok e)
 ·rcases(hf b hb).2.2.2.1 with z|z
  ·exact I.ok.noex b o e z
  ·exact absurd (Wc (Aj (I.ok.bs b o e).1) z) (Yi _)
theorem x9 {s s3:Shared} (S:BlkScope X N k caps scope) (I:Inv X pins σ H s) (hf:∀b∈fp,mG X pins H b) (hlt:∀b∈fp,b<s.heap.objs.size)
  (hC:s.heap.objs.size<=C) (hos:s3.os=s.os) (hg:s3.gens=s.gens) (kp:∀b o,s.heap.get? b=some o->s3.heap.get? b=some o) (hn:s3.heap.Ns C m):Inv (cxC X N scope C s H fp) [] (blk k caps σ) H s3:=by
 refine⟨DZ S I hf hlt hC,hos,by rw[hg];exact I.bare,Un.kept kp,⟨m,hn,fun i x v e1 e2 e3=>?_⟩,fun x c e=>?_,I.hok.fresh hC,fun x c e=>I.freeC x c (S.sub I.ok e),fun p hp=>absurd hp (by simp),I.hok.kept kp,by rw[su];exact S.len.symm⟩
 ·obtain⟨j,i',rfl,hc,hv⟩:=sv e2;obtain⟨y,h1,h2,h3⟩:=S.cap j i' hc;have exy:y=x:=Option.some.inj (h1.symm.trans e1);subst exy;obtain⟨c,hc1,hc2⟩:=S.has I.ok h3;obtain⟨m0,hn0,hl0⟩:=I.loc;have hkind:=S.free _ (Ay h3) rfl;obtain⟨u,ru,lu⟩:=hl0 i' y v h2 hv (hkind.elim (fun z=>.inr (.inl z)) (fun z=>.inr (.inr z)));refine⟨u,ru,.inr ⟨?_,c,hc2,?_⟩⟩
  ·rcases dH (env:=X.env) (x:=y) scope.names with⟨_,e⟩|⟨k1,k2,q1,q2,q3⟩
   ·rw[e]at h3;cases h3
   ·have hk1:k1=.free:=Option.some.inj (q1.symm.trans h3);rcases q3 with z|⟨_,z⟩
    ·right;show(relabel scope X.env).names.lookup y=_;exact q2.trans (by rw[z,hk1])
    ·left;show(relabel scope X.env).names.lookup y=_;exact q2.trans (by rw[z])
  ·rcases lu with⟨hk,_⟩|⟨_,c',hc',cell⟩
   ·rcases hkind with z|z<;>(have z':=hk.symm.trans z;cases z')
   ·have:c'=c:=Option.some.inj (hc'.symm.trans hc1);subst this;obtain⟨o,ho,hd⟩:=cell;exact⟨o,kp _ o ho,hd⟩
 ·obtain⟨v,o,ho,hd⟩:=I.cell x c (S.sub I.ok e);exact⟨v,o,kp _ o ho,hd⟩
end
def PIf (X:Cx) (ifs:List Expr) (t:TT):Prop :=
 ∀(pins:List (Addr×Obj)) (s:Shared) (σ:St) (H:Hp) (Q:Bool->Hp->Prop),Inv X pins σ H s->t σ H Q ->
  wpAny (model X.prog X.w) X.A (forIn ifs true fun c r=>if r=true then do let ok ← isTrue c X.env (eval c X.env);pure (ForInStep.yield ok) else pure (ForInStep.yield r)) (TP X pins σ Q) X.xe s
def Ge:TT:=fun _ H Q=>Q true H
theorem fE:PIf X [] Ge:=fun _ _ _ H _ I h=>wpAny_tests_nil ⟨H,I,h⟩
theorem nX (h:PT X c t):PIf X [c] t:=fun pins s σ H Q I hw=>wpAny_tests_one (h pins s σ H Q I hw)
theorem gn (I:Nat->Shared->Prop)
  (turn:∀n s,I n s->wpAny (model prog w) A (pyNext it) (fun r s₁=>match r with
   | none=>R (.ok .next) s₁
   | some v=>wpAny (model prog w) A (letOwnedTupleGo target it v) (fun _ s₀=>wpAny (model prog w) A (assign target env v) (fun _ s₂ =>
     wpAny (model prog w) A (forIn ifs true fun c r=>if r=true then do let ok ← isTrue c env (eval c env);pure (ForInStep.yield ok) else pure (ForInStep.yield r)) (fun ok s₃ =>
      if ok=true then wpAny (model prog w) A (eval elt env) (fun x s₄ =>
       wpAny (model prog w) A (call (.builtin "list.append") [acc,x]) (fun _ s₅=>∃m,m<n/\I m s₅) (fun _ _=>False) s₄) (fun _ _=>False) s₃
      else ∃m,m<n/\I m s₃) (fun _ _=>False) s₂) (fun _ _=>False) s₀) (fun _ _=>False) s₁) (fun _ _=>False) s)
  (n:Nat) (h:I n s) :
  codeAny (model prog w) A (.compLoop (.ListComp elt [⟨target,iter,ifs,0⟩] scope pos) 0 it acc env) R s:=by
 refine codeAny_loop rfl I (fun n s hI=>?_) n h;show wpAny _ A ((compTurn (.ListComp elt [⟨target,iter,ifs,0⟩] scope pos) 0 it acc env).onRaise (fun x=>do noteFrame x env;theTreesLotGoes x)) _ _ s
 refine wpAny_noted ?_;rw[compTurn_list];refine Aa (B5 (Aa (AC (turn n s hI) (fun r s₁ h₁=>?_) fun _ _ h'=>False.elim h')));cases r with
 | none=>exact Ac h₁
 | some v =>
  refine Aa (AC h₁ (fun _ s₀ h₀=>?_) fun _ _ h'=>False.elim h');refine Aa (AC h₀ (fun _ s₂ h₂=>Aa (AC h₂ (fun ok s₃ h₃=>?_) fun _ _ h'=>False.elim h')) fun _ _ h'=>False.elim h');cases ok with
  | false=>exact Ac ⟨rfl,h₃⟩
  | true =>
   exact Aa (Aa (AC h₃ (fun x s₄ h₄=>Aa (AC h₄ (fun _ s₅ h₅=>Ac (Ac ⟨rfl,h₅⟩)) fun _ _ h'=>False.elim h')) fun _ _ h'=>False.elim h'))
def m8 (k:Nat) (caps:List Nat) (wi:TI) (g:TG) (tc:TT) (te:TE):TE:=fun σ H Q=>wi σ H fun J H1=>∃(n:Nat) (W:Nat->List V->Hp->Prop),W 0 [] H1 /\
 (∀xs H,W n xs H->J.stop n H/\∀p,H p=none->Q (.ref p) (upd H p (.lst xs))) /\
 ∀i xs H,i<n->W i xs H->J.go i H/\xs.length<sizeLine/\∀x H',J.yld i H x H'->g x (blk k caps σ) H' fun σ2 H2=>tc σ2 H2 fun ok H3 =>
  if ok=true then te σ2 H3 fun y H4=>σ2.drop k=(blk k caps σ).drop k/\W (i+1) (xs++[y]) H4
  else σ2.drop k=(blk k caps σ).drop k/\W (i+1) xs H3
abbrev cV (its:List Value) (n:Nat):Obj:={ cls:=.type "list",data:=.seq its.toArray n }
def zx (X:Cx) (pins:List (Addr×Obj)) (H:Hp) (C:Addr):Prop :=
 H C=none/\C≠X.env.locals/\(C∈X.ex∨X.s₀.heap.objs.size<=C)/\(∀x c,X.env.cells.lookup x=some c->c≠C)/\∀p∈X.pn++pins,p.1≠C
inductive CI (X':Cx) (A:Addr) (σ:St) (tn:Nat->Heap->Prop) (fp:List Addr) (n0:Nat) (W:Nat->List V->Hp->Prop) (n:Nat) (s':Shared):Prop
 | mk (i:Nat) (xs:List V) (its:List Value) (nn:Nat) (H':Hp) (J:Inv X' [(A,cV its nn)] σ H' s') (st:tn i s'.heap) (fr:∀b∈fp,H' b=none) (vs:Vals xs its) (hz:xs.length<=sizeLine) (hn:n=n0-i) (hi:i<=n0) (w:W i xs H')
theorem pr {X:Cx}
  (S:BlkScope X N k caps scope) (hc:X.calm=true) (hi:PI X tg iter wi)
  (hg:∀C s H fp,PG (cxC X N scope C s H fp) tg g) (ht:∀C s H fp,PIf (cxC X N scope C s H fp) ifs tc) (he:∀C s H fp,PE (cxC X N scope C s H fp) elt te)
  (hs:∀x,foldedSetIterable iter X.env x=pure x) (I:Inv X pins σ H s) (h:m8 k caps wi g tc te σ H Q)
  (fin:∀(D C:Addr) (H4:Hp) (s4:Shared) (m:Str->Option Value),Inv X pins σ H4 s4->s4.heap.Ns C m->zx X pins H4 C->Q (.ref D) H4->compPost (model X.prog X.w) X.A X.xe use Q' (.ref D) C (.ok .next) s4) :
  wpAny (model X.prog X.w) X.A (comprehension (.ListComp elt [⟨tg,iter,ifs,0⟩] scope pos) scope X.env cpos (newList []) false (eval iter X.env) use) Q' X.xe s:=by
 refine wpAny_comprehension_free rfl hs (iW (S.cells I.ok)) S.kind S.loc ?_;refine thn (hi pins s σ H _ I h) fun v s1 h1=>thn h1 fun itv s2 h2=>?_;obtain⟨it,fp,tn,J,H2,e,I2,T,st2,f2,n0,W,w0,wstop,turn⟩:=h2;subst e;refine AA (wpAny_newFunctionEnv S.nocell (by intro y hy;simp at hy) (fun h₁ hns₁ hsb₁=>?_) S.kind)
 dsimp only at hns₁ hsb₁ ⊢;generalize hG:s2.heap.push { cls:=.type "list",dict:=none,data:=.seq ([]:List Value).toArray }=G at hns₁ hsb₁ ⊢;have hCG:G.objs.size=s2.heap.objs.size+1:=by rw[← hG,Heap.size_push]
 have hDC:s2.heap.objs.size≠G.objs.size:=by lia
 have below:∀b,b<s2.heap.objs.size->b≠G.objs.size/\b≠s2.heap.objs.size:=fun b hb=>⟨by lia,by lia⟩
 have old:∀b o,s2.heap.get? b=some o->h₁.get? b=some o:=fun b o e=>hsb₁.extBut b o (below b (Aj e)).1 (Ad _ (hG ▸ Ad _ e));have hacc:h₁.get? s2.heap.objs.size=some (cV [] 0):=hsb₁.extBut _ _ hDC (Ad _ (hG ▸ Al _ rfl));have hlt:∀b∈fp,b<s2.heap.objs.size:=fun b hb=>by obtain⟨o,ho,_⟩:=T.obj 0 _ st2 b hb;exact Aj ho
 have hDf:s2.heap.objs.size∉fp:=fun z=>Yi _ (hlt _ z);have hle:s2.heap.objs.size<=G.objs.size:=by lia
 have hDcell:∀x c,(bG X.env scope.names []).lookup x=some c->c≠s2.heap.objs.size:=fun x c e z=>by
  obtain⟨v,q⟩:=I2.cell x c (S.sub I2.ok e);exact absurd q.lt (by rw[z];exact Yi _)
 have hDfs:s2.heap.objs.size∉frs X.stack:=fun z=>by
  obtain⟨_,o,ho,_⟩:=I2.stack.mem z;exact absurd (Aj ho) (Yi _)
 have nfs:∀b∈fp,b∉frs X.stack:=fun b hb z=>by
  rcases Yd.mp (I2.stkSub b z) with e|e
  ·exact(f2 b hb).2.1 e
  ·exact(f2 b hb).2.2.1 e
 have fpk:∀{H':Hp} {its:List Value} {n:Nat},(∀b∈fp,H' b=none)->∀b∈fp,mG (cxC X N scope G.objs.size s2 H2 fp) [(s2.heap.objs.size,cV its n)] H' b:=fun {H' its n} hn b hb =>
  ⟨hn b hb,(below b (hlt b hb)).1,nfs b hb,.inl hb,fun x c e=>(f2 b hb).2.2.2.2.1 x c (S.sub I2.ok e),fun p hp=>by
   have e:p=(s2.heap.objs.size,cV its n):=by simpa using hp
   rw[e];exact AF (below b (hlt b hb)).2⟩
 have pinD:∀{H':Hp} {s':Shared} {σ':St} {its:List Value} {n:Nat},Inv (cxC X N scope G.objs.size s2 H2 fp) [] σ' H' s'->s'.heap.get? s2.heap.objs.size=some (cV its n)->H' s2.heap.objs.size=none->Inv (cxC X N scope G.objs.size s2 H2 fp) [(s2.heap.objs.size,cV its n)] σ' H' s':=fun {H' s' σ' its n} J e hn =>
  J.pins_of fun p hp=>by
   have q:p=(s2.heap.objs.size,cV its n):=by simpa using hp
   rw[q];exact⟨e,hn,hDC,hDfs,fun v z=>by cases z⟩
 have I3:Inv (cxC X N scope G.objs.size s2 H2 fp) [] (blk k caps σ) H2 { s2 with heap:=h₁,toks:=s2.toks+([]:List (Str×Value)).length }:=x9 S I2 f2 hlt hle rfl rfl old hns₁;have loop:codeAny (model X.prog X.w) X.A (.compLoop (.ListComp elt [⟨tg,iter,ifs,0⟩] scope pos) 0 (.ref it) (.ref s2.heap.objs.size) (compEnvC scope (bG X.env scope.names []) G.objs.size X.env))
   (compPost (model X.prog X.w) X.A X.xe use Q' (.ref s2.heap.objs.size) G.objs.size) { s2 with heap:=h₁,toks:=s2.toks+([]:List (Str×Value)).length }:=by
  refine gn (CI (cxC X N scope G.objs.size s2 H2 fp) s2.heap.objs.size (blk k caps σ) tn fp n0 W) ?_ n0
   ⟨0,[],[],0,H2,pinD I3 hacc (I2.hok.fresh (Va _)),T.keep _ _ _ st2 fun b _ o e=>old b o e,fun b hb=>(f2 b hb).1,.nil,Wh _,rfl,Wh _,w0⟩
  rintro n s3 ⟨i,xs,its,nn,H3,J3,st3,fr3,vs3,hz3,hn3,hi3,w3⟩;by_cases hin:i<n0
  rotate_left
  ·have ein:i=n0:=by lia
   subst ein;obtain⟨stop,qn⟩:=wstop xs H3 w3;refine thn (T.done (cxC X N scope G.objs.size s2 H2 fp) rfl rfl rfl hc i _ s3 _ H3 _ J3 (fpk fr3) st3 stop) fun r s4 zz9=>?_;obtain⟨hr,J4⟩:=zz9;subst hr;obtain⟨eD,nD,_⟩:=J4.pin (s2.heap.objs.size,cV its nn) (by simp)
   have eD:s4.heap.get? s2.heap.objs.size=some (cV its nn):=eD;have nD:H3 s2.heap.objs.size=none:=nD;obtain⟨m4,hm4,_⟩:=J4.loc;have U:Un (frs X.stack) fp H2 H3 s2.heap s4.heap:=J4.base;have neC:∀b o,s2.heap.get? b=some o->b≠G.objs.size:=fun b o e=>(below b (Aj e)).1;have neD:∀b o,s2.heap.get? b=some o->b≠s2.heap.objs.size:=fun b o e=>(below b (Aj e)).2;have H2D:H2 s2.heap.objs.size=none:=I2.hok.fresh (Va _);have HC:H3 G.objs.size=none:=J4.free;refine fin s2.heap.objs.size G.objs.size (upd H3 s2.heap.objs.size (.lst xs)) s4 m4 (I2.call' (s':=s4) (ch:=fp) J4.os ?_ ?_ J4.bare ?_) hm4 ?_ (qn _ nD)
   ·refine⟨fun b o e n hb hx=>U.keep b o e n hb hx,fun b o e n hb hx=>U.slot b o e n hb hx,fun b o e n hx=>?_,fun b o e hx=>U.there b o e hx,fun b ys e=>?_,fun b o u e=>?_,fun b ps e=>?_⟩
    ·rw[aF (neD b o e)];exact U.free b o e n hx
    ·rw[aF (aU e H2D)];exact U.tups b ys e
    ·rw[aF (aU e H2D)];exact U.frzs b o u e
    ·obtain⟨more,q⟩:=U.tbls b ps e;exact⟨more,by rw[aF (aU e H2D)];exact q⟩
   ·intro b u e;by_cases hb:b=s2.heap.objs.size
    ·subst hb;rw[aM]at e;cases e;exact⟨hz3,its,nn,vs3,eD⟩
    ·rw[aF hb]at e;exact(J4.hok b u e).stay (fun c v _ q=>q) (fun c q=>by rw[aF (aU q nD)];exact q) fun c ys q=>by rw[aF (aU q nD)];exact q
   ·exact fun b hb=>⟨(f2 b hb).2.2.2.1,(f2 b hb).2.1,(f2 b hb).2.2.2.2.1,(f2 b hb).2.2.2.2.2⟩
   ·refine⟨by rw[aF (AF hDC)];exact HC,Wk (Wc I2.lt hle),.inr (Qd I2.sz hle),fun x c e z=>?_,fun p hp z=>?_⟩
    ·obtain⟨v,q⟩:=I2.cell x c e;exact absurd (Wc q.lt (by rw[z];exact hle)) (Yi _)
    ·exact absurd (Wc (Aj (I2.pin p hp).1) (by rw[z];exact hle)) (Yi _)
  ·obtain⟨go,hz,step⟩:=turn i xs H3 hin w3;refine thn (T.item (cxC X N scope G.objs.size s2 H2 fp) rfl rfl rfl hc i _ s3 _ H3 _ J3 (fpk fr3) st3 go) fun r s4 zz9=>?_;obtain⟨u,hr,h4⟩:=zz9;subst hr;refine thn h4 fun _ s5 zz9=>?_;obtain⟨x,H5,J5,r5,y5,st5,fr5⟩:=zz9;have J5':=J5.pinned (fpk fr5) (T.obj _ _ st5);refine thn (hg _ _ _ _ _ s5 _ H5 x u _ J5' r5 (step x H5 y5)) fun _ s6 zz9=>?_;obtain⟨σ6,H6,J6,q6⟩:=zz9;refine thn (ht _ _ _ _ _ s6 σ6 H6 _ J6 q6) fun ok s7 zz9=>?_;obtain⟨H7,J7,q7⟩:=zz9;have wk:∀{σ8:St} {H8:Hp} {s8:Shared} {pl:List (Addr×Obj)},Inv (cxC X N scope G.objs.size s2 H2 fp) pl σ8 H8 s8->σ8.drop k=(blk k caps σ).drop k->Inv (cxC X N scope G.objs.size s2 H2 fp) pl (blk k caps σ) H8 s8:=fun {σ8 H8 s8 pl} J8 hd =>
    J8.weak (by rw[su,J8.len];exact S.len.symm) fun j v e=>by
     obtain⟨j',i',rfl,hc',hv'⟩:=sv e;have e1:((blk k caps σ).drop k)[j']?=some (some v):=by rw[Qf];exact e
     rw[← hd,Qf]at e1;exact e1
   have recs:∀{σ8:St} {H8:Hp} {s8:Shared},Inv (cxC X N scope G.objs.size s2 H2 fp) ([(s2.heap.objs.size,cV its nn)]++kX fp s5.heap) σ8 H8 s8->(∀b∈fp,∀o,s5.heap.get? b=some o->s8.heap.get? b=some o)/\(∀b∈fp,H8 b=none):=fun {σ8 H8 s8} J8 =>
    ⟨fun b hb o e=>(J8.pin (b,o) (Vg _ (Vg _ (fA hb e)))).1,fun b hb=>by
     obtain⟨o,e,d⟩:=T.obj _ _ st5 b hb
     exact(J8.pin (b,o) (Vg _ (Vg _ (fA hb e)))).2.1⟩
   cases ok with
   | false =>
    rw[Ah (by decide)]at q7 ⊢
    obtain⟨hd,w7⟩:=q7;obtain⟨k1,k2⟩:=recs J7;exact⟨n0-(i+1),by lia,i+1,xs,its,nn,H7,wk J7.unpinned hd,T.keep _ _ _ st5 k1,k2,vs3,hz3,rfl,hin,w7⟩
   | true =>
    rw[Af rfl]at q7 ⊢;refine thn (he _ _ _ _ _ s7 σ6 H7 _ J7 q7) fun uy s8 zz9=>?_;obtain⟨y,H8,J8,r8,hd,w8⟩:=zz9;obtain⟨k1,k2⟩:=recs J8;obtain⟨eD,nD,_⟩:=J8.pin (s2.heap.objs.size,cV its nn) (by simp)
    have eD:s8.heap.get? s2.heap.objs.size=some (cV its nn):=eD;have nD:H8 s2.heap.objs.size=none:=nD;have hl3:=vs3.length;refine BJ F.slot_list_append ⟨_,eD,rfl⟩ F.entry_list_append (F.args_list_append_2 _ _) (PySem.list_append s2.heap.objs.size its.toArray nn uy (by rw[Wb];lia)) ⟨eD,?_⟩
    have q:=PySem.IsL.update eD (fun a:Array Value=>a.push uy);have qe:its.toArray.push uy=(its++[uy]).toArray:=by simp
    rw[qe]at q;have oth:∀b o,b≠s2.heap.objs.size->s8.heap.get? b=some o->(s8.heap.update s2.heap.objs.size (Obj.mapSeq fun a=>a.push uy)).get? b=some o:=fun b o hb e=>(BO s8.heap _ (AF hb)).trans e;have J9:Inv (cxC X N scope G.objs.size s2 H2 fp) [] σ6 H8 { s8 with heap:=s8.heap.update s2.heap.objs.size (Obj.mapSeq fun a=>a.push uy),toks:=s8.toks } :=
     (J8.pins_of (pins':=[]) fun p hp=>absurd hp (by simp)).turned oth nD hDC (.inr (Va _)) hDcell (fun p hp=>absurd hp (by simp))
    refine⟨n0-(i+1),by lia,i+1,xs++[y],its++[uy],_,H8,wk (pinD J9 q nD) hd,T.keep _ _ _ st5 fun b hb o e=>oth b o (fun z=>hDf (z ▸ hb)) (k1 b hb o e),k2,vs3.append (.cons r8 .nil),?_,rfl,hin,w8⟩
    rw[Yb,Xf];lia
 exact codeAny_compStart_list loop (T.self _ 0 _ _ _ (T.keep _ _ _ st2 fun b _ o e=>old b o e) loop)
theorem Inv.aside {s:Shared} (I:Inv X pins σ H s) (a:zx X pins H C) (hs:Heap.SameBut C s.heap h'):Inv X pins σ H { s with heap:=h' } :=
 I.turned (t':=s.toks) (fun b o hb e=>hs.extBut b o hb e) a.1 a.2.1 a.2.2.1 a.2.2.2.1 a.2.2.2.2
theorem dB {X:Cx} (S:BlkScope X N k caps scope) (hc:X.calm=true) (hi:PI X tg iter wi)
  (hg:∀C s H fp,PG (cxC X N scope C s H fp) tg g) (ht:∀C s H fp,PIf (cxC X N scope C s H fp) ifs tc) (he:∀C s H fp,PE (cxC X N scope C s H fp) elt te)
  (hs:∀x,foldedSetIterable iter X.env x=pure x:=by intro _;rfl):PE X (.ListComp elt [⟨tg,iter,ifs,0⟩] scope pos) (m8 k caps wi g tc te):=by
 intro pins s σ H Q I h;rw[eval_ListComp];exact pr (use:=none) S hc hi hg ht he hs I h fun D C H4 s4 m I4 hm a q=>⟨m,hm,fun h' hs'=>⟨.ref D,H4,I4.aside a hs',rfl,q⟩⟩
theorem yb {X:Cx} {pos py spos:Pos} (S:BlkScope X N k caps scope) (hc:X.calm=true) (hN:X.N.Nodup) (hi':X.N[i]?=some y) (hy:Loc X.env.scope y) (hi:PI X tg iter wi)
  (hg:∀C s H fp,PG (cxC X N scope C s H fp) tg g) (ht:∀C s H fp,PIf (cxC X N scope C s H fp) ifs tc) (he:∀C s H fp,PE (cxC X N scope C s H fp) elt te)
  (hs:∀x,foldedSetIterable iter X.env x=pure x:=by intro _;rfl) (hsw:swapsWith (.ListComp elt [⟨tg,iter,ifs,0⟩] scope pos) (some (.Name y py)) spos.line X.env=pure true:=by rfl)
  (hf:X.fn y=true∨X.env.scope.names.lookup y=some .local:=by first|exact .inl rfl|exact .inr rfl|assumption) :
  PS X (.Assign [.Name y py] (.ListComp elt [⟨tg,iter,ifs,0⟩] scope pos) spos) (kr (m8 k caps wi g tc te) (dj i)):=by
 intro pins s σ H D I h;rw[exec_Assign_Name_used _ _ _ _ hsw];refine Aa (B5 (Aa ?_));show wpAny _ X.A (do let _ ← comprehension (.ListComp elt [⟨tg,iter,ifs,0⟩] scope pos) scope X.env _ (newList []) false (eval iter X.env) (some (assign (.Name y py) X.env))) _ _ s
 refine Aa (AC (pr (use:=some (assign (.Name y py) X.env)) (Q':=fun _ s'=>SP X pins D .next s') S hc hi hg ht he hs I h ?_) (fun _ s' hq=>Ac (Ac hq)) fun _ _ e=>e)
 intro Da C H4 s4 m I4 hm a q;refine wpAny_assign_Name (mT I4 hN hi' hy (show RelV (.ref Da) (.ref Da) from rfl) (fun s5 I5 zz9=>?_) hf);obtain⟨b,sb,hb⟩:=zz9;have hbC:C≠b:=by
  rcases hb with z|z
  ·rw[z];exact a.2.1
  ·exact fun e=>a.2.2.2.1 _ _ z e.symm
 exact⟨m,hm.sameBut sb hbC,fun h' hs'=>⟨_,H4,I5.aside a hs',q⟩⟩
end L2
namespace L2
open PySem PySem.Spec PyProof.Rows
def Its (x:Str):It:=⟨fun i _=>i<x.cps.size,fun i H v H'=>H'=H/\∃c,x.cps[i]?=some c/\v=.str ⟨#[c]⟩,fun i _=>x.cps.size<=i⟩
theorem t9 {P:Program} {w:World} {K:Ab} {tg:Expr} (it:Addr) (x:Str) (t:Tok):Turn P w K tg (Its x) [it] it (fun i h=>h.IsStrIter it "str_ascii_iterator" x t i) where
 mem:=by simp
 obj:=fun i h st b hb=>by
  have e:b=it:=by simpa using hb
  subst e;obtain⟨o,e,c,d⟩:=st;exact⟨o,e,fun v z=>by rw[d]at z;cases z⟩
 keep:=fun i h h' st k=>let ⟨o,ho,r⟩:=st;⟨o,k it (by simp) o ho,r⟩
 item:=by
  intro X hP hw hK hc i pins s σ H E I hf st hg;subst hP hw hK;obtain⟨f0,f1,f2,f3,f4,f5⟩:=hf it (by simp)
  have hg':i<x.cps.size:=hg;refine wpAny_pyNext_ascii_item st (c:=x.cps[i]) (by simp[hg']) fun h' st' sb=>?_
  have I1:Inv X pins σ H { s with heap:=h',toks:=s.toks+1 }:=I.turned (fun b o hb e=>sb.extBut b o hb e) f0 f1 f3 f4 f5;obtain⟨o,e,c,d⟩:=id st';exact⟨_,rfl,kW (s:={ s with heap:=h',toks:=s.toks+1 }) e c d (by decide) ⟨.str ⟨#[x.cps[i]]⟩,H,I1,⟨_,rfl⟩,⟨rfl,_,by simp[hg'],rfl⟩,st',fun b hb=>(hf b hb).1⟩⟩
 done:=by
  intro X hP hw hK hc i pins s σ H E I hf st hg;subst hP hw hK;obtain⟨f0,f1,f2,f3,f4,f5⟩:=hf it (by simp)
  have hg':x.cps.size<=i:=hg;exact wpAny_pyNext_ascii_end (I.ok.hd hc) st (by simp[hg']) fun h' eb=>⟨rfl,I.turned (t':=s.toks) (fun b o hb e=>eb b o hb e) f0 f1 f3 f4 f5⟩
 self:=fun _ _ _ _ _ st h=>wpAny_pyIter_striter_ascii st h
theorem ua {P:Program} {w:World} {K:Ab} {tg:Expr} (it:Addr) (x:Str) (t:Tok):Turn P w K tg (Its x) [it] it (fun i h=>h.IsStrIter it "str_iterator" x t i) where
 mem:=by simp
 obj:=fun i h st b hb=>by
  have e:b=it:=by simpa using hb
  subst e;obtain⟨o,e,c,d⟩:=st;exact⟨o,e,fun v z=>by rw[d]at z;cases z⟩
 keep:=fun i h h' st k=>let ⟨o,ho,r⟩:=st;⟨o,k it (by simp) o ho,r⟩
 item:=by
  intro X hP hw hK hc i pins s σ H E I hf st hg;subst hP hw hK;obtain⟨f0,f1,f2,f3,f4,f5⟩:=hf it (by simp)
  have hg':i<x.cps.size:=hg;refine wpAny_pyNext_wide_item st (c:=x.cps[i]) (by simp[hg']) fun h' st' sb=>?_
  have I1:Inv X pins σ H { s with heap:=h',toks:=s.toks+1 }:=I.turned (fun b o hb e=>sb.extBut b o hb e) f0 f1 f3 f4 f5;obtain⟨o,e,c,d⟩:=id st';exact⟨_,rfl,kW (s:={ s with heap:=h',toks:=s.toks+1 }) e c d (by decide) ⟨.str ⟨#[x.cps[i]]⟩,H,I1,⟨_,rfl⟩,⟨rfl,_,by simp[hg'],rfl⟩,st',fun b hb=>(hf b hb).1⟩⟩
 done:=by
  intro X hP hw hK hc i pins s σ H E I hf st hg;subst hP hw hK;obtain⟨f0,f1,f2,f3,f4,f5⟩:=hf it (by simp)
  have hg':x.cps.size<=i:=hg;exact wpAny_pyNext_wide_end (I.ok.hd hc) st (by simp[hg']) fun h' eb=>⟨rfl,I.turned (t':=s.toks) (fun b o hb e=>eb b o hb e) f0 f1 f3 f4 f5⟩
 self:=fun _ _ _ _ _ st h=>wpAny_pyIter_striter_wide st h
section
variable {X:Cx} {tg:Expr}
def D0 (tl:TE):TI:=fun σ H R=>tl σ H fun x H1=>∃z,x=.str z/\R (Its z) H1
theorem D1 {l:Expr} {tl:TE} (hl:PE X l tl):PI X tg l (D0 tl):=by
 intro pins s σ H R I h;refine thn (hl pins s σ H _ I h) fun v s1 zz9=>?_;obtain⟨x,H1,I1,r1,q1⟩:=zz9;obtain⟨z,e,q⟩:=q1;subst e;obtain⟨t,rfl⟩:=r1;have fpk:∀b∈[s1.heap.objs.size],mG X pins H1 b:=fun b hb=>by
  have e:b=s1.heap.objs.size:=by simpa using hb
  subst e;exact I1.fpOk (Va _) (I1.hok.fresh (Va _))
 cases ha:z.cps.all (·<128) with
 | true=>exact wpAny_pyIter_ascii ha ⟨s1.heap.objs.size,[s1.heap.objs.size],_,_,H1,rfl,I1.kept (t':=s1.toks) fun b o e=>Ad _ e,t9 _ z t,⟨_,Al _ rfl,rfl,rfl⟩,fpk,q⟩
 | false=>exact wpAny_pyIter_wide ha ⟨s1.heap.objs.size,[s1.heap.objs.size],_,_,H1,rfl,I1.kept (t':=s1.toks) fun b o e=>Ad _ e,ua _ z t,⟨_,Al _ rfl,rfl,rfl⟩,fpk,q⟩
def sgn (x:Str):List V:=x.cps.toList.map fun c=>.str ⟨#[c]⟩
theorem vn {x:Str} {acc:Array Value} (h:ItemsOf (SignAt x) acc x.cps.size):Vals (sgn x) acc.toList:=by
 obtain⟨h1,h2⟩:=h;have gen:∀(cs:List Nat) (us:List Value),us.length=cs.length->(∀(j:Nat) v,us[j]?=some v->∃c u,cs[j]?=some c/\v=Value.str ⟨#[c]⟩ u)->Vals (cs.map fun c=>V.str ⟨#[c]⟩) us:=by
  intro cs;induction cs with
  | nil=>intro us hl _;cases us with
   | nil=>exact .nil
   | cons _ _=>cases hl
  | cons c cs ih =>
   intro us hl hu;cases us with
   | nil=>cases hl
   | cons u us =>
    obtain⟨c',tk,e1,e2⟩:=hu 0 u rfl;have:c=c':=by simpa using e1
    subst this;subst e2;refine .cons ⟨tk,rfl⟩ (ih us (by simpa using hl) fun j v e=>?_)
    have:=hu (j+1) v (by simpa using e)
    simpa using this
 refine gen x.cps.toList acc.toList (by simp[h1]) fun j v e=>?_
 obtain⟨c,u,e1,e2⟩:=h2 j v (by simpa using e)
 exact⟨c,u,by simpa using e1,e2⟩
theorem yc (x:Str):(sgn x).length=x.cps.size:=by simp[sgn]
theorem lf (hc:X.calm=true):CallR X (.type "list") (fun xs H Q=>∃z:Str,xs=[.str z]/\z.cps.size<=sizeLine/\∀l,H l=none->Q (.ref l) (upd H l (.lst (sgn z)))):=by
 intro pins s σ H xs us Q I rv h;obtain⟨z,rfl,hz,q⟩:=h;obtain⟨u,rfl,ru⟩:=vals1 rv;obtain⟨t,rfl⟩:=ru;refine call_list_str (I.ok.hd hc) z t (fun h' tk acc' c' kp hS hi=>?_) hz;refine⟨.ref s.heap.objs.size,upd H s.heap.objs.size (.lst (sgn z)),I.laid kp (Va _) ⟨by rw[yc];exact hz,acc'.toList,c',vn hi,by simpa using hS⟩,rfl,q _ (I.hok.fresh (Va _))⟩
theorem ObjOk.there {h:Heap} (x:ObjOk P w H h a o):∃ob,h.get? a=some ob:=by
 cases o with
 | lst xs=>obtain⟨_,_,_,_,e⟩:=x;exact⟨_,e⟩
 | tup xs=>obtain⟨_,_,_,o,e,_⟩:=x;exact⟨_,e⟩
 | dK kvs=>obtain⟨_,_,_,_,o,_,_,e,_⟩:=x;exact⟨_,e⟩
 | dT ep kvs=>obtain⟨_,_,_,_,_,o,_,e,_⟩:=x;exact⟨_,e⟩
 | set S n=>obtain⟨o,_,_,_,e,_⟩:=x;exact⟨_,e⟩
 | ins C dx fs=>obtain⟨_,_,_,e,_⟩:=x;exact⟨_,e⟩
 | own y=>exact x
 | xd fs=>obtain⟨_,⟨_,_,_,e,_⟩,_⟩:=x;exact⟨_,e⟩
 | rng lo hi=>obtain⟨_,_,_,e⟩:=x;exact⟨_,e⟩
 | frz ob u=>obtain⟨e,_⟩:=x;exact⟨_,e⟩
 | tbl ps=>exact⟨_,x⟩
 | met f y=>exact⟨_,x⟩
 | ext φ=>obtain⟨_,e,_⟩:=x;exact e
theorem Inv.laid2 {s:Shared} {h':Heap} {t':Nat} (I:Inv X pins σ H s) (k:∀b u,s.heap.get? b=some u->h'.get? b=some u) (hne:∀b u,s.heap.get? b=some u->b≠a) (hn:H a=none) (new:ObjOk X.prog X.w (upd H a o) h' a o) :
  Inv X pins σ (upd H a o) { s with heap:=h',toks:=t' }:=by
 refine I.un ⟨fun b u e _ _ _=>k b u e,fun b u e _ _ _=>⟨u.slots,k b u e⟩,fun b u e n _=>by rw[aF (hne b u e)];exact n,fun b u e _=>⟨u,k b u e⟩,fun b xs e=>by rw[aF (aU e hn)];exact e,fun b u v e=>by rw[aF (aU e hn)];exact e,fun b ps e=>⟨#[],by rw[aF (aU e hn),e];simp⟩⟩ ?_
 intro b u e;by_cases hb:b=a
 ·subst hb;rw[aM]at e;cases e;exact new
 ·rw[aF hb]at e;exact(I.hok b u e).stay (fun c v _ q=>k c v q) (fun c q=>by rw[aF (aU q hn)];exact q) fun c xs q=>by rw[aF (aU q hn)];exact q
theorem D2:SlR X (fun x lo hi H Q=>∃z:Str,x=.str z/\z.length<=sizeLine/\Q (.str (Txt.slice z lo hi)) H):=by
 intro pins s σ H x v vl vu lo hi sl Q I rx hs pl pu h;obtain⟨z,rfl,hz,q⟩:=h;obtain⟨t,rfl⟩:=rx;refine⟨"str",_,F.slot_str_getitem.lookup,CK _ _ _,?_⟩;have fin:∀(o p:Option Int),lo=o->hi=p->∀t' k,EP X pins σ Q (.str (Txt.slice z o p) t') { s with toks:=k }:=fun o p e1 e2 t' k=>⟨.str _,H,I.tok k,⟨t',rfl⟩,by rw[← e1,← e2];exact q⟩
 cases pl with
 | none =>
  cases pu with
  | none=>exact AV (l:=none) (u:=none) (st:=none) hs rfl (BQ ⟨Qd (Cf z _ _) hz,fun t' k=>fin _ _ rfl rfl t' k⟩)
  | int j uj=>exact AV (l:=none) (u:=some (j,uj)) (st:=none) hs rfl (BQ ⟨Qd (Cf z _ _) hz,fun t' k=>fin _ _ rfl rfl t' k⟩)
 | int i ui =>
  cases pu with
  | none=>exact AV (l:=some (i,ui)) (u:=none) (st:=none) hs rfl (BQ ⟨Qd (Cf z _ _) hz,fun t' k=>fin _ _ rfl rfl t' k⟩)
  | int j uj=>exact AV (l:=some (i,ui)) (u:=some (j,uj)) (st:=none) hs rfl (BQ ⟨Qd (Cf z _ _) hz,fun t' k=>fin _ _ rfl rfl t' k⟩)
end
end L2
namespace L2
open PySem PySem.Spec PyProof.Rows
structure Cal (P:Program) (w:World) (K:Ab) (mg:Str->Option Value) (base:Heap) (x:Str) (k:Nat) (ps:List Str) (sp:Sp):Prop where
 ex:∃f fd,FnOk P w K mg base CX0 k f fd ps sp/\mg x=some (.ref f)/\PySem.W.keepIn K (.ref f)=true/\Binds K fd ps []
def px (sp:Sp) (t:TA):TE:=fun σ H Q=>t σ H fun vs H1=>sp vs H1 Q E0
section
variable {X:Cx}
theorem bc (C:Cal X.prog X.w X.K X.mg X.base x k ps sp) (hr:Room k' X.A) (hg:Gl X x) (ha:PA X (e::es) t) (hk:k<=k':=by decide)
  (hdb:(x == ("__debug__":Str))=false:=by decide) (he:starEach (e::es) X.env=(false,eval e X.env)::starEach es X.env:=by rfl) (hpl:(backTo pos (starEach es X.env)).any (·.1)=false:=by rfl) :
  PE X (.Call (.Name x p) (e::es) [] pos) (px sp t):=by
 obtain⟨f,fd,F,hm,hkp,hb⟩:=C.ex;intro pins s σ H Q I h;refine xW F (hr.mono hk) hg hm hkp hb .nil Gc ha hdb he hpl pins s σ H Q I ?_;have e0:px sp t=u8 sp [] E0 t:=by
  funext σ H Q
  unfold px u8;simp only[Qe]
 rw[e0]at h;exact h
def qQ:Expr->Bool
 | .Starred ..=>false
 | _=>true
theorem ub (h:qQ e=true):starEach (e::es) env=(false,eval e env)::starEach es env:=by
 cases e<;>first|rfl|cases h
theorem ap (ha:PE X e te) (hr:PA X es t) (h:qQ e=true:=by rfl):PA X (e::es) (dm te t):=si ha hr (ub h)
theorem be (i:Nat) {pos' pos:Pos} (hN:X.N.Nodup) (he:PE X e te) (hi:X.N[i]?=some x:=by rfl) (hx:Loc X.env.scope x:=by first|exact Or.inl rfl|exact Or.inr rfl) (hf:X.fn x=true∨X.env.scope.names.lookup x=some .local:=by first|exact .inl rfl|exact .inr rfl|assumption)
  (hs:swapsWithSole [.Name x pos'] e pos.line X.env=pure false:=by rfl) (hw:swappedStores [.Name x pos'] e X.env=pure none:=by rfl) (h1:(assignEach [.Name x pos'] X.env).map (·.2)=[assign (.Name x pos') X.env]:=by rfl) :
  PS X (.Assign [.Name x pos'] e pos) (kr te (dj i)):=fz he (rY hN hi hx hf) hs hw h1
theorem bN (i:Nat) (hN:X.N.Nodup) (hi:X.N[i]?=some x:=by rfl) (hx:Loc X.env.scope x:=by first|exact Or.inl rfl|exact Or.inr rfl) (hf:X.fn x=true∨X.env.scope.names.lookup x=some .local:=by first|exact .inl rfl|exact .inr rfl|assumption):PG X (.Name x pos) (dj i):=rY hN hi hx hf
theorem D3 (i:Nat) {pos py spos:Pos} (S:BlkScope X N k caps scope) (hc:X.calm=true) (hN:X.N.Nodup) (hi:PI X tg iter wi)
  (hg:∀C s H fp,PG (cxC X N scope C s H fp) tg g) (ht:∀C s H fp,PIf (cxC X N scope C s H fp) ifs tc) (he:∀C s H fp,PE (cxC X N scope C s H fp) elt te)
  (hi':X.N[i]?=some y:=by rfl) (hy:Loc X.env.scope y:=by first|exact Or.inl rfl|exact Or.inr rfl)
  (hs:∀x,foldedSetIterable iter X.env x=pure x:=by intro _;rfl) (hsw:swapsWith (.ListComp elt [⟨tg,iter,ifs,0⟩] scope pos) (some (.Name y py)) spos.line X.env=pure true:=by rfl)
  (hf:X.fn y=true∨X.env.scope.names.lookup y=some .local:=by first|exact .inl rfl|exact .inr rfl|assumption) :
  PS X (.Assign [.Name y py] (.ListComp elt [⟨tg,iter,ifs,0⟩] scope pos) spos) (kr (m8 k caps wi g tc te) (dj i)):=yb S hc hN hi' hy hi hg ht he hs hsw hf
end
theorem ce:bootBuiltins "list"=some (.type "list"):=by decide +kernel
theorem uc:bootBuiltins "int"=some (.type "int"):=by decide +kernel
theorem qR:bootBuiltins "bool"=some (.type "bool"):=by decide +kernel
theorem lh:bootBuiltins "dict"=some (.type "dict"):=by decide +kernel
theorem D4 {K:Ab} {T S:String} {b:Bool} (h:(if (Value.type T == Value.type S)=true then some true else if PySem.W.kitMeta S=true then(fastBuiltinMro T).map (·.contains (Value.type S)) else none)=some b):PySem.W.kitOne K (.type T) (.type S)=some b:=h
theorem boot_isinstance:bootBuiltins "isinstance"=some (.builtin "isinstance"):=by decide +kernel
def zy (osc:Scope) (ON N:List Str) (k:Nat) (caps:List Nat) (scope:Scope):Bool :=
 decide (scope.kind=.function)&&scope.names.all (fun y=>decide (y.2≠.cell))&&scope.names.all (fun y=>decide (y.2=.local->scope.names.lookup y.1=some .local)) &&
 scope.names.all (fun y=>decide (y.2=.free->(osc.names.lookup y.1=some .cell∨osc.names.lookup y.1=some .free)))&&decide (N.length=k+caps.length) &&
 (List.range caps.length).all fun j=>match caps[j]?,N[k+j]? with
  | some i,some x=>decide (ON[i]?=some x)&&decide (scope.names.lookup x=some .free)
  | _,_=>false
theorem eG {X:Cx} (h:zy osc ON N k caps scope=true) (ho:X.env.scope=osc) (hN:X.N=ON):BlkScope X N k caps scope:=by
 unfold zy at h;simp only[Wg,decide_eq_true_eq,BI]at h;obtain⟨⟨⟨⟨⟨h1,h2⟩,h3⟩,h4⟩,h5⟩,h6⟩:=h;refine⟨h1,h2,h3,fun y hy hf=>?_,h5,fun j i hj=>?_⟩
 ·show X.env.scope.names.lookup y.1=_∨X.env.scope.names.lookup y.1=_;rw[ho];exact h4 y hy hf
 ·have hlt:j<caps.length:=(Xa.mp hj).1;have q:=h6 j (Vd.mpr hlt);rw[hj]at q;cases e:N[k+j]? with
  | none=>rw[e]at q;cases q
  | some x =>
   rw[e]at q;have q':(decide (ON[i]?=some x)&&decide (scope.names.lookup x=some .free))=true:=q;simp only[Wg,decide_eq_true_eq]at q';exact⟨x,rfl,by rw[hN];exact q'.1,q'.2⟩
theorem aR (h:H p=none) (o:HO):Same H (upd H p o):=fun b u q=>by rw[aF (aU q h)];exact q
theorem vo {xs:List α} {i:Int} (h0:0<=i) (h1:i<xs.length):∃v,atI xs i=some v/\v∈xs/\xs[i.toNat]?=some v:=by
 have hk:i.toNat<xs.length:=by lia
 have ek:i=((i.toNat:Nat):Int):=by lia
 refine⟨xs[i.toNat],?_,Qh hk,Za hk⟩;have q:atI xs ((i.toNat:Nat):Int)=some xs[i.toNat]:=nQ (Za hk);rw[← ek]at q;exact q
end L2
namespace L2
open PySem PySem.Spec PyProof.Rows
section
variable {X:Cx}
theorem mulOk_of {x:Str} (h0:0<=n) (hn:n<=1000) (hx:x.length<=1000):MulOk x n:=by
 have hx':(x.length:Int)<=1000:=by lia
 have hm:(x.length:Int)*n<=1000*1000:=Int.mul_le_mul hx' hn h0 (by decide)
 have hm2:x.length*n.toNat<=1000*1000:=Wm hx (by lia)
 refine⟨?_,fun h1 _=>?_,fun h1 h2=>?_⟩
 ·rw[Ae (by lia),Ae (by lia)];rfl
 ·have:(x.length:Int)<=(2 ^ 63-1) / n:=(Int.le_ediv_iff_mul_le (by lia)).mpr (Int.le_trans hm (by decide))
  lia
 ·unfold Builtin.Str.tooLong;have:=t8 (Va 1000);exact Ae (by rw[BW];lia)
theorem qS:OpR X (binaryOp .Mult) (fun x y H Q=>∃(a:Str) (n:Int),x=.str a/\y=.int n/\MulOk a n/\Q (.str (Txt.mul a n)) H):=by
 intro pins s σ H x y v u Q I rx ry h;obtain⟨a,n,rfl,rfl,hok,q⟩:=h;obtain⟨t,rfl⟩:=rx;obtain⟨t',rfl⟩:=ry;exact SB.mul hok fun t2 k=>⟨.str _,H,I.tok k,⟨t2,rfl⟩,q⟩
theorem D5 (hu:X.A.units<cLine):OpR X (compareOp .NotEq) (fun x y H Q=>∃(a b:Addr) (xs:List V),x=.ref a/\y=.ref b/\SqL X.K H a xs/\SqL X.K H b []/\Q (.bl (!xs.isEmpty)) H):=by
 intro pins s σ H x y v u Q I rx ry h;obtain⟨a,b,xs,rfl,rfl,ha,hb,q⟩:=h;cases rx;cases ry;obtain⟨its,r,pl,_⟩:=I.list ha;obtain⟨its2,r2,pl2,_⟩:=I.list hb;cases r2;cases xs with
 | nil =>
  cases r;exact SeqAt.RcNeAt.lists (e:=fun _=>true) pl.isList pl2.isList rfl hu (fun j h1 _=>absurd h1 (by simp)) _ _ _ _ ⟨.bl _,H,I,rfl,q⟩
 | cons x1 xr =>
  cases r;exact CL pl.isList pl2.isList (by simp) hu _ _ _ _ ⟨.bl _,H,I,rfl,q⟩
end
theorem aE {X:Cx} {K:Ab} (h:X.K=K):IxR X (rIx K):=h ▸ DQ
end L2
namespace VF
open PySem L2
abbrev AS:=Addr->Prop
theorem bsP {α β γ:Type} {o:Option (α×β)} {f:α×β->Option γ} {z:γ} {P:Prop} (h:o.bind f=some z) (k:∀a b,o=some (a,b)->f (a,b)=some z->P):P:=by
 obtain⟨⟨a,b⟩,e,h⟩:=Option.bind_eq_some_iff.mp h;exact k a b e h
theorem bsO {α γ:Type} {o:Option α} {f:α->Option γ} {z:γ} {P:Prop} (h:o.bind f=some z) (k:∀a,o=some a->f a=some z->P):P:=by
 obtain⟨a,e,h⟩:=Option.bind_eq_some_iff.mp h;exact k a e h
theorem aD {i:Decidable c} (h:(if c then x else none)=some z):c/\x=some z:=by simp_all
abbrev U (O Z:AS):AS:=fun p=>O p∨Z p
abbrev ins (p:Addr) (O:AS):AS:=fun b=>b=p∨O b
inductive D where
 | non|bl (b:Bool)|int (i:Int)|str (x:Str)|tup (ds:List D)|lst (ds:List D)|fl (ds:List D)|ty (n:String)|dk (kvs:List (Key×D))|dt (kvs:List (List Key×D))
def TupA (K:Ab) (Y:AS) (H:Hp) (a:Addr) (vs:List V):Prop:=H a=some (.tup vs)/\¬ Y a
def LstA (K:Ab) (Y:AS) (H:Hp) (a:Addr) (vs:List V):Prop:=(Rd H a (.lst vs)/\¬ Y a)∨∀H',SqL K H' a vs
theorem TupA.sq (h:TupA K Y H a vs):SqT K H a vs:=.inl (.inl h.1)
theorem LstA.sq (h:LstA K Y H a vs):SqL K H a vs:=by
 rcases h with h|h
 ·exact .inl h.1
 ·exact h H
def KA (Y:AS) (H:Hp) (as:List Addr):Prop:=∀b∈as,¬ Y b/\H b≠none
theorem KA.go (h:KA Y H as) (k:∀b o,H b=some o->¬ Y b->H' b=some o) (n:∀b,Y' b->Y b∨H b=none):KA Y' H' as:=fun b hb=>by
 obtain⟨h1,h2⟩:=h b hb;refine⟨fun z=>(n b z).elim h1 h2,?_⟩;cases e:H b with
 | none=>exact absurd e h2
 | some o=>rw[k b o e h1];simp
theorem KA.less (h:KA Y H as) (n:∀b,Y' b->Y b):KA Y' H as:=fun b hb=>⟨fun z=>(h b hb).1 (n b z),(h b hb).2⟩
inductive DA (K:Ab) (Y:AS) (H:Hp):V->D->Prop where
 | non:DA K Y H .non .non
 | bl (b:Bool):DA K Y H (.bl b) (.bl b)
 | int (i:Int):DA K Y H (.int i) (.int i)
 | str (x:Str):DA K Y H (.str x) (.str x)
 | tup {a:Addr} {vs:List V} {ds:List D}:TupA K Y H a vs->vs.length=ds.length->(∀(i:Nat) v d,vs[i]?=some v->ds[i]?=some d->DA K Y H v d)->DA K Y H (.ref a) (.tup ds)
 | ty (n:String):DA K Y H (.ty n) (.ty n)
 | lst {a:Addr} {vs:List V} {ds:List D}:¬ Y a->H a=some (.lst vs)->vs.length=ds.length->(∀(i:Nat) v d,vs[i]?=some v->ds[i]?=some d->DA K Y H v d)->DA K Y H (.ref a) (.lst ds)
 | fl {a:Addr} {vs:List V} {ds:List D}:LstA K Y H a vs->vs.length=ds.length->(∀(i:Nat) v d,vs[i]?=some v->ds[i]?=some d->DA K Y H v d)->DA K Y H (.ref a) (.fl ds)
 | dk {a:Addr} {kvs:List (Key×V)} {ds:List (Key×D)}:¬ Y a->H a=some (.dK kvs)->kvs.map (·.1)=ds.map (·.1)->(∀(i:Nat) v d,kvs[i]?=some v->ds[i]?=some d->DA K Y H v.2 d.2)->DA K Y H (.ref a) (.dk ds)
 | dt {a:Addr} {ep:Nat×List Addr} {kvs:List (List Key×V)} {ds:List (List Key×D)}:¬ Y a->KA Y H ep.2->H a=some (.dT ep kvs)->kvs.map (·.1)=ds.map (·.1)->(∀(i:Nat) v d,kvs[i]?=some v->ds[i]?=some d->DA K Y H v.2 d.2)->DA K Y H (.ref a) (.dt ds)
def El (K:Ab) (Y:AS) (H:Hp) (vs:List V) (ds:List D):Prop:=vs.length=ds.length/\∀(i:Nat) v d,vs[i]?=some v->ds[i]?=some d->DA K Y H v d
def Lv (H:Hp) (p:Addr):Prop:=H p≠none/\∀vs,H p≠some (.tup vs)
theorem Lv.same (h:Lv H p) (s:∀o,H p=some o->H' p=some o):Lv H' p:=by
 cases e:H p with
 | none=>exact absurd e h.1
 | some o =>
  refine⟨by rw[s o e];simp,fun vs z=>h.2 vs ?_⟩
  rw[s o e]at z;rw[e];exact z
structure Ext (O:AS) (H:Hp) (O':AS) (H':Hp):Prop where
 kp:∀b o,H b=some o->¬ O b->H' b=some o
 nw:∀b,O' b->O b∨H b=none
 al:∀b,H b≠none->H' b≠none
 lv:∀b,Lv H b->Lv H' b
section
variable {K:Ab} {Y Y' O O' O1 O2 Z:AS} {H H' H1 H2:Hp} {v:V} {d:D} {vs:List V} {ds:List D} {a p:Addr}
theorem Ext.refl (O:AS) (H:Hp):Ext O H O H:=⟨fun _ _ h _=>h,fun _ h=>.inl h,fun _ h=>h,fun _ h=>h⟩
theorem Ext.trans (a:Ext O H O1 H1) (b:Ext O1 H1 O2 H2):Ext O H O2 H2:=by
 refine⟨fun c o h n=>b.kp c o (a.kp c o h n) fun z=>?_,fun c h=>?_,fun c h=>b.al c (a.al c h),fun c h=>b.lv c (a.lv c h)⟩
 ·rcases a.nw c z with q|q
  ·exact n q
  ·rw[h]at q;cases q
 ·rcases b.nw c h with q|q
  ·exact a.nw c q
  ·right;cases e:H c with
   | none=>rfl
   | some o=>exact absurd q (a.al c (by rw[e];simp))
theorem Same.ext (h:Same H H'):Ext O H O H':=⟨fun b o e _=>h b o e,fun _ z=>.inl z,fun b z=>by
 cases e:H b with
 | none=>exact absurd e z
 | some o=>rw[h b o e];simp,fun b z=>z.same fun o e=>h b o e⟩
theorem Rd.keep (r:Rd H a u) (k:∀o,H a=some o->H' a=some o):Rd H' a u:=by
 rcases r with r|⟨o,r⟩
 ·exact .inl (k _ r)
 ·exact .inr ⟨o,k _ r⟩
theorem Rd.live (r:Rd H a u):H a≠none:=by
 rcases r with r|⟨o,r⟩<;>(rw[r];simp)
theorem TupA.go (h:TupA K Y H a vs) (k:∀b o,H b=some o->¬ Y b->H' b=some o) (n:∀b,Y' b->Y b∨H b=none):TupA K Y' H' a vs:=by grind [TupA]
theorem LstA.go (h:LstA K Y H a vs) (k:∀b o,H b=some o->¬ Y b->H' b=some o) (n:∀b,Y' b->Y b∨H b=none):LstA K Y' H' a vs:=by
 rcases h with⟨h1,h2⟩|h
 ·refine .inl ⟨Rd.keep h1 fun o e=>k a o e h2,fun z=>?_⟩;rcases n a z with q|q
  ·exact h2 q
  ·exact Rd.live h1 q
 ·exact .inr h
theorem DA.go (h:DA K Y H v d) (k:∀b o,H b=some o->¬ Y b->H' b=some o) (n:∀b,Y' b->Y b∨H b=none):DA K Y' H' v d:=by
 have no:∀a u,H a=some u->¬ Y a->¬ Y' a:=fun a u e ny z=>by
  rcases n a z with q|q
  ·exact ny q
  ·rw[e]at q;cases q
 induction h with
 | non=>exact .non
 | bl b=>exact .bl b
 | int i=>exact .int i
 | str x=>exact .str x
 | tup h1 h2 _ ih=>exact .tup (h1.go k n) h2 ih
 | ty n=>exact .ty n
 | lst h0 h1 h2 _ ih=>exact .lst (no _ _ h1 h0) (k _ _ h1 h0) h2 ih
 | fl h1 h2 _ ih=>exact .fl (h1.go k n) h2 ih
 | dk h0 h1 h2 _ ih=>exact .dk (no _ _ h1 h0) (k _ _ h1 h0) h2 ih
 | dt h0 ka h1 h2 _ ih=>exact .dt (no _ _ h1 h0) (ka.go k n) (k _ _ h1 h0) h2 ih
theorem DA.ext (h:DA K (U O Z) H v d) (e:Ext O H O' H'):DA K (U O' Z) H' v d :=
 h.go (fun b o q n=>e.kp b o q fun z=>n (.inl z)) fun b z=>z.elim (fun q=>(e.nw b q).elim (fun x=>.inl (.inl x)) .inr) fun q=>.inl (.inr q)
theorem DA.less (h:DA K Y H v d) (n:∀b,Y' b->Y b):DA K Y' H v d:=h.go (fun _ _ e _=>e) fun b z=>.inl (n b z)
theorem DA.same (h:DA K Y H v d) (s:Same H H'):DA K Y H' v d:=h.go (fun b o e _=>s b o e) fun _ z=>.inl z
theorem DA.away (h:DA K Y H v d) (s:Same H H') (hp:H p=none):DA K (ins p Y) H' v d:=h.go (fun b o e _=>s b o e) fun b z=>z.elim (fun q=>.inr (q ▸ hp)) .inl
theorem El.go (h:El K Y H vs ds) (k:∀b o,H b=some o->¬ Y b->H' b=some o) (n:∀b,Y' b->Y b∨H b=none):El K Y' H' vs ds:=⟨h.1,fun i v d a b=>(h.2 i v d a b).go k n⟩
theorem El.ext (h:El K (U O Z) H vs ds) (e:Ext O H O' H'):El K (U O' Z) H' vs ds:=⟨h.1,fun i v d a b=>(h.2 i v d a b).ext e⟩
theorem El.less (h:El K Y H vs ds) (n:∀b,Y' b->Y b):El K Y' H vs ds:=⟨h.1,fun i v d a b=>(h.2 i v d a b).less n⟩
theorem El.same (h:El K Y H vs ds) (s:Same H H'):El K Y H' vs ds:=⟨h.1,fun i v d a b=>(h.2 i v d a b).same s⟩
theorem El.away (h:El K Y H vs ds) (s:Same H H') (hp:H p=none):El K (ins p Y) H' vs ds:=⟨h.1,fun i v d a b=>(h.2 i v d a b).away s hp⟩
theorem El.nil:El K Y H [] []:=⟨rfl,fun i v d h=>by simp at h⟩
theorem El.cons (h:DA K Y H v d) (r:El K Y H vs ds):El K Y H (v::vs) (d::ds):=by grind [El]
theorem El.uncons (h:El K Y H vs (d::ds)):∃v r,vs=v::r/\DA K Y H v d/\El K Y H r ds:=by
 cases vs with
 | nil=>have:=h.1;simp at this
 | cons v r =>
  refine⟨v,r,rfl,h.2 0 v d rfl rfl,?_,fun i v' d' h1 h2=>h.2 (i+1) v' d' (by simpa using h1) (by simpa using h2)⟩
  have:=h.1;simpa using this
theorem El.unnil (h:El K Y H vs []):vs=[]:=by
 have:=h.1;simpa using this
theorem El.app (h:El K Y H vs ds) (r:El K Y H ws es):El K Y H (vs++ws) (ds++es):=by grind [El]
theorem El.at (h:El K Y H vs ds) {i:Nat} {d:D} (e:ds[i]?=some d):∃v,vs[i]?=some v/\DA K Y H v d:=by
 have hi:i<ds.length:=(Xa.mp e).1;have hv:i<vs.length:=by rw[h.1];exact hi
 exact⟨vs[i],Za hv,h.2 i _ d (Za hv) e⟩
theorem El.one (h:DA K Y H v d):El K Y H [v] [d]:=El.cons h El.nil
theorem El.rev (h:El K Y H vs ds):El K Y H vs.reverse ds.reverse:=by grind [El]
theorem El.take (h:El K Y H vs ds) (n:Nat):El K Y H (vs.take n) (ds.take n):=by grind [El]
theorem El.drop (h:El K Y H vs ds) (n:Nat):El K Y H (vs.drop n) (ds.drop n):=by
 refine⟨by simp[h.1],fun i v d h1 h2=>?_⟩
 rw[Qf]at h1 h2;exact h.2 _ v d h1 h2
theorem El.set (h:El K Y H vs ds) (hv:DA K Y H v d) (j:Nat):El K Y H (vs.set j v) (ds.set j d):=by grind [El]
theorem El.erase (h:El K Y H vs ds) (j:Nat):El K Y H (vs.eraseIdx j) (ds.eraseIdx j):=by grind [El]
def OA (K:Ab) (Y:AS) (H:Hp) (p:Addr):D->Prop
 | .lst ds=>∃vs,H p=some (.lst vs)/\El K Y H vs ds
 | .dk ds=>∃kvs,H p=some (.dK kvs)/\kvs.map (·.1)=ds.map (·.1)/\∀(i:Nat) v d,kvs[i]?=some v->ds[i]?=some d->DA K Y H v.2 d.2
 | .dt ds=>∃ep kvs,KA Y H ep.2/\H p=some (.dT ep kvs)/\kvs.map (·.1)=ds.map (·.1)/\∀(i:Nat) v d,kvs[i]?=some v->ds[i]?=some d->DA K Y H v.2 d.2
 | _=>False
theorem OA.live (h:OA K Y H p d):H p≠none:=by
 cases d with
 | lst ds=>obtain⟨vs,e,_⟩:=h;rw[e];simp
 | dk ds=>obtain⟨vs,e,_⟩:=h;rw[e];simp
 | dt ds=>obtain⟨_,vs,_,e,_⟩:=h;rw[e];simp
 | _=>exact h.elim
theorem OA.lv (h:OA K Y H p d):Lv H p:=by
 cases d with
 | lst ds=>obtain⟨vs,e,_⟩:=h;exact⟨by rw[e];simp,fun _ z=>by rw[e]at z;cases z⟩
 | dk ds=>obtain⟨vs,e,_⟩:=h;exact⟨by rw[e];simp,fun _ z=>by rw[e]at z;cases z⟩
 | dt ds=>obtain⟨_,vs,_,e,_⟩:=h;exact⟨by rw[e];simp,fun _ z=>by rw[e]at z;cases z⟩
 | _=>exact h.elim
theorem OA.go (h:OA K Y H p d) (hp:H' p=H p) (k:∀b o,H b=some o->¬ Y b->H' b=some o) (n:∀b,Y' b->Y b∨H b=none):OA K Y' H' p d:=by
 cases d with
 | lst ds=>obtain⟨vs,e,q⟩:=h;exact⟨vs,hp.trans e,q.go k n⟩
 | dk ds=>obtain⟨vs,e,q1,q2⟩:=h;exact⟨vs,hp.trans e,q1,fun i v d a b=>(q2 i v d a b).go k n⟩
 | dt ds=>obtain⟨ep,vs,ka,e,q1,q2⟩:=h;exact⟨ep,vs,ka.go k n,hp.trans e,q1,fun i v d a b=>(q2 i v d a b).go k n⟩
 | _=>exact h.elim
theorem OA.da (h:OA K Y H p d) (hp:¬ Y' p) (n:∀b,Y' b->Y b):DA K Y' H (.ref p) d:=by
 cases d with
 | lst ds=>obtain⟨vs,e,q⟩:=h;exact .lst hp e q.1 (q.less n).2
 | dk ds=>obtain⟨vs,e,q1,q2⟩:=h;exact .dk hp e q1 fun i v d a b=>(q2 i v d a b).less n
 | dt ds=>obtain⟨ep,vs,ka,e,q1,q2⟩:=h;exact .dt hp (ka.less n) e q1 fun i v d a b=>(q2 i v d a b).less n
 | _=>exact h.elim
def BA (K:Ab) (Y:AS) (H:Hp) (v:V):D->Prop
 | .non=>v=.non
 | .bl b=>v=.bl b
 | .int i=>v=.int i
 | .str x=>v=.str x
 | .tup ds=>∃a vs,v=.ref a/\TupA K Y H a vs/\El K Y H vs ds
 | .ty n=>v=.ty n
 | .lst ds=>∃a vs,v=.ref a/\H a=some (.lst vs)/\El K Y H vs ds
 | .fl ds=>∃a vs,v=.ref a/\LstA K Y H a vs/\El K Y H vs ds
 | .dk ds=>∃a kvs,v=.ref a/\H a=some (.dK kvs)/\kvs.map (·.1)=ds.map (·.1)/\∀(i:Nat) v d,kvs[i]?=some v->ds[i]?=some d->DA K Y H v.2 d.2
 | .dt ds=>∃a ep kvs,v=.ref a/\KA Y H ep.2/\H a=some (.dT ep kvs)/\kvs.map (·.1)=ds.map (·.1)/\∀(i:Nat) v d,kvs[i]?=some v->ds[i]?=some d->DA K Y H v.2 d.2
theorem DA.ba (h:DA K Y H v d):BA K Y H v d:=by
 cases h with
 | non=>rfl
 | bl b=>rfl
 | int i=>rfl
 | str x=>rfl
 | tup h1 h2 h3=>exact⟨_,_,rfl,h1,h2,h3⟩
 | ty n=>rfl
 | lst h0 h1 h2 h3=>exact⟨_,_,rfl,h1,h2,h3⟩
 | fl h1 h2 h3=>exact⟨_,_,rfl,h1,h2,h3⟩
 | dk h0 h1 h2 h3=>exact⟨_,_,rfl,h1,h2,h3⟩
 | dt h0 ka h1 h2 h3=>exact⟨_,_,_,rfl,ka,h1,h2,h3⟩
theorem OA.ba (h:OA K Y H p d):BA K Y H (.ref p) d:=by
 cases d with
 | lst ds=>obtain⟨vs,e,q⟩:=h;exact⟨p,vs,rfl,e,q⟩
 | dk ds=>obtain⟨vs,e,q1,q2⟩:=h;exact⟨p,vs,rfl,e,q1,q2⟩
 | dt ds=>obtain⟨ep,vs,ka,e,q1,q2⟩:=h;exact⟨p,ep,vs,rfl,ka,e,q1,q2⟩
 | _=>exact h.elim
end
end VF
namespace VF
open PySem L2
inductive Sl where
 | e|v (d:D)|o (d:D)|io (d:D)
abbrev En:=List Sl
def Sl.get:Sl->Option D
 | .e=>none
 | .v d=>some d
 | .o d=>some d
 | .io d=>some d
def Sl.ow:Sl->Option D
 | .o d=>some d
 | .io d=>some d
 | _=>none
def Sl.put (y:D):Sl->Sl
 | .io _=>.io y
 | _=>.o y
theorem Sl.put_ow (y:D) (s:Sl):(s.put y).ow=some y:=by cases s<;>rfl
theorem Sl.put_v (y z:D) (s:Sl):s.put y≠.v z:=by cases s<;>(intro e;cases e)
inductive Rs where
 | d (x:D)|f (x:D)|s (i:Nat)
structure ER (K:Ab) (st:En) (σ:St) (H:Hp) (O Z:AS):Prop where
 len:st.length=σ.length
 val:∀(i:Nat) d,st[i]?=some (.v d)->∃v,σ[i]?=some (some v)/\DA K (U O Z) H v d
 own:∀(i:Nat) s d,st[i]?=some s->s.ow=some d->∃p,σ[i]?=some (some (.ref p))/\O p/\OA K (U O Z) H p d
 uni:∀(i j:Nat) s t d d' p,st[i]?=some s->s.ow=some d->st[j]?=some t->t.ow=some d'->σ[i]?=some (some (.ref p))->σ[j]?=some (some (.ref p))->i=j
 dis:∀p,O p->¬ Z p
 liv:∀p,U O Z p->Lv H p
structure Kp (st st':En):Prop where
 len:st'.length=st.length
 has:∀(i:Nat) s,st[i]?=some s->s.get≠none->∃s',st'[i]?=some s'/\s'.get≠none
 io:∀(i:Nat) d,st[i]?=some (.io d)->∃d',st'[i]?=some (.io d')
theorem Kp.refl (st:En):Kp st st:=⟨rfl,fun i s h g=>⟨s,h,g⟩,fun i d h=>⟨d,h⟩⟩
theorem Kp.trans (x:Kp a b) (y:Kp b c):Kp a c:=by
 refine⟨y.len.trans x.len,fun i s h g=>?_,fun i d h=>?_⟩
 ·obtain⟨s',h',g'⟩:=x.has i s h g;exact y.has i s' h' g'
 ·obtain⟨d',h'⟩:=x.io i d h;exact y.io i d' h'
def RVal (K:Ab) (Z:AS) (st:En) (σ:St) (H:Hp) (O:AS) (v:V):Rs->Prop
 | .d x=>DA K (U O Z) H v x
 | .f x=>∃p,v=.ref p/\¬ O p/\¬ Z p/\OA K (ins p (U O Z)) H p x/\ER K st σ H (ins p O) Z
 | .s i=>σ[i]?=some (some v)/\∃s,st[i]?=some s/\s.get≠none
def cont (st:En):Rs->Option D
 | .d x=>some x
 | .f x=>some x
 | .s i=>(st[i]?).bind Sl.get
def Rs.nf:Rs->Rs
 | .f x=>.d x
 | r=>r
section
variable {K:Ab} {Y Y' O O' O1 O2 Z:AS} {H H' H1 H2:Hp} {v:V} {d:D} {vs:List V} {ds:List D} {a p:Addr} {st st' st1 st2:En} {σ σ':St}
theorem fF (st:En) (r:Rs):cont st r.nf=cont st r:=by cases r<;>rfl
theorem RVal.nf {r:Rs} (h:RVal K Z st σ H O v r):RVal K Z st σ H O v r.nf:=by
 cases r with
 | d x=>exact h
 | s i=>exact h
 | f x =>
  obtain⟨p,rfl,h1,h2,h3,_⟩:=h;exact h3.da (fun z=>z.elim h1 h2) fun b z=>.inr z
theorem RVal.ba (h:RVal K Z st σ H O v r) (E:ER K st σ H O Z) (c:cont st r=some d):BA K (U O Z) H v d:=by
 cases r with
 | d x=>cases c;exact DA.ba h
 | f x =>
  cases c;have:=RVal.nf h;exact DA.ba (show DA K (U O Z) H v _ from this)
 | s i =>
  obtain⟨h1,s,h2,h3⟩:=h;have c':(st[i]?).bind Sl.get=some d:=c;rw[h2]at c';cases s with
  | e=>cases c'
  | v x =>
   cases c';obtain⟨u,g1,g2⟩:=E.val i _ h2;rw[h1]at g1;cases g1;exact g2.ba
  | o x =>
   cases c';obtain⟨p,g1,g2,g3⟩:=E.own i _ _ h2 rfl;rw[h1]at g1;cases g1;exact g3.ba
  | io x =>
   cases c';obtain⟨p,g1,g2,g3⟩:=E.own i _ _ h2 rfl;rw[h1]at g1;cases g1;exact g3.ba
theorem RVal.ext {r:Rs} (h:RVal K Z st σ H O v r.nf) (e:Ext O H O' H') (k:Kp st st'):RVal K Z st' σ H' O' v r.nf:=by
 cases r with
 | d x=>exact DA.ext (show DA K (U O Z) H v x from h) e
 | f x=>exact DA.ext (show DA K (U O Z) H v x from h) e
 | s i =>
  obtain⟨h1,s,h2,h3⟩:=h;exact⟨h1,k.has i s h2 h3⟩
theorem ER.same (E:ER K st σ H O Z) (s:Same H H'):ER K st σ H' O Z:=by
 refine⟨E.len,fun i d h=>?_,fun i s' d h1 h2=>?_,E.uni,E.dis,fun p hp=>?_⟩
 ·obtain⟨v,h1,h2⟩:=E.val i d h;exact⟨v,h1,h2.same s⟩
 ·obtain⟨p,g1,g2,g3⟩:=E.own i s' d h1 h2;refine⟨p,g1,g2,g3.go ?_ (fun b o e _=>s b o e) fun b z=>.inl z⟩;cases e:H p with
  | none=>exact absurd e g3.live
  | some o=>exact s p o e
 ·exact(E.liv p hp).same fun o e=>s p o e
theorem ER.away (E:ER K st σ H O Z) (s:Same H H') (hp:H p=none) (hp':Lv H' p):ER K st σ H' (ins p O) Z:=by
 have sub:∀b,U (ins p O) Z b->ins p (U O Z) b:=fun b z=>by
  rcases z with(z|z)|z
  ·exact .inl z
  ·exact .inr (.inl z)
  ·exact .inr (.inr z)
 refine⟨E.len,fun i d h=>?_,fun i s' d h1 h2=>?_,E.uni,fun q hq=>?_,fun q hq=>?_⟩
 ·obtain⟨v,h1,h2⟩:=E.val i d h;exact⟨v,h1,(h2.away s hp).less sub⟩
 ·obtain⟨q,g1,g2,g3⟩:=E.own i s' d h1 h2;refine⟨q,g1,.inr g2,g3.go ?_ (fun b o e _=>s b o e) fun b z=>?_⟩
  ·cases e:H q with
   | none=>exact absurd e g3.live
   | some o=>exact s q o e
  ·rcases sub b z with z|z
   ·exact .inr (z ▸ hp)
   ·exact .inl z
 ·rcases hq with rfl|hq
  ·exact fun z=>(E.liv _ (.inr z)).1 hp
  ·exact E.dis q hq
 ·rcases hq with(rfl|hq)|hq
  ·exact hp'
  ·exact(E.same s).liv q (.inl hq)
  ·exact(E.same s).liv q (.inr hq)
theorem ER.free (E:ER K st σ H O Z) (hp:H p=none):¬ O p/\¬ Z p:=⟨fun z=>(E.liv p (.inl z)).1 hp,fun z=>(E.liv p (.inr z)).1 hp⟩
theorem ER.new (E:ER K st σ H O Z) (hp:H p=none) (el:El K (U O Z) H vs ds):ER K st σ (upd H p (.lst vs)) O Z/\RVal K Z st σ (upd H p (.lst vs)) O (.ref p) (.f (.lst ds)):=by
 have s:=aR hp (.lst vs);have hf:=E.free hp;refine⟨E.same s,p,rfl,hf.1,hf.2,⟨vs,aM,el.away s hp⟩,E.away s hp ⟨by rw[aM];simp,fun _ z=>by rw[aM]at z;cases z⟩⟩
theorem ER.newT (E:ER K st σ H O Z) (hp:H p=none) (el:El K (U O Z) H vs ds):ER K st σ (upd H p (.tup vs)) O Z/\RVal K Z st σ (upd H p (.tup vs)) O (.ref p) (.d (.tup ds)):=by
 have s:=aR hp (.tup vs);have hf:=E.free hp;exact⟨E.same s,.tup ⟨aM,fun z=>z.elim hf.1 hf.2⟩ el.1 (el.same s).2⟩
def pz (st:En) (i:Nat):Option En:=match st[i]? with
 | some (.v _)=>some st
 | some (.o d)=>some (st.set i (.v d))
 | _=>none
def vp (st:En):Rs->Option En
 | .s i=>pz st i
 | _=>some st
theorem aj {l:List α} (h:i≠j):(l.set i x)[j]?=l[j]?:=by rw[Vj,Ah h]
theorem aI {l:List α} (h:l[i]?=some y):(l.set i x)[i]?=some x:=by
 have hi:=(Xa.mp h).1;rw[Vj,Af rfl,Af hi]
theorem sx (h:pz st i=some st'):Kp st st'/\∃d,st'[i]?=some (.v d)/\(st[i]?).bind Sl.get=some d:=by
 unfold pz at h;split at h
 ·rename_i d e
  cases h;exact⟨Kp.refl st,d,e,by rw[e];rfl⟩
 ·rename_i d e
  cases h;refine⟨⟨by simp,fun j s hj g=>?_,fun j d' hj=>?_⟩,d,aI e,by rw[e];rfl⟩
  ·by_cases q:i=j
   ·subst q;exact⟨.v d,aI e,by simp[Sl.get]⟩
   ·exact⟨s,by rw[aj q];exact hj,g⟩
  ·have q:i≠j:=fun z=>by subst z;rw[e]at hj;cases hj
   exact⟨d',by rw[aj q];exact hj⟩
 ·cases h
theorem ER.frz (E:ER K st σ H O Z) (h:pz st i=some st'):∃O',Ext O H O' H/\ER K st' σ H O' Z/\(∀b,O' b->O b):=by
 unfold pz at h;split at h
 ·cases h;exact⟨O,Ext.refl O H,E,fun _ z=>z⟩
 ·rename_i d e
  cases h;obtain⟨p,g1,g2,g3⟩:=E.own i _ _ e rfl;have less:∀b,U (fun b=>O b/\b≠p) Z b->U O Z b:=fun b z=>z.elim (fun q=>.inl q.1) .inr;refine⟨fun b=>O b/\b≠p,⟨fun b o q _=>q,fun b z=>.inl z.1,fun b z=>z,fun b z=>z⟩,⟨by simp[E.len],fun j x hj=>?_,fun j s x hj hs=>?_,fun j k s t x y q hj hs hk ht e1 e2=>?_,fun q hq=>E.dis q hq.1,fun q hq=>E.liv q (less q hq)⟩,fun b z=>z.1⟩
  ·by_cases q:i=j
   ·subst q;rw[aI e]at hj;cases hj;exact⟨.ref p,g1,g3.da (fun z=>z.elim (fun y=>y.2 rfl) (E.dis p g2)) less⟩
   ·rw[aj q]at hj;obtain⟨v,h1,h2⟩:=E.val j x hj;exact⟨v,h1,h2.less less⟩
  ·have q:i≠j:=fun z=>by
    subst z;rw[aI e]at hj;cases hj;cases hs
   rw[aj q]at hj;obtain⟨r,h1,h2,h3⟩:=E.own j s x hj hs;refine⟨r,h1,⟨h2,fun z=>q ?_⟩,h3.go rfl (fun _ _ e _=>e) fun b z=>.inl (less b z)⟩;subst z;exact E.uni i j _ _ _ _ r e rfl hj hs g1 h1
  ·have q1:i≠j:=fun z=>by
    subst z;rw[aI e]at hj;cases hj;cases hs
   have q2:i≠k:=fun z=>by
    subst z;rw[aI e]at hk;cases hk;cases ht
   rw[aj q1]at hj;rw[aj q2]at hk;exact E.uni j k s t x y q hj hs hk ht e1 e2
 ·cases h
theorem RVal.frz (h:RVal K Z st σ H O v r) (E:ER K st σ H O Z) (f:vp st r=some st') (c:cont st r=some d):∃O',Ext O H O' H/\Kp st st'/\ER K st' σ H O' Z/\DA K (U O' Z) H v d:=by
 cases r with
 | d x=>cases f;cases c;exact⟨O,Ext.refl O H,Kp.refl st,E,h⟩
 | f x=>cases f;cases c;exact⟨O,Ext.refl O H,Kp.refl st,E,RVal.nf h⟩
 | s i =>
  obtain⟨h1,s,h2,h3⟩:=h;have f':pz st i=some st':=f;obtain⟨k,x,k1,k2⟩:=sx f';obtain⟨O',e1,e2,_⟩:=E.frz f';have c':(st[i]?).bind Sl.get=some d:=c;have ex:x=d:=Option.some.inj (k2.symm.trans c');subst ex;obtain⟨u,g1,g2⟩:=e2.val i _ k1;rw[h1]at g1;cases g1;exact⟨O',e1,k,e2,g2⟩
theorem ER.write {s:Sl} (E:ER K st σ H O Z) (hs:st[i]?=some s) (ho:s.ow=some x) (hp:σ[i]?=some (some (.ref p))) (new:OA K (U O Z) (upd H p o) p y) :
  ER K (st.set i (s.put y)) σ (upd H p o) O Z/\Ext O H O (upd H p o)/\Kp st (st.set i (s.put y)):=by
 obtain⟨q,g1,g2,g3⟩:=E.own i s x hs ho;have eq:q=p:=by rw[hp]at g1;cases g1;rfl
 subst eq;have keep:∀b u,H b=some u->¬ U O Z b->upd H q o b=some u:=fun b u e n=>by
  have hb:b≠q:=fun z=>n (.inl (by rw[z];exact g2))
  rw[aF hb];exact e
 refine⟨⟨by simp[E.len],fun j d hj=>?_,fun j t d hj ht=>?_,fun j k t t' d d' r hj ht hk ht' e1 e2=>?_,E.dis,fun r hr=>?_⟩,⟨fun b u e n=>?_,fun b z=>.inl z,fun b z=>?_,fun b z=>?_⟩,⟨by simp,fun j t hj ht=>?_,fun j d hj=>?_⟩⟩
 ·by_cases e:i=j
  ·subst e;rw[aI hs]at hj;exact absurd (Option.some.inj hj) (Sl.put_v _ _ _)
  ·rw[aj e]at hj;obtain⟨v,h1,h2⟩:=E.val j d hj;exact⟨v,h1,h2.go keep fun b z=>.inl z⟩
 ·by_cases e:i=j
  ·subst e;rw[aI hs]at hj;have:=Option.some.inj hj;subst this;rw[Sl.put_ow]at ht;cases ht;exact⟨q,hp,g2,new⟩
  ·rw[aj e]at hj;obtain⟨r,h1,h2,h3⟩:=E.own j t d hj ht;have hne:r≠q:=fun z=>by subst z;exact e (E.uni i j s t x d r hs ho hj ht hp h1)
   exact⟨r,h1,h2,h3.go (aF hne) keep fun b z=>.inl z⟩
 ·have own':∀(m:Nat) (t:Sl) (d:D),(st.set i (s.put y))[m]?=some t->t.ow=some d->∃t2 d2,st[m]?=some t2/\t2.ow=some d2:=fun m t d hm ht=>by
   by_cases e:i=m
   ·subst e;exact⟨s,x,hs,ho⟩
   ·rw[aj e]at hm;exact⟨t,d,hm,ht⟩
  obtain⟨t1,d1,a1,b1⟩:=own' j t d hj ht;obtain⟨t2,d2,a2,b2⟩:=own' k t' d' hk ht';exact E.uni j k t1 t2 d1 d2 r a1 b1 a2 b2 e1 e2
 ·by_cases e:r=q
  ·subst e;exact new.lv
  ·exact(E.liv r hr).same fun o' eo=>by rw[aF e];exact eo
 ·have hb:b≠q:=fun z=>n (by rw[z];exact g2)
  rw[aF hb];exact e
 ·by_cases e:b=q
  ·subst e;rw[aM];simp
  ·rw[aF e];exact z
 ·by_cases e:b=q
  ·subst e;exact new.lv
  ·exact z.same fun o' eo=>by rw[aF e];exact eo
 ·by_cases e:i=j
  ·subst e;exact⟨s.put y,aI hs,by cases s<;>simp[Sl.put,Sl.get]⟩
  ·exact⟨t,by rw[aj e];exact hj,ht⟩
 ·by_cases e:i=j
  ·subst e;rw[hs]at hj;cases hj;exact⟨y,aI hs⟩
  ·exact⟨d,by rw[aj e];exact hj⟩
end
end VF
namespace VF
open PySem L2
abbrev FE:=En->Option (Rs×En)
abbrev FA:=En->Option (List Rs×En)
abbrev FT:=En->Option (Bool×En)
abbrev Rz:=D×Bool
def mk:Rz->Rs
 | (d,true)=>.f d
 | (d,false)=>.d d
def RES (K:Ab) (Y:AS) (H H':Hp) (v:V):Rz->Prop
 | (d,true)=>∃p,v=.ref p/\H p=none/\OA K (ins p Y) H' p d
 | (d,false)=>DA K Y H' v d
def Fsh (H:Hp) (v:V):Rs->Prop
 | .f _=>∀p,v=.ref p->H p=none
 | _=>True
theorem Ext.dead (e:Ext O H O' H') (h:H' p=none):H p=none:=by
 cases q:H p with
 | none=>rfl
 | some o=>exact absurd h (e.al p (by rw[q];simp))
theorem Fsh.back (h:Fsh H' v r) (e:Ext O H O' H'):Fsh H v r:=by
 cases r with
 | f x=>exact fun p hp=>e.dead (h p hp)
 | d x=>trivial
 | s i=>trivial
def RdE (K:Ab) (te:TE) (f:FE):Prop:=∀(st:En) (σ:St) (H:Hp) (O Z:AS) (Q:VK),ER K st σ H O Z->∀r st',f st=some (r,st') ->
 (∀v H' O',Ext O H O' H'->Kp st st'->ER K st' σ H' O' Z->RVal K Z st' σ H' O' v r->Fsh H v r->Q v H')->te σ H Q
inductive RVs (K:Ab) (Z:AS) (st:En) (σ:St) (H:Hp) (O:AS):List V->List Rs->Prop where
 | nil:RVs K Z st σ H O [] []
 | cons {v:V} {vs:List V} {r:Rs} {rs:List Rs}:RVal K Z st σ H O v r.nf->RVs K Z st σ H O vs rs->RVs K Z st σ H O (v::vs) (r::rs)
def RdA (K:Ab) (ta:TA) (f:FA):Prop:=∀(st:En) (σ:St) (H:Hp) (O Z:AS) (Q:List V->Hp->Prop),ER K st σ H O Z->∀rs st',f st=some (rs,st') ->
 (∀vs H' O',Ext O H O' H'->Kp st st'->ER K st' σ H' O' Z->RVs K Z st' σ H' O' vs rs->Q vs H')->ta σ H Q
def RdT (K:Ab) (tt:TT) (f:FT):Prop:=∀(st:En) (σ:St) (H:Hp) (O Z:AS) (Q:Bool->Hp->Prop),ER K st σ H O Z->∀c st',f st=some (c,st') ->
 (∀H' O',Ext O H O' H'->Kp st st'->ER K st' σ H' O' Z->Q c H')->tt σ H Q
def RdOp (K:Ab) (r:R2) (b:D->D->Option Rz):Prop:=∀(Y:AS) (H:Hp) (x y:V) (d1 d2:D) (z:Rz) (Q:VK),(∀p,Y p->Lv H p)->BA K Y H x d1->BA K Y H y d2->b d1 d2=some z ->
 (∀v H',Same H H'->RES K Y H H' v z->Q v H')->r x y H Q
def Gf (K:Ab) (r:V->Hp->VK->Prop) (b:D->Option Rz):Prop:=∀(Y:AS) (H:Hp) (x:V) (d1:D) (z:Rz) (Q:VK),(∀p,Y p->Lv H p)->BA K Y H x d1->b d1=some z ->
 (∀v H',Same H H'->RES K Y H H' v z->Q v H')->r x H Q
inductive BAs (K:Ab) (Y:AS) (H:Hp):List V->List D->Prop where
 | nil:BAs K Y H [] []
 | cons {v:V} {vs:List V} {d:D} {ds:List D}:BA K Y H v d->BAs K Y H vs ds->BAs K Y H (v::vs) (d::ds)
def RdCB (K:Ab) (r:List V->Hp->VK->Prop) (b:List D->Option Rz):Prop:=∀(Y:AS) (H:Hp) (xs:List V) (ds:List D) (z:Rz) (Q:VK),(∀p,Y p->Lv H p)->BAs K Y H xs ds->b ds=some z ->
 (∀v H',Same H H'->RES K Y H H' v z->Q v H')->r xs H Q
section
variable {K:Ab} {Y Y' O O' O1 O2 Z:AS} {H H' H1 H2:Hp} {v:V} {d:D} {vs:List V} {ds:List D} {a p:Addr} {st st' st1 st2:En} {σ σ':St}
theorem RES.rv (E:ER K st σ H O Z) (s:Same H H') (h:RES K (U O Z) H H' v z):ER K st σ H' O Z/\RVal K Z st σ H' O v (mk z):=by
 obtain⟨d,fr⟩:=z;cases fr with
 | false=>exact⟨E.same s,h⟩
 | true =>
  obtain⟨p,rfl,hp,ho⟩:=h;have hf:=E.free hp;exact⟨E.same s,p,rfl,hf.1,hf.2,ho,E.away s hp ho.lv⟩
theorem RES.fsh (h:RES K Y H H' v z):Fsh H v (mk z):=by
 obtain⟨d,fr⟩:=z;cases fr with
 | false=>trivial
 | true=>obtain⟨p,rfl,hp,_⟩:=h;exact fun q e=>by cases e;exact hp
theorem RVs.ext (h:RVs K Z st σ H O vs rs) (e:Ext O H O' H') (k:Kp st st'):RVs K Z st' σ H' O' vs rs:=by
 induction h with
 | nil=>exact .nil
 | cons h1 _ ih=>exact .cons (h1.ext e k) ih
def bT (st:En):List Rs->Option (List D)
 | []=>some []
 | r::rs=>(cont st r).bind fun d=>(bT st rs).bind fun ds=>some (d::ds)
theorem RVs.bas (h:RVs K Z st σ H O vs rs) (E:ER K st σ H O Z):∀{ds:List D},bT st rs=some ds->BAs K (U O Z) H vs ds:=by
 induction h with
 | nil=>intro ds e;cases e;exact .nil
 | @cons v vs r rs h1 _ ih =>
  intro ds e;refine bsO e fun d e1 e=>?_;refine bsO e fun ds' e2 e=>?_;cases e;exact .cons (h1.ba E (by rw[fF];exact e1)) (ih e2)
def cW:List Rs->En->Option (List D×En)
 | [],st=>some ([],st)
 | r::rs,st=>(cont st r).bind fun d=>(vp st r).bind fun st1=>(cW rs st1).bind fun x=>some (d::x.1,x.2)
theorem yd (st:En) (r:Rs):vp st r.nf=vp st r:=by cases r<;>rfl
theorem RVs.esc:∀{rs:List Rs} {vs:List V} {st:En} {O:AS} {ds:List D} {st':En},RVs K Z st σ H O vs rs->ER K st σ H O Z->cW rs st=some (ds,st')->∃O',Ext O H O' H/\Kp st st'/\ER K st' σ H O' Z/\El K (U O' Z) H vs ds
 | [],_,st,O,ds,st',.nil,E,e=>by cases e;exact⟨O,Ext.refl O H,Kp.refl _,E,El.nil⟩
 | r::rs,_,st,O,ds,st',.cons h1 h2,E,e=>by
  refine bsO e fun d e1 e=>?_;refine bsO e fun st1 e2 e=>?_;refine bsP e fun ds2 st2 e3 e=>?_;cases e;obtain⟨O1,x1,k1,E1,da⟩:=h1.frz E (by rw[yd];exact e2) (by rw[fF];exact e1)
  obtain⟨O2,x2,k2,E2,el⟩:=RVs.esc (h2.ext x1 k1) E1 e3;exact⟨O2,x1.trans x2,k1.trans k2,E2,El.cons (da.ext x2) el⟩
def aJ (i:Nat):FE:=fun st=>match st[i]? with
 | some (.v d)=>some (.d d,st)
 | some (.o _)=>some (.s i,st)
 | some (.io _)=>some (.s i,st)
 | _=>none
theorem aa (i:Nat):RdE K (gc i) (aJ i):=by
 intro st σ H O Z Q E r st' h q;unfold aJ at h;split at h
 ·rename_i d e
  cases h;obtain⟨v,h1,h2⟩:=E.val i d e;exact⟨v,h1,q v H O (Ext.refl O H) (Kp.refl _) E h2 True.intro⟩
 ·rename_i d e
  cases h;obtain⟨p,h1,h2,h3⟩:=E.own i _ _ e rfl;exact⟨.ref p,h1,q _ H O (Ext.refl O H) (Kp.refl _) E ⟨h1,_,e,by simp[Sl.get]⟩ True.intro⟩
 ·rename_i d e
  cases h;obtain⟨p,h1,h2,h3⟩:=E.own i _ _ e rfl;exact⟨.ref p,h1,q _ H O (Ext.refl O H) (Kp.refl _) E ⟨h1,_,e,by simp[Sl.get]⟩ True.intro⟩
 ·cases h
def fC (d:D):FE:=fun st=>some (.d d,st)
theorem vq (h:∀Y H,DA K Y H v d):RdE K (tC v) (fC d):=by
 intro st σ H O Z Q E r st' e q;cases e;exact q v H O (Ext.refl O H) (Kp.refl _) E (h _ _) True.intro
theorem ai (i:Int):RdE K (tC (.int i)) (fC (.int i)):=vq fun _ _=>.int i
theorem jY (b:Bool):RdE K (tC (.bl b)) (fC (.bl b)):=vq fun _ _=>.bl b
def fOp (b:D->D->Option Rz) (fa fb:FE):FE:=fun st=>(fa st).bind fun x=>(fb x.2).bind fun y=>(cont y.2 x.1).bind fun d1=>(cont y.2 y.1).bind fun d2=>(b d1 d2).bind fun z=>some (mk z,y.2)
theorem ag (hr:RdOp K r b) (ha:RdE K ta fa) (hb:RdE K tb fb):RdE K (tOp r ta tb) (fOp b fa fb):=by
 intro st σ H O Z Q E r' st' h q;refine bsP h fun r1 st1 e1 h=>?_;refine bsP h fun r2 st2 e2 h=>?_;refine bsO h fun d1 e3 h=>?_;refine bsO h fun d2 e4 h=>?_;refine bsO h fun z e5 h=>?_;cases h;refine ha st σ H O Z _ E r1 st1 e1 fun v1 H1 O1 x1 k1 E1 rv1 w1=>?_;refine hb st1 σ H1 O1 Z _ E1 r2 st2 e2 fun v2 H2 O2 x2 k2 E2 rv2 w2=>?_;have b1:=(rv1.nf.ext x2 k2).ba E2 (by rw[fF];exact e3)
 refine hr (U O2 Z) H2 v1 v2 d1 d2 z _ E2.liv b1 (rv2.ba E2 e4) e5 fun v H3 s hres=>?_;obtain⟨E3,rv3⟩:=hres.rv E2 s;exact q v H3 O2 ((x1.trans x2).trans (Same.ext s)) (k1.trans k2) E3 rv3 (hres.fsh.back (x1.trans x2))
def fUn (b:D->Option Rz) (fa:FE):FE:=fun st=>(fa st).bind fun x=>(cont x.2 x.1).bind fun d1=>(b d1).bind fun z=>some (mk z,x.2)
theorem pA (hr:Gf K r b) (ha:RdE K ta fa):RdE K (tUn r ta) (fUn b fa):=by
 intro st σ H O Z Q E r' st' h q;refine bsP h fun r1 st1 e1 h=>?_;refine bsO h fun d1 e3 h=>?_;refine bsO h fun z e5 h=>?_;cases h;refine ha st σ H O Z _ E r1 st1 e1 fun v1 H1 O1 x1 k1 E1 rv1 w1=>?_;refine hr (U O1 Z) H1 v1 d1 z _ E1.liv (rv1.ba E1 e3) e5 fun v H3 s hres=>?_;obtain⟨E3,rv3⟩:=hres.rv E1 s;exact q v H3 O1 (x1.trans (Same.ext s)) k1 E3 rv3 (hres.fsh.back x1)
def tru (st:En) (r:Rs):Option Bool:=match cont st r with
 | some (.bl c)=>some c
 | _=>none
theorem zz (E:ER K st σ H O Z) (h:RVal K Z st σ H O v r) (t:tru st r=some c):v=.bl c:=by
 unfold tru at t;split at t
 ·rename_i b e
  cases t;exact h.ba E e
 ·cases t
def aT (fa:FE):FT:=fun st=>(fa st).bind fun x=>(tru x.2 x.1).bind fun c=>some (c,x.2)
theorem bj (ha:RdE K ta fa):RdT K (u6 ta) (aT fa):=by
 intro st σ H O Z Q E c st' h q;refine bsP h fun r1 st1 e1 h=>?_;refine bsO h fun c' e2 h=>?_;cases h;exact ha st σ H O Z _ E r1 st1 e1 fun v1 H1 O1 x1 k1 E1 rv1 w1=>⟨c,zz E1 rv1 e2,q H1 O1 x1 k1 E1⟩
theorem jZ (ha:RdE K ta fa):RdT K (tB ta) (aT fa):=bj ha
def j6 (f:FT):FT:=fun st=>(f st).bind fun x=>some (!x.1,x.2)
theorem iX (h:RdT K t f):RdT K (FY t) (j6 f):=by
 intro st σ H O Z Q E c st' e q;refine bsP e fun c1 st1 e1 e=>?_;cases e;exact h st σ H O Z _ E c1 st1 e1 q
def iY (f g:FT):FT:=fun st=>(f st).bind fun x=>if x.1=true then g x.2 else some (false,x.2)
theorem sy (h:RdT K t f) (h':RdT K u g):RdT K (FX t u) (iY f g):=by
 intro st σ H O Z Q E c st' e q;refine bsP e fun c1 st1 e1 e=>?_;refine h st σ H O Z _ E c1 st1 e1 fun H1 O1 x1 k1 E1=>?_;cases c1 with
 | true =>
  rw[Af rfl]at e ⊢;exact h' st1 σ H1 O1 Z _ E1 c st' e fun H2 O2 x2 k2 E2=>q H2 O2 (x1.trans x2) (k1.trans k2) E2
 | false =>
  simp only[Ze,if_false]at e ⊢;cases e;exact q H1 O1 x1 k1 E1
def ud (f g:FT):FT:=fun st=>(f st).bind fun x=>if x.1=true then some (true,x.2) else g x.2
theorem qT (h:RdT K t f) (h':RdT K u g):RdT K (tOr t u) (ud f g):=by
 intro st σ H O Z Q E c st' e q;refine bsP e fun c1 st1 e1 e=>?_;refine h st σ H O Z _ E c1 st1 e1 fun H1 O1 x1 k1 E1=>?_;cases c1 with
 | true =>
  rw[Af rfl]at e ⊢;cases e;exact q H1 O1 x1 k1 E1
 | false =>
  simp only[Ze,if_false]at e ⊢;exact h' st1 σ H1 O1 Z _ E1 c st' e fun H2 O2 x2 k2 E2=>q H2 O2 (x1.trans x2) (k1.trans k2) E2
def gp:FT:=fun st=>some (true,st)
theorem iy:RdT K Ge gp:=by
 intro st σ H O Z Q E c st' e q;cases e;exact q H O (Ext.refl O H) (Kp.refl _) E
def g8 (fa fb:FE):FE:=fun st=>(fa st).bind fun x=>(tru x.2 x.1).bind fun c=>if c=true then fb x.2 else some (.d (.bl false),x.2)
theorem iZ (ha:RdE K ta fa) (hb:RdE K tb fb):RdE K (zn ta tb) (g8 fa fb):=by
 intro st σ H O Z Q E r st' h q;refine bsP h fun r1 st1 e1 h=>?_;refine bsO h fun c e2 h=>?_;refine ha st σ H O Z _ E r1 st1 e1 fun v1 H1 O1 x1 k1 E1 rv1 w1=>⟨c,zz E1 rv1 e2,?_⟩;cases c with
 | true =>
  rw[Af rfl]at h ⊢;exact hb st1 σ H1 O1 Z _ E1 r st' h fun v H2 O2 x2 k2 E2 rv w2=>q v H2 O2 (x1.trans x2) (k1.trans k2) E2 rv (w2.back x1)
 | false =>
  rw[Ah (by decide)]at h ⊢
  cases h;exact q _ H1 O1 x1 k1 E1 (.bl false) True.intro
def aq:FA:=fun st=>some ([],st)
theorem af:RdA K kZ aq:=by
 intro st σ H O Z Q E rs st' e q;cases e;exact q [] H O (Ext.refl O H) (Kp.refl _) E .nil
def ad (fa:FE) (fr:FA):FA:=fun st=>(fa st).bind fun x=>(fr x.2).bind fun y=>some (x.1::y.1,y.2)
theorem ac (ha:RdE K ta fa) (hr:RdA K tr fr):RdA K (dm ta tr) (ad fa fr):=by
 intro st σ H O Z Q E rs st' h q;refine bsP h fun r1 st1 e1 h=>?_;refine bsP h fun rs2 st2 e2 h=>?_;cases h;refine ha st σ H O Z _ E r1 st1 e1 fun v1 H1 O1 x1 k1 E1 rv1 w1=>?_;refine hr st1 σ H1 O1 Z _ E1 rs2 st2 e2 fun vs H2 O2 x2 k2 E2 rvs=>?_;exact q (v1::vs) H2 O2 (x1.trans x2) (k1.trans k2) E2 (.cons (rv1.nf.ext x2 k2) rvs)
theorem few (h:n<=1000000):n<=sizeLine:=Qd h (by decide)
def ff (fa:FA):FE:=fun st=>(fa st).bind fun x=>(cW x.1 x.2).bind fun y=>if y.1.length<=1000000 then some (.d (.tup y.1),y.2) else none
theorem cH (ha:RdA K ta fa):RdE K (F7 ta) (ff fa):=by
 intro st σ H O Z Q E r st' h q;refine bsP h fun rs st1 e1 h=>?_;refine bsP h fun ds st2 e2 h=>?_;refine ha st σ H O Z _ E rs st1 e1 fun vs H1 O1 x1 k1 E1 rvs=>?_;obtain⟨O2,x2,k2,E2,el⟩:=rvs.esc E1 e2;obtain⟨hz,h⟩:=aD h;cases h;refine⟨by rw[el.1];exact few hz,fun p hp=>?_⟩
 obtain⟨E3,rv⟩:=E2.newT hp el;exact q _ _ O2 ((x1.trans x2).trans (Same.ext (aR hp _))) (k1.trans k2) E3 rv True.intro
def eI (fa:FA):FE:=fun st=>(fa st).bind fun x=>(cW x.1 x.2).bind fun y=>if y.1.length<=1000000 then some (.f (.lst y.1),y.2) else none
theorem cf (ha:RdA K ta fa):RdE K (u7 ta) (eI fa):=by
 intro st σ H O Z Q E r st' h q;refine bsP h fun rs st1 e1 h=>?_;refine bsP h fun ds st2 e2 h=>?_;refine ha st σ H O Z _ E rs st1 e1 fun vs H1 O1 x1 k1 E1 rvs=>?_;obtain⟨O2,x2,k2,E2,el⟩:=rvs.esc E1 e2;obtain⟨hz,h⟩:=aD h;cases h;refine⟨by rw[el.1];exact few hz,fun p hp=>?_⟩
 obtain⟨E3,rv⟩:=E2.new hp el;exact q _ _ O2 ((x1.trans x2).trans (Same.ext (aR hp _))) (k1.trans k2) E3 rv fun p' e=>by cases e;exact(x1.trans x2).dead hp
def fCB (b:List D->Option Rz) (fa:FA):FE:=fun st=>(fa st).bind fun x=>(bT x.2 x.1).bind fun ds=>(b ds).bind fun z=>some (mk z,x.2)
theorem bz (hr:RdCB K r b) (ha:RdA K ta fa):RdE K (tCB r ta) (fCB b fa):=by
 intro st σ H O Z Q E r0 st' h q;refine bsP h fun rs st1 e1 h=>?_;refine bsO h fun ds e2 h=>?_;refine bsO h fun z e3 h=>?_;cases h;refine ha st σ H O Z _ E rs st1 e1 fun vs H1 O1 x1 k1 E1 rvs=>?_;refine hr (U O1 Z) H1 vs ds z _ E1.liv (rvs.bas E1 e2) e3 fun v H3 s hres=>?_;obtain⟨E3,rv3⟩:=hres.rv E1 s;exact q v H3 O1 (x1.trans (Same.ext s)) k1 E3 rv3 (hres.fsh.back x1)
end
end VF
namespace VF
open PySem L2
def D.isSc:D->Bool
 | .non=>true
 | .bl _=>true
 | .int _=>true
 | .str _=>true
 | .ty _=>true
 | _=>false
def spV (K:Ab) (g:List D->Option Rz):Sp:=fun vs H Q _=>∃(Z:AS) (ds:List D) (z:Rz),El K Z H vs ds/\(∀p,Z p->Lv H p)/\g ds=some z/\∀v H',Same H H'->RES K Z H H' v z->Q v H'
def G6 (K:Ab) (Y:AS) (f:Addr) (x':D) (H H':Hp) (v:V):Rz->Prop
 | (d,true)=>∃p,v=.ref p/\H p=none/\OA K (ins p Y) H' p d/\OA K (ins p Y) H' f x'
 | (d,false)=>DA K Y H' v d/\OA K Y H' f x'
def pB (K:Ab) (g:D->List D->Option (Rz×D)):Sp:=fun vs H Q _=>∃(f:Addr) (ws:List V) (Z:AS) (x:D) (ds:List D) (z:Rz) (x':D),vs=.ref f::ws/\¬ Z f/\OA K (ins f Z) H f x/\El K (ins f Z) H ws ds/\(∀p,Z p->Lv H p)/\g x ds=some (z,x') /\
 ∀v H',(∀b o,H b=some o->b≠f->H' b=some o)->G6 K (ins f Z) f x' H H' v z->Q v H'
section
variable {K:Ab} {Y Y' O O' O1 O2 Z:AS} {H H' H1 H2:Hp} {v:V} {d:D} {vs:List V} {ds:List D} {a p:Addr} {st st' st1 st2:En} {σ σ':St}
def dr (g:List D->Option Rz) (fa:FA):FE:=fun st=>(fa st).bind fun x=>(cW x.1 x.2).bind fun y=>(g y.1).bind fun z=>some (mk z,y.2)
theorem cq (ha:RdA K ta fa):RdE K (px (spV K g) ta) (dr g fa):=by
 intro st σ H O Z Q E r0 st' h q;refine bsP h fun rs st1 e1 h=>?_;refine bsP h fun ds st2 e2 h=>?_;refine bsO h fun z e3 h=>?_;cases h;refine ha st σ H O Z _ E rs st1 e1 fun vs H1 O1 x1 k1 E1 rvs=>?_;obtain⟨O2,x2,k2,E2,el⟩:=rvs.esc E1 e2;refine⟨U O2 Z,ds,z,el,E2.liv,e3,fun v H3 s hres=>?_⟩;obtain⟨E3,rv3⟩:=hres.rv E2 s;exact q v H3 O2 ((x1.trans x2).trans (Same.ext s)) (k1.trans k2) E3 rv3 (hres.fsh.back (x1.trans x2))
theorem RVal.da0 (h:RVal K Z st σ H O v r) (E:ER K st σ H O Z) (c:cont st r=some d):DA K (fun _=>False) H v d:=by
 cases r with
 | d x=>cases c;exact DA.less (show DA K (U O Z) H v d from h) fun b z=>z.elim
 | f x=>cases c;exact DA.less (show DA K (U O Z) H v d from RVal.nf h) fun b z=>z.elim
 | s i =>
  obtain⟨h1,s,h2,h3⟩:=h;have c':(st[i]?).bind Sl.get=some d:=c;rw[h2]at c';cases s with
  | e=>cases c'
  | v x =>
   cases c';obtain⟨u,g1,g2⟩:=E.val i _ h2;rw[h1]at g1;cases g1;exact g2.less fun b z=>z.elim
  | o x =>
   cases c';obtain⟨p,g1,g2,g3⟩:=E.own i _ _ h2 rfl;rw[h1]at g1;cases g1;exact g3.da (fun z=>z) fun b z=>z.elim
  | io x =>
   cases c';obtain⟨p,g1,g2,g3⟩:=E.own i _ _ h2 rfl;rw[h1]at g1;cases g1;exact g3.da (fun z=>z) fun b z=>z.elim
theorem RVs.el0 (h:RVs K Z st σ H O vs rs) (E:ER K st σ H O Z):∀{ds:List D},bT st rs=some ds->El K (fun _=>False) H vs ds:=by
 induction h with
 | nil=>intro ds e;cases e;exact El.nil
 | @cons v vs r rs h1 _ ih =>
  intro ds e;refine bsO e fun d e1 e=>?_;refine bsO e fun ds' e2 e=>?_;cases e;exact El.cons (h1.da0 E (by rw[fF];exact e1)) (ih e2)
theorem DA.sc (h:DA K Y H v d) (s:d.isSc=true):DA K Y' H' v d:=by
 cases h with
 | non=>exact .non
 | bl b=>exact .bl b
 | int i=>exact .int i
 | str x=>exact .str x
 | ty n=>exact .ty n
 | _=>cases s
def dI (g:List D->Option Rz) (fa:FA):FE:=fun st=>(fa st).bind fun x=>(bT x.2 x.1).bind fun ds=>(g ds).bind fun z=>if (z.1.isSc&&!z.2)=true then some (.d z.1,x.2) else none
theorem dJ (ha:RdA K ta fa):RdE K (px (spV K g) ta) (dI g fa):=by
 intro st σ H O Z Q E r0 st' h q;refine bsP h fun rs st1 e1 h=>?_;refine bsO h fun ds e2 h=>?_;refine bsP h fun dz fr e3 h=>?_;obtain⟨hc,h⟩:=aD h;cases h;have h1:dz.isSc=true/\fr=false:=by simpa using hc
 obtain⟨h1,rfl⟩:=h1;refine ha st σ H O Z _ E rs _ e1 fun vs H1 O1 x1 k1 E1 rvs=>?_;refine⟨fun _=>False,ds,(dz,false),rvs.el0 E1 e2,fun p z=>z.elim,e3,fun v H3 s hres=>?_⟩;exact q v H3 O1 (x1.trans (Same.ext s)) k1 (E1.same s) (DA.sc (show DA K (fun _=>False) H3 v dz from hres) h1) True.intro
theorem pC {s:Sl} (E:ER K st σ H O Z) (hs:st[i]?=some s) (hx:s.ow=some x) (hv:σ[i]?=some (some v)) (el:El K (U O Z) H ws ds) (hg:g x ds=some (z,x'))
  (q:∀v H' O',Ext O H O' H'->Kp st (st.set i (s.put x'))->ER K (st.set i (s.put x')) σ H' O' Z->RVal K Z (st.set i (s.put x')) σ H' O' v (mk z)->Fsh H v (mk z)->Q v H'):pB K g (v::ws) H Q XE:=by
 obtain⟨p,g1,g2,g3⟩:=E.own i s x hs hx;have ev:v=.ref p:=by rw[hv]at g1;cases g1;rfl
 subst ev;have a1:∀b,ins p (fun b=>U O Z b/\b≠p) b->U O Z b:=fun b z=>z.elim (fun q=>by rw[q];exact .inl g2) fun q=>q.1
 have a2:∀b,U O Z b->ins p (fun b=>U O Z b/\b≠p) b:=fun b z=>by
  by_cases e:b=p
  ·exact .inl e
  ·exact .inr ⟨z,e⟩
 refine⟨p,ws,fun b=>U O Z b/\b≠p,x,ds,z,x',rfl,fun z=>z.2 rfl,g3.go rfl (fun _ _ e _=>e) (fun b z=>.inl (a1 b z)),el.less a1,fun b z=>E.liv b z.1,hg,fun u H' kp hres=>?_⟩;have ho:OA K (ins p fun b=>U O Z b/\b≠p) H' p x':=by
  obtain⟨dz,fr⟩:=z;cases fr with
  | false=>exact hres.2
  | true=>obtain⟨r,_,_,_,h⟩:=hres;exact h.go rfl (fun _ _ e _=>e) fun b z=>.inl (.inr z)
 have kp':∀b o,H b=some o->¬ U O Z b->H' b=some o:=fun b o e n=>kp b o e fun z=>n (by rw[z];exact .inl g2)
 have al:∀b,H b≠none->H' b≠none:=fun b hb=>by
  by_cases e:b=p
  ·rw[e];exact ho.live
  ·cases eb:H b with
   | none=>exact absurd eb hb
   | some o=>rw[kp b o eb e];simp
 have al':∀b,Lv H b->Lv H' b:=fun b hb=>by
  by_cases e:b=p
  ·rw[e];exact ho.lv
  ·exact hb.same fun o eb=>kp b o eb e
 have ex:Ext O H O H':=⟨fun b o e n=>kp b o e fun z=>n (by rw[z];exact g2),fun b z=>.inl z,al,al'⟩
 have ho':OA K (U O Z) H' p x':=ho.go rfl (fun _ _ e _=>e) fun b z=>.inl (a2 b z);have mkE:∀(O2:AS),(∀b,O b->O2 b)->(∀b,O2 b->O b∨H b=none)->(∀b,O2 b->¬ Z b)->(∀b,O2 b->Lv H' b)->OA K (U O2 Z) H' p x'->ER K (st.set i (s.put x')) σ H' O2 Z:=fun O2 up dn ds lv ho2=>by
  have nn:∀b,U O2 Z b->U O Z b∨H b=none:=fun b z=>z.elim (fun y=>(dn b y).elim (fun w=>.inl (.inl w)) .inr) fun y=>.inl (.inr y);refine⟨by simp[E.len],fun j d hj=>?_,fun j t d hj ht=>?_,fun j k t t' d d' r hj ht hk ht' e1 e2=>?_,ds,fun r hr=>hr.elim (lv r) fun y=>al' r (E.liv r (.inr y))⟩
  ·by_cases e:i=j
   ·subst e;rw[aI hs]at hj;exact absurd (Option.some.inj hj) (Sl.put_v _ _ _)
   ·rw[aj e]at hj;obtain⟨v,h1,h2⟩:=E.val j d hj;exact⟨v,h1,h2.go kp' nn⟩
  ·by_cases e:i=j
   ·subst e;rw[aI hs]at hj;have:=Option.some.inj hj;subst this;rw[Sl.put_ow]at ht;cases ht;exact⟨p,g1,up p g2,ho2⟩
   ·rw[aj e]at hj;obtain⟨r,h1,h2,h3⟩:=E.own j t d hj ht;have hne:r≠p:=fun z=>by subst z;exact e (E.uni i j s t x d r hs hx hj ht g1 h1)
    refine⟨r,h1,up r h2,h3.go ?_ kp' nn⟩;cases er:H r with
    | none=>exact absurd er h3.live
    | some o=>exact kp r o er hne
  ·have own':∀(m:Nat) (t:Sl) (d:D),(st.set i (s.put x'))[m]?=some t->t.ow=some d->∃t2 d2,st[m]?=some t2/\t2.ow=some d2:=fun m t d hm ht=>by
    by_cases e:i=m
    ·subst e;exact⟨s,x,hs,hx⟩
    ·rw[aj e]at hm;exact⟨t,d,hm,ht⟩
   obtain⟨t1,d1,a1,b1⟩:=own' j t d hj ht;obtain⟨t2,d2,a2,b2⟩:=own' k t' d' hk ht';exact E.uni j k t1 t2 d1 d2 r a1 b1 a2 b2 e1 e2
 have kk:Kp st (st.set i (s.put x')):=by
  refine⟨by simp,fun j t hj ht=>?_,fun j d hj=>?_⟩
  ·by_cases e:i=j
   ·subst e;exact⟨s.put x',aI hs,by cases s<;>simp[Sl.put,Sl.get]⟩
   ·exact⟨t,by rw[aj e];exact hj,ht⟩
  ·by_cases e:i=j
   ·subst e;rw[hs]at hj;cases hj;exact⟨x',aI hs⟩
   ·exact⟨d,by rw[aj e];exact hj⟩
 have E':=mkE O (fun _ z=>z) (fun _ z=>.inl z) E.dis (fun b z=>al' b (E.liv b (.inl z))) ho';refine q u H' O ex kk E' ?_ ?_
 rotate_left
 ·obtain⟨dz,fr⟩:=z;cases fr with
  | false=>trivial
  | true=>obtain⟨r,rfl,hr,_⟩:=hres;exact fun q e=>by cases e;exact hr
 obtain⟨dz,fr⟩:=z;cases fr with
 | false=>exact DA.less (show DA K _ H' u dz from hres.1) a2
 | true =>
  obtain⟨r,rfl,hr,hor,hof⟩:=hres;have hf:=E.free hr;have a3:∀b,ins r (U O Z) b->ins r (ins p fun b=>U O Z b/\b≠p) b:=fun b z=>z.elim .inl fun y=>.inr (a2 b y);refine⟨r,rfl,hf.1,hf.2,hor.go rfl (fun _ _ e _=>e) (fun b z=>.inl (a3 b z)),mkE (ins r O) (fun _ z=>.inr z) (fun b z=>z.elim (fun y=>.inr (by rw[y];exact hr)) .inl) (fun b z=>z.elim (fun y=>by rw[y];exact hf.2) (E.dis b)) (fun b z=>z.elim (fun y=>by rw[y];exact hor.lv) fun y=>al' b (E.liv b (.inl y))) ?_⟩
  exact hof.go rfl (fun _ _ e _=>e) fun b z=>.inl (a3 b (z.elim (fun y=>y.elim .inl fun w=>.inr (.inl w)) fun y=>.inr (.inr y)))
def fIO (g:D->List D->Option (Rz×D)) (i:Nat) (fr:FA):FE:=fun st=>(st[i]?).bind fun s0=>(s0.ow).bind fun _=>(fr st).bind fun x=>(cW x.1 x.2).bind fun y=>(y.2[i]?).bind fun s=>(s.ow).bind fun d=>(g d y.1).bind fun z=>some (mk z.1,y.2.set i (s.put z.2))
theorem fX (hr:RdA K tr fr):RdE K (px (pB K g) (dm (gc i) tr)) (fIO g i fr):=by
 intro st σ H O Z Q E r0 st' h q;refine bsO h fun s0 f1 h=>?_;refine bsO h fun x0 f2 h=>?_;refine bsP h fun rs st1 e1 h=>?_;refine bsP h fun ds st2 e2 h=>?_;refine bsO h fun s e3 h=>?_;refine bsO h fun x e4 h=>?_;refine bsP h fun z x' e5 h=>?_;cases h;obtain⟨p,g1,_,_⟩:=E.own i s0 x0 f1 f2;refine⟨.ref p,g1,?_⟩;refine hr st σ H O Z _ E rs st1 e1 fun vs H1 O1 x1 k1 E1 rvs=>?_;obtain⟨O2,x2,k2,E2,el⟩:=rvs.esc E1 e2;exact pC E2 e3 e4 g1 el e5 fun v H' O' ex kk E' rv w=>q v H' O' ((x1.trans x2).trans ex) ((k1.trans k2).trans kk) E' rv (w.back (x1.trans x2))
end
end VF
namespace VF
open PySem L2
structure Kq (st:En) (σ:St) (st':En) (σ':St):Prop where
 len:st'.length=st.length
 io:∀(i:Nat) d,st[i]?=some (.io d)->σ'[i]?=σ[i]?/\∃d',st'[i]?=some (.io d')
theorem Kq.refl (st:En) (σ:St):Kq st σ st σ:=⟨rfl,fun i d h=>⟨rfl,d,h⟩⟩
theorem Kq.trans (h:Kq a x b y) (g:Kq b y c z):Kq a x c z:=by
 refine⟨g.len.trans h.len,fun i d e=>?_⟩;obtain⟨e1,d1,e2⟩:=h.io i d e;obtain⟨e3,d2,e4⟩:=g.io i d1 e2;exact⟨e3.trans e1,d2,e4⟩
theorem Kp.kq (k:Kp st st'):Kq st σ st' σ:=⟨k.len,fun i d h=>⟨rfl,k.io i d h⟩⟩
abbrev FG:=D->En->Option En
def RdG (K:Ab) (g:TG) (fg:FG) (tg:List Nat):Prop:=∀(st:En) (σ:St) (H:Hp) (O Z:AS) (x:V) (d:D) (Q:St->Hp->Prop),ER K st σ H O Z->DA K (U O Z) H x d->∀st',fg d st=some st' ->
 (∀σ',(∀j,j∉tg->σ'[j]?=σ[j]?/\st'[j]?=st[j]?)->Kq st σ st' σ'->ER K st' σ' H O Z->Q σ' H)->g x σ H Q
def Sl.isIo:Sl->Bool
 | .io _=>true
 | _=>false
def lp (i:Nat) (s:Sl) (st:En):Option En:=(st[i]?).bind fun t=>if t.isIo=true then none else some (st.set i s)
section
variable {K:Ab} {Y Y' O O' O1 O2 Z:AS} {H H' H1 H2:Hp} {v:V} {d:D} {vs:List V} {ds:List D} {a p:Addr} {st st' st1 st2:En} {σ σ':St}
theorem kB (h:lp i s st=some st'):∃t,st[i]?=some t/\t.isIo=false/\st'=st.set i s:=by grind [lp]
theorem nY {s t:Sl} (e:st[i]?=some t) (n:t.isIo=false):Kq st σ (st.set i s) (σ.set i w):=by
 refine⟨by simp,fun j d h=>?_⟩
 have q:i≠j:=fun z=>by subst z;rw[e]at h;cases h;cases n
 exact⟨aj q,d,by rw[aj q];exact h⟩
theorem ER.asg (E:ER K st σ H O Z) (e:st[i]?=some t) (h:DA K (U O Z) H v d):ER K (st.set i (.v d)) (σ.set i (some v)) H O Z:=by
 have hi:i<σ.length:=by rw[← E.len];exact(Xa.mp e).1
 have sg:(σ.set i (some v))[i]?=some (some v):=by rw[Vj,Af rfl,Af hi]
 have ne:∀(j:Nat) s x,(st.set i (.v d))[j]?=some s->s.ow=some x->i≠j/\st[j]?=some s:=fun j s x h1 h2=>by
  by_cases q:i=j
  ·subst q;rw[aI e]at h1;cases h1;cases h2
  ·exact⟨q,by rw[aj q]at h1;exact h1⟩
 refine⟨by simp[E.len],fun j x hj=>?_,fun j s x h1 h2=>?_,fun j k s s' x x' r h1 h2 h3 h4 h5 h6=>?_,E.dis,E.liv⟩
 ·by_cases q:i=j
  ·subst q;rw[aI e]at hj;cases hj;exact⟨v,sg,h⟩
  ·rw[aj q]at hj;obtain⟨w,g1,g2⟩:=E.val j x hj;exact⟨w,by rw[aj q];exact g1,g2⟩
 ·obtain⟨q,h1⟩:=ne j s x h1 h2;obtain⟨r,g1,g2⟩:=E.own j s x h1 h2;exact⟨r,by rw[aj q];exact g1,g2⟩
 ·obtain⟨q1,h1⟩:=ne j s x h1 h2;obtain⟨q2,h3⟩:=ne k s' x' h3 h4;rw[aj q1]at h5;rw[aj q2]at h6;exact E.uni j k s s' x x' r h1 h2 h3 h4 h5 h6
theorem ER.asgF (E0:ER K st σ H O Z) (E:ER K st σ H (ins p O) Z) (np:¬ O p) (e:st[i]?=some t) (h:OA K (ins p (U O Z)) H p x):ER K (st.set i (.o x)) (σ.set i (some (.ref p))) H (ins p O) Z:=by
 have hi:i<σ.length:=by rw[← E.len];exact(Xa.mp e).1
 have sg:(σ.set i (some (V.ref p)))[i]?=some (some (.ref p)):=by rw[Vj,Af rfl,Af hi]
 have fresh:∀(j:Nat) s y,st[j]?=some s->s.ow=some y->σ[j]?≠some (some (.ref p)):=fun j s y h1 h2 z=>by
  obtain⟨r,g1,g2,_⟩:=E0.own j s y h1 h2;rw[z]at g1;cases g1;exact np g2
 refine⟨by simp[E.len],fun j y hj=>?_,fun j s y h1 h2=>?_,fun j k s s' y y' r h1 h2 h3 h4 h5 h6=>?_,E.dis,E.liv⟩
 ·by_cases q:i=j
  ·subst q;rw[aI e]at hj;cases hj
  ·rw[aj q]at hj;obtain⟨w,g1,g2⟩:=E.val j y hj;exact⟨w,by rw[aj q];exact g1,g2⟩
 ·by_cases q:i=j
  ·subst q;rw[aI e]at h1;cases h1;cases h2;refine⟨p,sg,.inl rfl,h.go rfl (fun _ _ e _=>e) fun b z=>.inl ?_⟩;rcases z with(z|z)|z
   ·exact .inl z
   ·exact .inr (.inl z)
   ·exact .inr (.inr z)
  ·rw[aj q]at h1;obtain⟨r,g1,g2⟩:=E.own j s y h1 h2;exact⟨r,by rw[aj q];exact g1,g2⟩
 ·by_cases q1:i=j
  ·by_cases q2:i=k
   ·exact q1.symm.trans q2
   ·subst q1;rw[aj q2]at h3 h6;rw[sg]at h5;cases h5;exact absurd h6 (fresh k s' y' h3 h4)
  ·by_cases q2:i=k
   ·subst q2;rw[aj q1]at h1 h5;rw[sg]at h6;cases h6;exact absurd h5 (fresh j s y h1 h2)
   ·rw[aj q1]at h1 h5;rw[aj q2]at h3 h6;exact E.uni j k s s' y y' r h1 h2 h3 h4 h5 h6
def gN (i:Nat):FG:=fun d st=>lp i (.v d) st
theorem aW (i:Nat):RdG K (dj i) (gN i) [i]:=by
 intro st σ H O Z x d Q E da st' h q;obtain⟨t,e,n,rfl⟩:=kB h;refine q (σ.set i (some x)) (fun j hj=>?_) (nY e n) (E.asg e da);have q:i≠j:=fun z=>hj (by rw[z];simp)
 exact⟨aj q,aj q⟩
def ye (K:Ab) (g:TGs) (fg:List D->En->Option En) (tg:List Nat):Prop:=∀(st:En) (σ:St) (H:Hp) (O Z:AS) (xs:List V) (ds:List D) (Q:St->Hp->Prop),ER K st σ H O Z->El K (U O Z) H xs ds->∀st',fg ds st=some st' ->
 (∀σ',(∀j,j∉tg->σ'[j]?=σ[j]?/\st'[j]?=st[j]?)->Kq st σ st' σ'->ER K st' σ' H O Z->Q σ' H)->g xs σ H Q
def gsN:List D->En->Option En:=fun ds st=>match ds with
 | []=>some st
 | _=>none
theorem yf:ye K F3 gsN []:=by
 intro st σ H O Z xs ds Q E el st' h q;cases ds with
 | nil =>
  cases h;exact⟨el.unnil,q σ (fun j _=>⟨rfl,rfl⟩) (Kq.refl _ _) E⟩
 | cons d ds=>cases h
def gsC (fg:FG) (fgs:List D->En->Option En):List D->En->Option En:=fun ds st=>match ds with
 | d::r=>(fg d st).bind fun st1=>fgs r st1
 | []=>none
theorem pD (h1:RdG K g fg t1) (h2:ye K gs fgs t2):ye K (zo g gs) (gsC fg fgs) (t1++t2):=by
 intro st σ H O Z xs ds Q E el st' h q;cases ds with
 | nil=>cases h
 | cons d ds =>
  refine bsO h fun st1 e1 h=>?_;obtain⟨v,r,rfl,da,el⟩:=el.uncons;refine⟨v,r,rfl,h1 st σ H O Z v d _ E da st1 e1 fun σ1 k1 q1 E1=>?_⟩;refine h2 st1 σ1 H O Z r ds _ E1 el st' h fun σ2 k2 q2 E2=>q σ2 (fun j hj=>?_) (q1.trans q2) E2;have a:=k1 j fun z=>hj (Bb _ z);have b:=k2 j fun z=>hj (Vg _ z);exact⟨b.1.trans a.1,b.2.trans a.2⟩
def gT (n:Nat) (fgs:List D->En->Option En):FG:=fun d st=>match d with
 | .tup ds=>if ds.length=n then fgs ds st else none
 | _=>none
theorem D6 (h:ye K gs fgs t):RdG K (Dv K n gs) (gT n fgs) t:=by
 intro st σ H O Z x d Q E da st' e q;cases d with
 | tup ds =>
  obtain⟨hn,e⟩:=aD e;cases da with
  | tup h1 h2 h3=>exact⟨_,_,rfl,h1.sq,h2.trans hn,h st σ H O Z _ ds Q E ⟨h2,h3⟩ st' e q⟩
 | _=>cases e
abbrev FI:=En->Option (List D×En)
def Gg (K:Ab) (Z:AS) (J:It) (items:List D) (H:Hp) (O:AS):Prop:=∀H' O',Ext O H O' H'->(∀p,U O' Z p->Lv H' p)->(∀i,items.length<=i->J.stop i H')/\∀(i:Nat) d,items[i]?=some d->J.go i H'/\∀x H'',J.yld i H' x H''->Same H' H''/\DA K (U O' Z) H'' x d
def RdI (K:Ab) (wi:TI) (fi:FI):Prop:=∀(st:En) (σ:St) (H:Hp) (O Z:AS) (R:It->Hp->Prop),ER K st σ H O Z->∀items st',fi st=some (items,st') ->
 (∀J H' O',Ext O H O' H'->Kp st st'->ER K st' σ H' O' Z->Gg K Z J items H' O'->R J H')->wi σ H R
def esc (r:Rs) (st:En):Option (D×En):=(cont st r).bind fun d=>(vp st r).bind fun st1=>some (d,st1)
theorem RVal.esc (h:RVal K Z st σ H O v r) (E:ER K st σ H O Z) (e:esc r st=some (d,st')):∃O',Ext O H O' H/\Kp st st'/\ER K st' σ H O' Z/\DA K (U O' Z) H v d:=by
 refine bsO e fun x e1 e=>?_;refine bsO e fun s1 e2 e=>?_;cases e;exact h.frz E e2 e1
def D.its:D->Option (List D)
 | .lst ds=>some ds
 | .fl ds=>some ds
 | _=>none
def D.itt:D->Option (List D)
 | .tup ds=>some ds
 | _=>none
def fIL (fe:FE):FI:=fun st=>(fe st).bind fun x=>(esc x.1 x.2).bind fun y=>(y.1.its).bind fun ds=>some (ds,y.2)
theorem yg (h:RdE K te fe):RdI K (rZ K te) (fIL fe):=by
 intro st σ H O Z R E items st' e q;refine bsP e fun r st1 e1 e=>?_;refine bsP e fun d st2 e2 e=>?_;refine bsO e fun ds e3 e=>?_;cases e;refine h st σ H O Z _ E r st1 e1 fun v H1 O1 x1 k1 E1 rv w1=>?_;obtain⟨O2,x2,k2,E2,da⟩:=rv.esc E1 e2;have fin:∀{a:Addr} {vs:List V},El K (U O2 Z) H1 vs items->(∀H' O',Ext O2 H1 O' H'->SqL K H' a vs)->rZ K (fun _ H Q=>Q (.ref a) H) σ H1 R:=fun {a vs} el sq=>by
  refine⟨a,rfl,⟨vs,sq H1 O2 (Ext.refl _ _)⟩,q _ H1 O2 (x1.trans x2) (k1.trans k2) E2 fun H' O' ex _=>?_⟩;have g1:=sq H' O' ex;have el':=el.ext ex;have hl:=el.1;refine⟨fun i hi=>⟨vs,g1,by lia⟩,fun i d hd=>?_⟩
  obtain⟨v,hv,hdv⟩:=el'.at hd;refine⟨⟨vs,v,g1,hv⟩,fun x H'' hx=>?_⟩;obtain⟨rfl,hx⟩:=hx;have:=hx vs g1;rw[hv]at this;cases this;exact⟨Same.refl _,hdv⟩
 cases d with
 | lst ds' =>
  cases e3;cases da with
  | @lst a vs _ h0 h1 h2 h3=>exact fin ⟨h2,h3⟩ fun H' O' ex=>.inl (.inl (ex.kp a _ h1 fun z=>h0 (.inl z)))
 | fl ds' =>
  cases e3;cases da with
  | @fl a vs _ h1 h2 h3 =>
   refine fin ⟨h2,h3⟩ fun H' O' ex=>?_;rcases h1 with⟨h1,hn⟩|h1
   ·exact .inl (Rd.keep h1 fun o e=>ex.kp a o e fun z=>hn (.inl z))
   ·exact h1 H'
 | _=>cases e3
def fIT (fe:FE):FI:=fun st=>(fe st).bind fun x=>(esc x.1 x.2).bind fun y=>(y.1.itt).bind fun ds=>some (ds,y.2)
theorem D7 (h:RdE K te fe):RdI K (Dx K te) (fIT fe):=by
 intro st σ H O Z R E items st' e q;refine bsP e fun r st1 e1 e=>?_;refine bsP e fun d st2 e2 e=>?_;refine bsO e fun ds e3 e=>?_;cases e;refine h st σ H O Z _ E r st1 e1 fun v H1 O1 x1 k1 E1 rv w1=>?_;obtain⟨O2,x2,k2,E2,da⟩:=rv.esc E1 e2;cases d with
 | tup ds' =>
  cases e3;cases da with
  | @tup a vs _ h1 h2 h3 =>
   refine⟨a,rfl,⟨vs,h1.sq⟩,q _ H1 O2 (x1.trans x2) (k1.trans k2) E2 fun H' O' ex _=>?_⟩;have da':=(DA.tup h1 h2 h3).ext ex;cases da' with
   | @tup _ ws _ g1 g2 g3 =>
    refine⟨fun i hi=>⟨ws,g1.sq,by lia⟩,fun i d hd=>?_⟩
    obtain⟨v,hv,hdv⟩:=El.at ⟨g2,g3⟩ hd;refine⟨⟨ws,v,g1.sq,hv⟩,fun x H'' hx=>?_⟩;obtain⟨rfl,hx⟩:=hx;have:=hx ws g1.sq;rw[hv]at this;cases this;exact⟨Same.refl _,hdv⟩
 | _=>cases e3
def rng (lo:Int) (n:Nat):List D:=(List.range n).map fun(i:Nat)=>D.int (lo+(i:Int))
theorem D8 (h:(rng lo n)[i]?=some d):i<n/\d=.int (lo+i):=by grind [rng]
theorem yh (lo:Int) (n:Nat):(rng lo n).length=n:=by simp[rng]
theorem pE:Gg K Z (Itr lo n) (rng lo n) H O:=fun H' O' ex _=>by
 refine⟨fun i hi=>by rw[yh]at hi;exact hi,fun i d hd=>?_⟩
 obtain⟨h1,rfl⟩:=D8 hd;refine⟨h1,fun x H'' hx=>?_⟩;obtain⟨rfl,rfl⟩:=hx;exact⟨Same.refl _,.int _⟩
def qU:List D->Option Int
 | [.int j]=>some j
 | _=>none
def qV:List D->Option (Int×Int)
 | [.int i,.int j]=>some (i,j)
 | _=>none
def mI (fa:FA):FI:=fun st=>(fa st).bind fun x=>(bT x.2 x.1).bind fun ds=>(qU ds).bind fun j=>if -(2 ^ 62)<=j/\j<2 ^ 62 then some (rng 0 j.toNat,x.2) else none
theorem gJ (h:RdA K ta fa):RdI K (zp ta) (mI fa):=by
 intro st σ H O Z R E items st' e q;refine bsP e fun rs st1 e1 e=>?_;refine bsO e fun ds e2 e=>?_;refine bsO e fun j e3 e=>?_;obtain⟨hc,e⟩:=aD e;cases e;refine h st σ H O Z _ E rs _ e1 fun vs H1 O1 x1 k1 E1 rvs=>?_;have bs:=rvs.bas E1 e2;have ed:ds=[.int j]:=by
  unfold qU at e3;split at e3
  ·cases e3;rfl
  ·cases e3
 subst ed;cases bs with
 | cons b1 b2 =>
  cases b2;obtain rfl:=(show _=V.int j from b1);exact⟨j,rfl,hc.1,hc.2,q _ H1 O1 x1 k1 E1 pE⟩
def nZ (fa:FA):FI:=fun st=>(fa st).bind fun x=>(bT x.2 x.1).bind fun ds=>(qV ds).bind fun w=>if -(2 ^ 62)<=w.1/\w.1<2 ^ 62/\-(2 ^ 62)<=w.2/\w.2<2 ^ 62 then some (rng w.1 (w.2-w.1).toNat,x.2) else none
theorem i7 (h:RdA K ta fa):RdI K (zq ta) (nZ fa):=by
 intro st σ H O Z R E items st' e q;refine bsP e fun rs st1 e1 e=>?_;refine bsO e fun ds e2 e=>?_;refine bsP e fun i j e3 e=>?_;obtain⟨hc,e⟩:=aD e;cases e;refine h st σ H O Z _ E rs _ e1 fun vs H1 O1 x1 k1 E1 rvs=>?_;have bs:=rvs.bas E1 e2;have ed:ds=[.int i,.int j]:=by
  unfold qV at e3;split at e3
  ·cases e3;rfl
  ·cases e3
 subst ed;cases bs with
 | cons b1 b2 =>
  cases b2 with
  | cons b2 b3 =>
   cases b3;obtain rfl:=(show _=V.int i from b1);obtain rfl:=(show _=V.int j from b2);exact⟨i,j,rfl,hc,q _ H1 O1 x1 k1 E1 pE⟩
def qW (x:Str):List D:=x.cps.toList.map fun c=>D.str ⟨#[c]⟩
def fIS (fe:FE):FI:=fun st=>(fe st).bind fun x=>match cont x.2 x.1 with
 | some (.str z)=>some (qW z,x.2)
 | _=>none
theorem D9 (h:RdE K te fe):RdI K (D0 te) (fIS fe):=by
 intro st σ H O Z R E items st' e q;refine bsP e fun r st1 e1 e=>?_;refine h st σ H O Z _ E r st1 e1 fun v H1 O1 x1 k1 E1 rv w1=>?_;dsimp only at e;split at e
 ·rename_i z ez
  cases e;have ev:v=.str z:=rv.ba E1 ez;refine⟨z,ev,q _ H1 O1 x1 k1 E1 fun H' O' ex _=>⟨fun i hi=>?_,fun i d hd=>?_⟩⟩
  ·show z.cps.size<=i;simpa[qW]using hi
  ·unfold qW at hd;rw[Qb]at hd;obtain⟨c,hc,rfl⟩:=Zd.mp hd;have hc':z.cps[i]?=some c:=by simpa using hc
   refine⟨(Array.getElem?_eq_some_iff.mp hc').1,fun x H'' hx=>?_⟩;obtain⟨rfl,c',h1,rfl⟩:=hx;rw[hc']at h1;cases h1;exact⟨Same.refl _,.str _⟩
 ·cases e
inductive Ot where
 | nx (st:En)|rt (r:Rs) (st:En)|bk (st:En)|ct (st:En)
abbrev FS:=En->Option Ot
def Out (K:Ab) (Z O:AS) (H:Hp) (st:En) (σ:St) (Dn:Ends):Ot->Prop
 | .nx st'=>∀σ' H' O',Ext O H O' H'->Kq st σ st' σ'->ER K st' σ' H' O' Z->Dn.nx σ' H'
 | .rt r st'=>∀v σ' H' O',Ext O H O' H'->Kq st σ st' σ'->ER K st' σ' H' O' Z->RVal K Z st' σ' H' O' v r->Fsh H v r->Dn.rt v H'
 | .bk st'=>∀σ' H' O',Ext O H O' H'->Kq st σ st' σ'->ER K st' σ' H' O' Z->Dn.bk σ' H'
 | .ct st'=>∀σ' H' O',Ext O H O' H'->Kq st σ st' σ'->ER K st' σ' H' O' Z->Dn.ct σ' H'
def RdS (K:Ab) (ts:TS) (F:FS):Prop:=∀(st:En) (σ:St) (H:Hp) (O Z:AS) (Dn:Ends),ER K st σ H O Z->∀o,F st=some o->Out K Z O H st σ Dn o->ts Dn σ H
theorem Out.trans (h:Out K Z O H st σ Dn o) (x:Ext O H O1 H1) (k:Kq st σ st1 σ'):Out K Z O1 H1 st1 σ' Dn o:=by
 cases o with
 | nx s=>exact fun σ2 H2 O2 x2 k2 E2=>h σ2 H2 O2 (x.trans x2) (k.trans k2) E2
 | bk s=>exact fun σ2 H2 O2 x2 k2 E2=>h σ2 H2 O2 (x.trans x2) (k.trans k2) E2
 | ct s=>exact fun σ2 H2 O2 x2 k2 E2=>h σ2 H2 O2 (x.trans x2) (k.trans k2) E2
 | rt r s=>exact fun v σ2 H2 O2 x2 k2 E2 rv w=>h v σ2 H2 O2 (x.trans x2) (k.trans k2) E2 rv (w.back x)
def b9:FS:=fun st=>some (.nx st)
theorem bU:RdS K jV b9:=by
 intro st σ H O Z Dn E o e q;cases e;exact q σ H O (Ext.refl _ _) (Kq.refl _ _) E
def aY (F G:FS):FS:=fun st=>(F st).bind fun o=>match o with
 | .nx s=>G s
 | o=>some o
theorem aC (h1:RdS K t F) (h2:RdS K u G):RdS K (kU t u) (aY F G):=by
 intro st σ H O Z Dn E o e q;refine bsO e fun o1 e1 e=>?_;refine h1 st σ H O Z _ E o1 e1 ?_;cases o1 with
 | nx s=>exact fun σ1 H1 O1 x1 k1 E1=>h2 s σ1 H1 O1 Z Dn E1 o e (q.trans x1 k1)
 | bk s=>cases e;exact q
 | ct s=>cases e;exact q
 | rt r s=>cases e;exact q
def gq (fe:FE):FS:=fun st=>(fe st).bind fun x=>some (.nx x.2)
theorem d9 (h:RdE K te fe):RdS K (oY te) (gq fe):=by
 intro st σ H O Z Dn E o e q;refine bsP e fun r st1 e1 e=>?_;cases e;exact h st σ H O Z _ E r st1 e1 fun v H1 O1 x1 k1 E1 rv w1=>q σ H1 O1 x1 k1.kq E1
def cg (fe:FE):FS:=fun st=>(fe st).bind fun x=>some (.rt x.1 x.2)
theorem bB (h:RdE K te fe):RdS K (FZ te) (cg fe):=by
 intro st σ H O Z Dn E o e q;refine bsP e fun r st1 e1 e=>?_;cases e;exact h st σ H O Z _ E r st1 e1 fun v H1 O1 x1 k1 E1 rv w1=>q v σ H1 O1 x1 k1.kq E1 rv w1
def sIf (f:FT) (F G:FS):FS:=fun st=>(f st).bind fun x=>if x.1=true then F x.2 else G x.2
theorem cr (hc:RdT K c f) (h1:RdS K t F) (h2:RdS K u G):RdS K (oZ c t u) (sIf f F G):=by
 intro st σ H O Z Dn E o e q;refine bsP e fun b st1 e1 e=>?_;refine hc st σ H O Z _ E b st1 e1 fun H1 O1 x1 k1 E1=>?_;cases b with
 | true =>
  rw[Af rfl]at e ⊢;exact h1 st1 σ H1 O1 Z Dn E1 o e (q.trans x1 k1.kq)
 | false =>
  simp only[Ze,if_false]at e ⊢;exact h2 st1 σ H1 O1 Z Dn E1 o e (q.trans x1 k1.kq)
def bC (fe:FE) (i:Nat):FS:=fun st=>(fe st).bind fun x=>match x.1 with
 | .d y=>(lp i (.v y) x.2).bind fun s=>some (.nx s)
 | .f y=>(lp i (.o y) x.2).bind fun s=>some (.nx s)
 | .s j=>(esc (.s j) x.2).bind fun y=>(lp i (.v y.1) y.2).bind fun s=>some (.nx s)
theorem aO (h:RdE K te fe):RdS K (kr te (dj i)) (bC fe i):=by
 intro st σ H O Z Dn E o e q;refine bsP e fun r st1 e1 e=>?_;refine h st σ H O Z _ E r st1 e1 fun v H1 O1 x1 k1 E1 rv w1=>?_;show Dn.nx (σ.set i (some v)) H1;cases r with
 | d y =>
  refine bsO e fun s e2 e=>?_;cases e;obtain⟨t,f1,f2,rfl⟩:=kB e2;exact q _ H1 O1 x1 (k1.kq.trans (nY f1 f2)) (E1.asg f1 rv)
 | f y =>
  refine bsO e fun s e2 e=>?_;cases e;obtain⟨t,f1,f2,rfl⟩:=kB e2;obtain⟨p,rfl,np,nz,ho,E2⟩:=rv;have hp:H p=none:=w1 p rfl;exact q _ H1 (ins p O1) ⟨x1.kp,fun b z=>z.elim (fun y=>by rw[y];exact .inr hp) (x1.nw b),x1.al,x1.lv⟩ (k1.kq.trans (nY f1 f2)) (E1.asgF E2 np f1 ho)
 | s j =>
  refine bsP e fun d st2 e2 e=>?_;refine bsO e fun s e3 e=>?_;cases e;obtain⟨O2,x2,k2,E2,da⟩:=rv.esc E1 e2;obtain⟨t,f1,f2,rfl⟩:=kB e3;exact q _ H1 O2 (x1.trans x2) ((k1.kq.trans k2.kq).trans (nY f1 f2)) (E2.asg f1 da)
end
end VF
namespace VF
open PySem L2
section
variable {K:Ab} {Y Y' O O' O1 O2 Z:AS} {H H' H1 H2:Hp} {v:V} {d:D} {vs:List V} {ds:List D} {a p:Addr} {st st' st1 st2:En} {σ σ':St}
def g9 (fg:FG) (B:FS):List D->FS
 | [],st=>some (.nx st)
 | x::r,st=>(fg x st).bind fun s1=>(B s1).bind fun o=>match o with
  | .nx s2=>g9 fg B r s2
  | .ct s2=>g9 fg B r s2
  | .bk s2=>some (.nx s2)
  | .rt y s2=>some (.rt y s2)
def eJ (fi:FI) (fg:FG) (B:FS):FS:=fun st=>(fi st).bind fun x=>g9 fg B x.1 x.2
theorem ci (hi:RdI K wi fi) (hg:RdG K g fg tg) (hb:RdS K tb B):RdS K (tM wi g tb) (eJ fi fg B):=by
 intro st σ H O Z Dn E o e q;refine bsP e fun items st1 e1 e=>?_;refine hi st σ H O Z _ E items st1 e1 fun J H1 O1 x1 k1 E1 it=>?_;have q1:=q.trans x1 (k1.kq (σ:=σ));refine⟨fun i m σ' H'=>m=items.length-i/\i<=items.length/\∃s O',Ext O1 H1 O' H'/\Kq st1 σ s σ'/\ER K s σ' H' O' Z/\g9 fg B (items.drop i) s=some o,⟨items.length,by simp,Wh _,st1,O1,Ext.refl _ _,Kq.refl _ _,E1,e⟩,?_⟩
 rintro i m σ' H' ⟨rfl,hle,s,O',x2,k2,E2,e2⟩;obtain⟨stop,go⟩:=it H' O' x2 E2.liv;by_cases hlt:i<items.length
 ·right;have hd:items.drop i=items[i]::items.drop (i+1):=Zj hlt;rw[hd]at e2;refine bsO e2 fun s1 e3 e2=>?_;refine bsO e2 fun o1 e4 e2=>?_;obtain⟨g1,g2⟩:=go i _ (Za hlt);refine⟨g1,fun σ3 H3=>∃s O3,Ext O1 H1 O3 H3/\Kq st1 σ s σ3/\ER K s σ3 H3 O3 Z/\g9 fg B (items.drop (i+1)) s=some o,fun σ3 H3 ⟨s3,O3,x3,k3,E3,e3'⟩=>⟨items.length-(i+1),by lia,rfl,hlt,s3,O3,x3,k3,E3,e3'⟩,fun x H'' hy=>?_⟩
  obtain⟨sm,da⟩:=g2 x H'' hy;have xm:Ext O' H' O' H'':=Same.ext sm;refine hg s σ' H'' O' Z x _ _ (E2.same sm) da s1 e3 fun σ4 _ k4 E4=>?_;refine hb s1 σ4 H'' O' Z _ E4 o1 e4 ?_;have xx:=x2.trans xm;cases o1 with
  | nx s2=>exact fun σ5 H5 O5 x5 k5 E5=>⟨s2,O5,xx.trans x5,(k2.trans k4).trans k5,E5,e2⟩
  | ct s2=>exact fun σ5 H5 O5 x5 k5 E5=>⟨s2,O5,xx.trans x5,(k2.trans k4).trans k5,E5,e2⟩
  | bk s2 =>
   cases e2;exact fun σ5 H5 O5 x5 k5 E5=>q1 σ5 H5 O5 (xx.trans x5) ((k2.trans k4).trans k5) E5
  | rt y s2 =>
   cases e2;exact fun v σ5 H5 O5 x5 k5 E5 rv w=>q1 v σ5 H5 O5 (xx.trans x5) ((k2.trans k4).trans k5) E5 rv (w.back xx)
 ·left;have hn:items.drop i=[]:=Db (by lia)
  rw[hn]at e2;cases e2;exact⟨stop i (by lia),q1 σ' H' O' x2 k2 E2⟩
structure RdM (K:Ab) (T:String) (r:V->List V->Hp->VK->Prop) (ok:D->Bool) (m:D->List D->Option (D×D)):Prop where
 ty:∀(Y:AS) (H:Hp) (p:Addr) (x:D),OA K Y H p x->ok x=true->tyV K T (.ref p) H
 run:∀(Y:AS) (H:Hp) (p:Addr) (x:D) (vs:List V) (ds:List D) (y x':D) (Q:VK),Y p->OA K Y H p x->El K Y H vs ds->m x ds=some (y,x') ->
  (∀v o,DA K Y (upd H p o) v y->OA K Y (upd H p o) p x'->Q v (upd H p o))->r (.ref p) vs H Q
def fM (ok:D->Bool) (m:D->List D->Option (D×D)) (i:Nat) (fa:FA):FE:=fun st=>(st[i]?).bind fun s0=>(s0.ow).bind fun x0=>if ok x0=true then(fa st).bind fun x=>(cW x.1 x.2).bind fun y=>(y.2[i]?).bind fun s=>(s.ow).bind fun d=>(m d y.1).bind fun z=>some (.d z.1,y.2.set i (s.put z.2)) else none
theorem n4 (hm:RdM K T r ok m) (ha:RdA K ta fa):RdE K (tBM K T r (gc i) ta) (fM ok m i fa):=by
 intro st σ H O Z Q E r0 st' h q;refine bsO h fun s0 f1 h=>?_;refine bsO h fun x0 f2 h=>?_;obtain⟨hok,h⟩:=aD h;refine bsP h fun rs st1 e1 h=>?_;refine bsP h fun ds st2 e2 h=>?_;refine bsO h fun s e3 h=>?_;refine bsO h fun x e4 h=>?_;refine bsP h fun y x' e5 h=>?_;cases h;obtain⟨p,g1,g2,g3⟩:=E.own i s0 x0 f1 f2;refine⟨.ref p,g1,hm.ty _ _ _ _ g3 hok,?_⟩;refine ha st σ H O Z _ E rs st1 e1 fun vs H1 O1 x1 k1 E1 rvs=>?_;obtain⟨O2,x2,k2,E2,el⟩:=rvs.esc E1 e2;obtain⟨p',j1,j2,j3⟩:=E2.own i s x e3 e4;have ep:p'=p:=by rw[g1]at j1;cases j1;rfl
 subst ep;refine hm.run (U O2 Z) H1 p' x vs ds y x' _ (.inl j2) j3 el e5 fun v o da ho=>?_;obtain⟨E3,x3,k3⟩:=E2.write e3 e4 g1 ho;exact q v _ O2 ((x1.trans x2).trans x3) ((k1.trans k2).trans k3) E3 da True.intro
def vt (K:Ab) (t:xR) (m:D->D->D->Option D):Prop:=∀(Y:AS) (H:Hp) (p:Addr) (x:D) (k v:V) (dk dv x':D) (Q:Hp->Prop),Y p->OA K Y H p x->BA K Y H k dk->DA K Y H v dv->m x dk dv=some x' ->
 (∀o,OA K Y (upd H p o) p x'->Q (upd H p o))->t (.ref p) k v H Q
def mJ (m:D->D->D->Option D) (fe:FE) (i:Nat) (fi:FE):FS:=fun st=>(fe st).bind fun x=>(esc x.1 x.2).bind fun y=>(y.2[i]?).bind fun s0=>(s0.ow).bind fun _=>(fi y.2).bind fun w=>(cont w.2 w.1).bind fun dk=>(w.2[i]?).bind fun s=>(s.ow).bind fun z=>(m z dk y.1).bind fun z'=>some (.nx (w.2.set i (s.put z')))
theorem iz (hm:vt K t m) (he:RdE K te fe) (hi:RdE K ti fi):RdS K (kr te (F4 (gc i) ti t)) (mJ m fe i fi):=by
 intro st σ H O Z Dn E o e q;refine bsP e fun r st1 e1 e=>?_;refine bsP e fun dv st2 e2 e=>?_;refine bsO e fun s0 e3 e=>?_;refine bsO e fun x0 e4 e=>?_;refine bsP e fun rk st3 e5 e=>?_;refine bsO e fun dk e6 e=>?_;refine bsO e fun s e7 e=>?_;refine bsO e fun x e8 e=>?_;refine bsO e fun x' e9 e=>?_;cases e;refine he st σ H O Z _ E r st1 e1 fun v H1 O1 x1 k1 E1 rv w1=>?_;obtain⟨O2,x2,k2,E2,da⟩:=rv.esc E1 e2;obtain⟨p,g1,g2,g3⟩:=E2.own i s0 x0 e3 e4;refine⟨.ref p,g1,?_⟩;refine hi st2 σ H1 O2 Z _ E2 rk st3 e5 fun k H3 O3 x3 k3 E3 rk' w3=>?_;obtain⟨p',j1,j2,j3⟩:=E3.own i s x e7 e8;have ep:p'=p:=by rw[g1]at j1;cases j1;rfl
 subst ep;refine hm (U O3 Z) H3 p' x k v dk dv x' _ (.inl j2) j3 (rk'.ba E3 e6) (da.ext x3) e9 fun o ho=>?_;obtain⟨E4,x4,k4⟩:=E3.write e7 e8 g1 ho;exact q σ _ O3 (((x1.trans x2).trans x3).trans x4) (((k1.trans k2).trans k3).trans k4).kq E4
def gW (k:Nat) (caps:List Nat) (st:En):En:=List.replicate k Sl.e++caps.map fun i=>(st[i]?).getD .e
def rst (k:Nat) (s:En):En:=List.replicate k Sl.e++s.drop k
def wb:List Nat->En->En->En
 | i::r,s::sb,st=>wb r sb (st.set i s)
 | _,_,st=>st
def i8 (fg:FG) (fc:FT) (fe:FE) (k:Nat):List D->En->Option (List D×En)
 | [],sb=>some ([],sb)
 | x::r,sb=>(fg x sb).bind fun s1=>(fc s1).bind fun c=>if c.1=true then(fe c.2).bind fun y=>(esc y.1 y.2).bind fun w=>(i8 fg fc fe k r (rst k w.2)).bind fun z=>some (w.1::z.1,z.2)
  else i8 fg fc fe k r (rst k c.2)
def n5 (caps:List Nat) (n:Nat):Bool:=decide caps.Nodup&&caps.all fun i=>decide (i<n)
def du (k:Nat) (caps:List Nat) (fi:FI) (fg:FG) (fc:FT) (fe:FE):FE:=fun st=>(fi st).bind fun x=>if (n5 caps x.2.length&&decide (x.1.length<=1000000))=true then(i8 fg fc fe k x.1 (gW k caps x.2)).bind fun y=>some (.f (.lst y.1),wb caps (y.2.drop k) x.2) else none
theorem qX:∀(caps:List Nat) (sb st:En),(wb caps sb st).length=st.length
 | [],_,_=>by simp[wb]
 | _::_,[],_=>by simp[wb]
 | i::r,s::sb,st=>by rw[wb,qX r sb];simp
theorem ls:∀(caps:List Nat) (sb st:En) {i:Nat},i∉caps->(wb caps sb st)[i]?=st[i]?
 | [],_,_,_,_=>by simp[wb]
 | _::_,[],_,_,_=>by simp[wb]
 | j::r,s::sb,st,i,h=>by
  rw[wb,ls r sb _ (fun z=>h (Vb _ z))];exact aj fun z=>h (by rw[z];simp)
theorem vv:∀(caps:List Nat) (sb st:En) {j i:Nat},caps.Nodup->sb.length=caps.length->caps[j]?=some i->i<st.length->(wb caps sb st)[i]?=sb[j]?
 | [],_,_,_,_,_,_,h,_=>by simp at h
 | _::_,[],_,_,_,_,h,_,_=>by simp at h
 | c::r,s::sb,st,0,i,nd,hl,h,hi=>by
  have e:c=i:=by simpa using h
  subst e;rw[wb,ls r sb _ (Xi.mp nd).1];rw[Vj,Af rfl,Af hi];rfl
 | c::r,s::sb,st,j+1,i,nd,hl,h,hi=>by
  rw[wb,vv r sb _ (j:=j) (Xi.mp nd).2 (by simpa using hl) (by simpa using h) (by simpa using hi)];rfl
theorem sA (h:caps[j]?=some i):(gW k caps st)[k+j]?=some ((st[i]?).getD .e):=by grind [gW]
theorem i9 {s:Sl} (h:(gW k caps st)[i]?=some s) (n:s.get≠none):∃j i',i=k+j/\caps[j]?=some i'/\st[i']?=some s:=by
 unfold gW at h;by_cases hi:i<k
 ·rw[Qi (by simpa using hi),AH,Af hi]at h
  cases h;exact absurd rfl n
 ·rw[Xg (by simpa using hi),A6,Qb]at h
  refine⟨i-k,?_⟩;obtain⟨i',e1,e2⟩:=Zd.mp h;refine⟨i',by lia,e1,?_⟩
  cases q:st[i']? with
  | none=>rw[q]at e2;subst e2;exact absurd rfl n
  | some t=>rw[q]at e2;subst e2;rfl
theorem iA (h:caps[j]?=some i):(blk k caps σ)[k+j]?=some ((σ[i]?).getD none):=by grind [blk]
theorem gr {s:Sl} (h:s.ow=some d):s.get≠none:=by cases s<;>first|(cases h;done)|simp[Sl.get]
theorem vx {l:List Nat} {j j' i:Nat} (nd:l.Nodup) (h:l[j]?=some i) (h':l[j']?=some i):j=j':=by
 obtain⟨h1,h2⟩:=Xa.mp h;obtain⟨h3,h4⟩:=Xa.mp h';exact(BG nd).mp (h2.trans h4.symm)
def Ob (caps:List Nat) (st:En) (σ:St):AS:=fun p=>∃i∈caps,∃s d,st[i]?=some s/\s.ow=some d/\σ[i]?=some (some (.ref p))
def Zb (caps:List Nat) (st:En) (σ:St) (O Z:AS):AS:=fun p=>Z p∨(O p/\¬ Ob caps st σ p)
theorem Ob.o (E:ER K st σ H O Z) (h:Ob caps st σ q):O q:=by
 obtain⟨i,_,s,d,h1,h2,h3⟩:=h;obtain⟨p,g1,g2,_⟩:=E.own i s d h1 h2;rw[h3]at g1;cases g1;exact g2
theorem Ea {k:Nat} {caps:List Nat} (E:ER K st σ H O Z) (nd:caps.Nodup):ER K (gW k caps st) (blk k caps σ) H (Ob caps st σ) (Zb caps st σ O Z):=by
 have up:∀b,U (Ob caps st σ) (Zb caps st σ O Z) b->U O Z b:=fun b z=>z.elim (fun y=>.inl (Ob.o E y)) fun y=>y.elim .inr fun w=>.inl w.1;refine⟨by simp[gW,blk],fun i d h=>?_,fun i s d h1 h2=>?_,fun i j s t d d' p h1 h2 h3 h4 h5 h6=>?_,fun p h z=>?_,fun p h=>E.liv p (up p h)⟩
 ·obtain⟨j,i',rfl,hc,hs⟩:=i9 h (by simp[Sl.get])
  obtain⟨v,g1,g2⟩:=E.val i' d hs;exact⟨v,by rw[iA hc,g1];rfl,g2.less up⟩
 ·obtain⟨j,i',rfl,hc,hs⟩:=i9 h1 (gr h2);obtain⟨p,g1,g2,g3⟩:=E.own i' s d hs h2;exact⟨p,by rw[iA hc,g1];rfl,⟨i',Wa hc,s,d,hs,h2,g1⟩,g3.go rfl (fun _ _ e _=>e) fun b z=>.inl (up b z)⟩
 ·obtain⟨j1,i1,rfl,c1,s1⟩:=i9 h1 (gr h2);obtain⟨j2,i2,rfl,c2,s2⟩:=i9 h3 (gr h4);obtain⟨p1,g1,_⟩:=E.own i1 s d s1 h2;obtain⟨p2,g2,_⟩:=E.own i2 t d' s2 h4;rw[iA c1,g1]at h5;rw[iA c2,g2]at h6;have e1:p1=p:=by simpa using h5
  have e2:p2=p:=by simpa using h6
  subst e1;subst e2;have e:=E.uni i1 i2 s t d d' _ s1 h2 s2 h4 g1 g2;subst e;rw[vx nd c1 c2]
 ·rcases z with z|z
  ·exact E.dis p (Ob.o E h) z
  ·exact z.2 h
theorem vy {τ τ':St} (E:ER K st τ H O Z) (hl:τ'.length=τ.length) (hk:k<=st.length) (h:∀j,k<=j->τ'[j]?=τ[j]?):ER K (rst k st) τ' H O Z:=by
 have at_:∀(i:Nat) s,(rst k st)[i]?=some s->s.get≠none->k<=i/\st[i]?=some s:=fun i s e n=>by
  unfold rst at e;by_cases hi:i<k
  ·rw[Qi (by simpa using hi),AH,Af hi]at e
   cases e;exact absurd rfl n
  ·rw[Xg (by simpa using hi),A6,Qf]at e
   have:k+(i-k)=i:=by lia
   rw[this]at e;exact⟨by lia,e⟩
 refine⟨?_,fun i d e=>?_,fun i s d e1 e2=>?_,fun i j s t d d' p e1 e2 e3 e4 e5 e6=>?_,E.dis,E.liv⟩
 ·rw[hl,← E.len];simp[rst];lia
 ·obtain⟨hk,e⟩:=at_ i _ e (by simp[Sl.get])
  obtain⟨v,g1,g2⟩:=E.val i d e;exact⟨v,by rw[h i hk];exact g1,g2⟩
 ·obtain⟨hk,e⟩:=at_ i _ e1 (gr e2);obtain⟨p,g1,g2⟩:=E.own i s d e e2;exact⟨p,by rw[h i hk];exact g1,g2⟩
 ·obtain⟨hk1,e1⟩:=at_ i _ e1 (gr e2);obtain⟨hk2,e3⟩:=at_ j _ e3 (gr e4);rw[h i hk1]at e5;rw[h j hk2]at e6;exact E.uni i j s t d d' p e1 e2 e3 e4 e5 e6
def Oo (caps:List Nat) (st:En) (σ:St) (O Oi:AS):AS:=fun p=>Oi p∨(O p/\¬ Ob caps st σ p)
theorem qY (E:ER K st σ H O Z) (x:Ext (Ob caps st σ) H Oi H'):Ext O H (Oo caps st σ O Oi) H' :=
 ⟨fun b o e n=>x.kp b o e fun z=>n (Ob.o E z),fun b z=>z.elim (fun y=>(x.nw b y).elim (fun w=>.inl (Ob.o E w)) .inr) fun y=>.inl y.1,x.al,x.lv⟩
theorem vz {caps:List Nat} {sb:En} (E:ER K st σ H O Z) (nd:caps.Nodup) (lt:∀i∈caps,i<st.length) (hl:sb.length=k+caps.length) (x:Ext (Ob caps st σ) H Oi H') (B:ER K sb (blk k caps σ) H' Oi (Zb caps st σ O Z)) :
  ER K (wb caps (sb.drop k) st) σ H' (Oo caps st σ O Oi) Z:=by
 have dl:(sb.drop k).length=caps.length:=by rw[AN];lia
 have cap:∀(j i:Nat),caps[j]?=some i->(wb caps (sb.drop k) st)[i]?=sb[k+j]?:=fun j i h=>by
  rw[vv caps _ st nd dl h (lt i (Wa h)),Qf]
 have out:∀i,i∉caps->(wb caps (sb.drop k) st)[i]?=st[i]?:=fun i h=>ls caps _ st h;have same:∀b,U (Oo caps st σ O Oi) Z b->U Oi (Zb caps st σ O Z) b:=fun b z=>by
  rcases z with(z|z)|z
  ·exact .inl z
  ·exact .inr (.inr z)
  ·exact .inr (.inl z)
 have kp:∀b o,H b=some o->¬ U O Z b->H' b=some o:=fun b o e n=>x.kp b o e fun z=>n (.inl (Ob.o E z));have nn:∀b,U (Oo caps st σ O Oi) Z b->U O Z b∨H b=none:=fun b z=>by
  rcases z with z|z
  ·exact((qY E x).nw b z).elim (fun y=>.inl (.inl y)) .inr
  ·exact .inl (.inr z)
 have nob:∀(i:Nat) s d p,i∉caps->st[i]?=some s->s.ow=some d->σ[i]?=some (some (.ref p))->¬ Ob caps st σ p:=fun i s d p hn h1 h2 h3 z=>by
  obtain⟨i0,hm,s0,d0,g1,g2,g3⟩:=z;have:=E.uni i i0 s s0 d d0 p h1 h2 g1 g2 h3 g3;subst this;exact hn hm
 have bget:∀{j i:Nat} {v:V},caps[j]?=some i->(blk k caps σ)[k+j]?=some (some v)->σ[i]?=some (some v):=fun {j i v} hc hb=>by
  rw[iA hc]at hb;have hb':=Option.some.inj hb;cases q:σ[i]? with
  | none=>rw[q]at hb';cases hb'
  | some w=>rw[q]at hb';have:w=some v:=hb';rw[this]
 have own:∀(i:Nat) s d,(wb caps (sb.drop k) st)[i]?=some s->s.ow=some d->(∃j,caps[j]?=some i/\sb[k+j]?=some s)∨(i∉caps/\st[i]?=some s):=fun i s d h1 _=>by
  by_cases hc:i∈caps
  ·obtain⟨j,hj⟩:=Ql hc;rw[cap j i hj]at h1;exact .inl ⟨j,hj,h1⟩
  ·rw[out i hc]at h1;exact .inr ⟨hc,h1⟩
 refine⟨by rw[qX];exact E.len,fun i d h=>?_,fun i s d h1 h2=>?_,fun i j s t d d' p h1 h2 h3 h4 h5 h6=>?_,fun p h=>?_,fun p h=>?_⟩
 ·by_cases hc:i∈caps
  ·obtain⟨j,hj⟩:=Ql hc;rw[cap j i hj]at h;obtain⟨v,g1,g2⟩:=B.val _ d h;exact⟨v,bget hj g1,g2.less same⟩
  ·rw[out i hc]at h;obtain⟨v,g1,g2⟩:=E.val i d h;exact⟨v,g1,g2.go kp nn⟩
 ·rcases own i s d h1 h2 with⟨j,hj,hs⟩|⟨hc,hs⟩
  ·obtain⟨p,g1,g2,g3⟩:=B.own _ s d hs h2;exact⟨p,bget hj g1,.inl g2,g3.go rfl (fun _ _ e _=>e) fun b z=>.inl (same b z)⟩
  ·obtain⟨p,g1,g2,g3⟩:=E.own i s d hs h2;have nb:=nob i s d p hc hs h2 g1;refine⟨p,g1,.inr ⟨g2,nb⟩,g3.go ?_ kp nn⟩;cases q:H p with
   | none=>exact absurd q g3.live
   | some o=>exact x.kp p o q nb
 ·rcases own i s d h1 h2 with⟨j1,c1,s1⟩|⟨c1,s1⟩<;>rcases own j t d' h3 h4 with⟨j2,c2,s2⟩|⟨c2,s2⟩
  ·have e:=B.uni _ _ s t d d' p s1 h2 s2 h4 (by rw[iA c1,h5];rfl) (by rw[iA c2,h6];rfl)
   have e':j1=j2:=by lia
   subst e';rw[c1]at c2;exact Option.some.inj c2
  ·exfalso
   obtain⟨q,g1,g2,_⟩:=B.own _ s d s1 h2;have:=bget c1 g1;rw[h5]at this;cases this;have nb:=nob j t d' p c2 s2 h4 h6;obtain⟨q2,k1,_,k3⟩:=E.own j t d' s2 h4;rw[h6]at k1;cases k1;exact(x.nw p g2).elim nb k3.live
  ·exfalso
   obtain⟨q,g1,g2,_⟩:=B.own _ t d' s2 h4;have:=bget c2 g1;rw[h6]at this;cases this;have nb:=nob i s d p c1 s1 h2 h5;obtain⟨q2,k1,_,k3⟩:=E.own i s d s1 h2;rw[h5]at k1;cases k1;exact(x.nw p g2).elim nb k3.live
  ·exact E.uni i j s t d d' p s1 h2 s2 h4 h5 h6
 ·rcases h with h|h
  ·exact fun z=>B.dis p h (.inl z)
  ·exact E.dis p h.1
 ·rcases h with(h|h)|h
  ·exact B.liv p (.inl h)
  ·exact x.lv p (E.liv p (.inl h.1))
  ·exact x.lv p (E.liv p (.inr h))
theorem vA {a b:En} (h0:∀(i:Nat) s,a[i]?=some s->i<k->s=.e) (h:Kp a b) (hk:k<=b.length):Kp a (rst k b):=by
 have lk:(rst k b).length=b.length:=by simp[rst];lia
 have at_:∀i,k<=i->(rst k b)[i]?=b[i]?:=fun i hi=>by
  unfold rst;rw[Xg (by simpa using hi),A6,Qf]
  congr 1;lia
 refine⟨lk.trans h.len,fun i s e g=>?_,fun i d e=>?_⟩
 ·by_cases hi:i<k
  ·have:=h0 i s e hi;subst this;exact absurd rfl g
  ·obtain⟨s',e',g'⟩:=h.has i s e g;exact⟨s',by rw[at_ i (by lia)];exact e',g'⟩
 ·by_cases hi:i<k
  ·have:=h0 i _ e hi;cases this
  ·obtain⟨d',e'⟩:=h.io i d e;exact⟨d',by rw[at_ i (by lia)];exact e'⟩
theorem Gh {caps:List Nat} {sb:En} (nd:caps.Nodup) (lt:∀i∈caps,i<st.length) (hl:sb.length=k+caps.length) (h:Kp (gW k caps st) sb):Kp st (wb caps (sb.drop k) st):=by
 have dl:(sb.drop k).length=caps.length:=by rw[AN];lia
 have cap:∀(j i:Nat),caps[j]?=some i->(wb caps (sb.drop k) st)[i]?=sb[k+j]?:=fun j i h=>by
  rw[vv caps _ st nd dl h (lt i (Wa h)),Qf]
 refine⟨qX _ _ _,fun i s e g=>?_,fun i d e=>?_⟩
 ·by_cases hc:i∈caps
  ·obtain⟨j,hj⟩:=Ql hc;rw[cap j i hj];exact h.has (k+j) s (by rw[sA hj,e];rfl) g
  ·exact⟨s,by rw[ls _ _ _ hc];exact e,g⟩
 ·by_cases hc:i∈caps
  ·obtain⟨j,hj⟩:=Ql hc;rw[cap j i hj];exact h.io (k+j) d (by rw[sA hj,e];rfl)
  ·exact⟨d,by rw[ls _ _ _ hc];exact e⟩
theorem n6 (i:Nat) (s:Sl) (h:(gW k caps st)[i]?=some s) (hi:i<k):s=.e:=by grind [Sl,gW]
def ItC (K:Ab) (Z:AS) (caps:List Nat) (st:En) (σ:St) (J:It) (items:List D) (H:Hp) (O:AS):Prop:=∀H' Oi,Ext (Ob caps st σ) H Oi H'->(∀p,U (Oo caps st σ O Oi) Z p->Lv H' p)->(∀i,items.length<=i->J.stop i H')/\∀(i:Nat) d,items[i]?=some d->J.go i H'/\∀x H'',J.yld i H' x H''->Same H' H''/\DA K (U (Oo caps st σ O Oi) Z) H'' x d
def Gi (K:Ab) (caps:List Nat) (wi:TI) (fi:FI):Prop:=∀(st:En) (σ:St) (H:Hp) (O Z:AS) (R:It->Hp->Prop),ER K st σ H O Z->∀items st',fi st=some (items,st') ->
 (∀J H' O',Ext O H O' H'->Kp st st'->ER K st' σ H' O' Z->ItC K Z caps st' σ J items H' O'->R J H')->wi σ H R
theorem RdI.ic (h:RdI K wi fi):Gi K caps wi fi:=fun st σ H O Z R E items st' e q =>
 h st σ H O Z R E items st' e fun J H1 O1 x1 k1 E1 it=>q J H1 O1 x1 k1 E1 fun H' Oi x2 lv=>it H' _ (qY E1 x2) lv
theorem vB (hi:Gi K caps wi fi) (hg:RdG K g fg tg) (ht:∀j∈tg,j<k) (hc:RdT K tc fc) (he:RdE K te fe) :
  RdE K (m8 k caps wi g tc te) (du k caps fi fg fc fe):=by
 intro st σ H O Z Q E r st' h q;refine bsP h fun items st1 e1 h=>?_;by_cases hok:(n5 caps st1.length&&decide (items.length<=1000000))=true
 rotate_left
 ·simp only[Ah hok]at h;cases h
 simp only[Af hok]at h;refine bsP h fun total sf e2 h=>?_;cases h;have hok1:caps.Nodup/\(∀i∈caps,i<st1.length)/\items.length<=1000000:=by
  rw[Wg,decide_eq_true_eq]at hok;unfold n5 at hok;rw[Wg,decide_eq_true_eq,BI]at hok;exact⟨hok.1.1,fun i hi=>Am (hok.1.2 i hi),hok.2⟩
 obtain⟨nd,lt,hfew⟩:=hok1;refine hi st σ H O Z _ E items st1 e1 fun J H1 O1 x1 k1 E1 it=>?_;have bl:(blk k caps σ).length=k+caps.length:=by simp[blk]
 have el:(gW k caps st1).length=k+caps.length:=by simp[gW]
 refine⟨items.length,fun i xs H'=>∃sb Oi ds ds2,Ext (Ob caps st1 σ) H1 Oi H'/\ER K sb (blk k caps σ) H' Oi (Zb caps st1 σ O1 Z)/\El K (U Oi (Zb caps st1 σ O1 Z)) H' xs ds/\i8 fg fc fe k (items.drop i) sb=some (ds2,sf)/\ds++ds2=total/\Kp (gW k caps st1) sb/\xs.length<=i,
  ⟨gW k caps st1,Ob caps st1 σ,[],total,Ext.refl _ _,Ea E1 nd,El.nil,e2,rfl,Kp.refl _,Va _⟩,?_,?_⟩
 ·rintro xs H' ⟨sb,Oi,ds,ds2,x2,B,exs,e3,ed,kb,_⟩;rw[Db (Va _)]at e3;obtain⟨rfl,rfl⟩:([]:List D)=ds2/\sb=sf:=by
   have:=Option.some.inj e3;exact⟨congrArg Prod.fst this,congrArg Prod.snd this⟩
  rw[Qe]at ed;subst ed;obtain⟨stop,_⟩:=it H' Oi x2 (vz E1 nd lt (kb.len.trans el) x2 B).liv;refine⟨stop _ (Va _),fun p hp=>?_⟩;have sl:sb.length=k+caps.length:=kb.len.trans el;have Eo:=vz E1 nd lt sl x2 B;have ko:=Gh nd lt sl kb;have el2:El K (U (Oo caps st1 σ O1 Oi) Z) H' xs ds:=exs.less fun b z=>by
   rcases z with(z|z)|z
   ·exact .inl z
   ·exact .inr (.inr z)
   ·exact .inr (.inl z)
  obtain⟨E3,rv⟩:=Eo.new hp el2;have xx:=x1.trans (qY E1 x2);exact q _ _ _ (xx.trans (Same.ext (aR hp _))) (k1.trans ko) E3 rv fun p' e=>by cases e;exact xx.dead hp
 ·rintro i xs H' hlt ⟨sb,Oi,ds,ds2,x2,B,exs,e3,ed,kb,hxl⟩;have hd:items.drop i=items[i]::items.drop (i+1):=Zj hlt;rw[hd]at e3;refine bsO e3 fun s1 e4 e3=>?_;refine bsP e3 fun c s2 e5 e3=>?_;obtain⟨_,go⟩:=it H' Oi x2 (vz E1 nd lt (kb.len.trans el) x2 B).liv;obtain⟨g1,g2⟩:=go i _ (Za hlt);refine⟨g1,Zn hxl (Wc hlt (few hfew)),fun x H'' hy=>?_⟩;obtain⟨sm,da⟩:=g2 x H'' hy;have xm:Ext Oi H' Oi H'':=Same.ext sm;have da':DA K (U Oi (Zb caps st1 σ O1 Z)) H'' x items[i]:=da.less fun b z=>by
   rcases z with z|z|z
   ·exact .inl (.inl z)
   ·exact .inr z
   ·exact .inl (.inr z)
  refine hg sb _ H'' Oi _ x _ _ (B.same sm) da' s1 e4 fun τ kt kq3 E4=>?_;have sl:sb.length=k+caps.length:=kb.len.trans el;have tl:τ.length=(blk k caps σ).length:=by rw[← E4.len,kq3.len,sl,bl]
  have tk:∀j,k<=j->(blk k caps σ)[j]?=τ[j]?:=fun j hj=>((kt j fun z=>absurd (ht j z) (by lia)).1).symm
  have drop:τ.drop k=(blk k caps σ).drop k:=by
   refine AK fun j=>?_;rw[Qf,Qf];exact(tk _ (by lia)).symm
  have kp1:Kp (gW k caps st1) s1:=by
   refine⟨kq3.len.trans kb.len,fun j s e g=>?_,fun j d e=>?_⟩
   ·by_cases hj:j<k
    ·have:=n6 j s e hj;subst this;exact absurd rfl g
    ·obtain⟨s',e',g'⟩:=kb.has j s e g;exact⟨s',by rw[(kt j fun z=>absurd (ht j z) (by lia)).2];exact e',g'⟩
   ·by_cases hj:j<k
    ·have:=n6 j _ e hj;cases this
    ·obtain⟨d',e'⟩:=kb.io j d e;exact⟨d',by rw[(kt j fun z=>absurd (ht j z) (by lia)).2];exact e'⟩
  refine hc s1 τ H'' Oi _ _ E4 c s2 e5 fun H3 O3 x3 k3 E5=>?_;have kp2:=kp1.trans k3;cases c with
  | false =>
   simp only[Ze,if_false]at e3 ⊢;have hs2:k<=s2.length:=by rw[kp2.len,el];lia
   exact⟨drop,rst k s2,O3,ds,ds2,(x2.trans xm).trans x3,vy E5 tl.symm hs2 tk,exs.ext (xm.trans x3),e3,ed,vA n6 kp2 hs2,by lia⟩
  | true =>
   rw[Af rfl]at e3 ⊢;refine bsP e3 fun ry s3 e6 e3=>?_;refine bsP e3 fun dy s4 e7 e3=>?_;refine bsP e3 fun ds3 sf' e8 e3=>?_;cases e3;refine he s2 τ H3 O3 _ _ E5 ry s3 e6 fun y H4 O4 x4 k4 E6 rv w=>?_;obtain⟨O5,x5,k5,E7,day⟩:=rv.esc E6 e7;have kp3:=(kp2.trans k4).trans k5;have hs4:k<=s4.length:=by rw[kp3.len,el];lia
   refine⟨drop,rst k s4,O5,ds++[dy],ds3,(((x2.trans xm).trans x3).trans x4).trans x5,vy E7 tl.symm hs4 tk,(exs.ext (((xm.trans x3).trans x4).trans x5)).app (El.one day),e8,by rw[Ve];exact ed,vA n6 kp3 hs4,by simp;lia⟩
theorem cM (hi:RdI K wi fi) (hg:RdG K g fg tg) (ht:∀j∈tg,j<k) (hc:RdT K tc fc) (he:RdE K te fe) :
  RdE K (m8 k caps wi g tc te) (du k caps fi fg fc fe):=vB hi.ic hg ht hc he
def iB (n:Nat) (ds:List D):En:=ds.map Sl.v++List.replicate (n-ds.length) Sl.e
def Eb (st:En):Rs->Option Rz
 | .d x=>some (x,false)
 | .f x=>some (x,true)
 | .s i=>match st[i]? with
  | some (.o x)=>some (x,true)
  | some (.v x)=>some (x,false)
  | _=>none
def fin:Ot->Option Rz
 | .nx _=>some (.non,false)
 | .rt r st=>Eb st r
 | _=>none
def bQ (F:FS) (n m:Nat):List D->Option Rz:=fun ds=>if ds.length=m then(F (iB n ds)).bind fin else none
theorem vC {N:List Str} (el:El K Z H vs ds) (lv:∀p,Z p->Lv H p):ER K (iB N.length ds) (L2.start N vs) H (fun _=>False) Z:=by
 have gv:∀(i:Nat) s,(iB N.length ds)[i]?=some s->s.get≠none->∃d,s=.v d/\ds[i]?=some d:=fun i s e n=>by
  unfold iB at e;by_cases hi:i<ds.length
  ·rw[Qi (by simpa using hi),Qb]at e
   obtain⟨d,h1,h2⟩:=Zd.mp e;exact⟨d,h2.symm,h1⟩
  ·rw[Xg (by simpa using hi),AH]at e
   by_cases hz:i-(ds.map Sl.v).length<N.length-ds.length
   ·rw[Af hz]at e;cases e;exact absurd rfl n
   ·rw[Ah hz]at e;cases e
 have no:∀(i:Nat) s d,(iB N.length ds)[i]?=some s->s.ow=some d->False:=fun i s d e h=>by
  obtain⟨x,rfl,_⟩:=gv i s e (gr h);cases h
 refine⟨by simp[iB,L2.start,el.1],fun i d e=>?_,fun i s d e h=>(no i s d e h).elim,fun i j s t d d' p e h=>(no i s d e h).elim,fun p h=>h.elim,fun p h=>h.elim (fun z=>z.elim) (lv p)⟩
 obtain⟨x,h1,h2⟩:=gv i _ e (by simp[Sl.get])
 cases h1;obtain⟨v,g1,g2⟩:=el.at h2;refine⟨v,?_,g2.less fun b z=>z.elim (fun y=>y.elim) fun y=>y⟩;unfold L2.start;have hi:=(Xa.mp g1).1;rw[Qi (by simpa using hi),Qb,g1];rfl
theorem yi {N:List Str} (h:RdS K ts F) (sp:spV K (bQ F N.length m) vs H Q XE):ts { nx:=fun _ H'=>Q .non H',rt:=Q } (L2.start N vs) H:=by
 obtain⟨Z,ds,z,el,lv,e,q⟩:=sp;have hm:ds.length=m:=by
  by_cases hm:ds.length=m
  ·exact hm
  ·simp only[bQ,Ah hm]at e;cases e
 simp only[bQ,Af hm]at e;refine bsO e fun o e1 e2=>?_;have same:∀{O':AS} {H':Hp},Ext (fun _=>False) H O' H'->Same H H':=fun {O' H'} x b o e=>x.kp b o e fun z=>z;refine h _ _ H _ Z _ (vC el lv) o e1 ?_;cases o with
 | nx s =>
  cases e2;exact fun σ' H' O' x _ _=>q .non H' (same x) .non
 | bk s=>cases e2
 | ct s=>cases e2
 | rt r s =>
  intro v σ' H' O' x k E rv w;have sub:∀b,Z b->U O' Z b:=fun b z=>.inr z;cases r with
  | d y=>cases e2;exact q v H' (same x) (DA.less (show DA K (U O' Z) H' v y from rv) sub)
  | f y =>
   cases e2;obtain⟨p,rfl,h1,h2,h3,_⟩:=rv;exact q _ H' (same x) ⟨p,rfl,w p rfl,h3.go rfl (fun _ _ e _=>e) fun b z=>.inl (z.elim .inl fun y=>.inr (.inr y))⟩
  | s i =>
   obtain⟨h1,t,h2,h3⟩:=rv
   have e2':(match s[i]? with
    | some (.o x)=>some (x,true)
    | some (.v x)=>some (x,false)
    | _=>none)=some z:=e2
   rw[h2]at e2';cases t with
   | e=>cases e2'
   | io y=>cases e2'
   | v y =>
    cases e2';obtain⟨u,g1,g2⟩:=E.val i y h2;rw[h1]at g1;cases g1;exact q v H' (same x) (g2.less sub)
   | o y =>
    cases e2';obtain⟨p,g1,g2,g3⟩:=E.own i _ y h2 rfl;rw[h1]at g1;cases g1;refine q _ H' (same x) ⟨p,rfl,(x.nw p g2).elim (fun z=>z.elim) (fun z=>z),g3.go rfl (fun _ _ e _=>e) fun b z=>.inl (z.elim (fun y=>.inl (by rw[y];exact g2)) fun y=>.inr y)⟩
def eK (n:Nat) (x:D) (ds:List D):En:=Sl.io x::(ds.map Sl.v++List.replicate (n-(ds.length+1)) Sl.e)
def ue (z:Option Rz) (st:En):Option (Rz×D):=match st[0]? with
 | some (Sl.io x)=>z.bind fun y=>some (y,x)
 | _=>none
def zA:Ot->Option (Rz×D)
 | .nx st=>ue (some (.non,false)) st
 | .rt r st=>ue (Eb st r) st
 | _=>none
def dL (F:FS) (n m:Nat):D->List D->Option (Rz×D):=fun x ds=>if ds.length+1=m then(F (eK n x ds)).bind zA else none
theorem uf {N : List Str} (nz : ¬ Z f) (ho : OA K (ins f Z) H f x) (el : El K (ins f Z) H ws ds) (lv : ∀ p, Z p → Lv H p) : ER K (eK N.length x ds) (L2.start N (.ref f :: ws)) H (fun b => b = f) Z := by
  have gv : ∀ (i : Nat) s, (eK N.length x ds)[i]? = some s → s.get ≠ none → (i = 0 ∧ s = .io x) ∨ ∃ j d, i = j + 1 ∧ s = .v d ∧ ds[j]? = some d := fun i s e n => by
    cases i with
    | zero => left; exact ⟨rfl, by have : Sl.io x = s := by simpa [eK] using e
                                   exact this.symm⟩
    | succ j =>
      right;have e : (ds.map Sl.v ++ List.replicate (N.length - (ds.length + 1)) Sl.e)[j]? = some s := by simpa [eK] using e
      by_cases hi : j < ds.length
      · rw [Bs (by simpa using hi), Cj] at e
        obtain ⟨d, h1, h2⟩ := Option.map_eq_some_iff.mp e;exact ⟨j, d, rfl, h2.symm, h1⟩
      · rw [CM (by simpa using hi), AH] at e
        by_cases hz : j - (ds.map Sl.v).length < N.length - (ds.length + 1)
        · rw [Af hz] at e; cases e; exact absurd rfl n
        · rw [Ah hz] at e; cases e
  have s0 : (L2.start N (.ref f :: ws))[0]? = some (some (.ref f)) := by simp [L2.start]
  have own0 : ∀ (i : Nat) s d, (eK N.length x ds)[i]? = some s → s.ow = some d → i = 0 ∧ d = x := fun i s d e h => by
    rcases gv i s e (gr h) with ⟨h1, rfl⟩ | ⟨j, d', _, rfl, _⟩
    · cases h; exact ⟨h1, rfl⟩
    · cases h
  refine ⟨by simp [eK, L2.start, el.1], fun i d e => ?_, fun i s d e h => ?_, fun i j s t d d' p e h e' h' _ _ => ?_, fun p h => by rw [h]; exact nz, fun p h => ?_⟩
  · rcases gv i _ e (by simp [Sl.get]) with ⟨_, h⟩ | ⟨j, d', rfl, h, h2⟩
    · cases h
    · cases h
      obtain ⟨v, g1, g2⟩ := el.at h2;refine ⟨v, ?_, g2⟩;have hi := (List.getElem?_eq_some_iff.mp g1).1;unfold L2.start;rw [Bs (by simp; lia), Cj]
      simp [g1]
  · obtain ⟨rfl, rfl⟩ := own0 i s d e h
    exact ⟨f, s0, rfl, ho⟩
  · rw [(own0 i s d e h).1, (own0 j t d' e' h').1]
  · rcases h with h | h
    · rw [h]; exact ho.lv
    · exact lv p h
theorem uk {N:List Str} (h:RdS K ts F) (sp:pB K (dL F N.length m) vs H Q XE):ts { nx:=fun _ H'=>Q .non H',rt:=Q } (L2.start N vs) H:=by
 obtain⟨f,ws,Z,x,ds,z,x',rfl,nz,ho,el,lv,e,q⟩:=sp;have hm:ds.length+1=m:=by
  by_cases hm:ds.length+1=m
  ·exact hm
  ·simp only[dL,Ah hm]at e;cases e
 simp only[dL,Af hm]at e;refine bsO e fun o e1 e2=>?_;have but:∀{O':AS} {H':Hp},Ext (fun b=>b=f) H O' H'->∀b o,H b=some o->b≠f->H' b=some o:=fun {O' H'} x b o e n=>x.kp b o e n;have i0:(eK N.length x ds)[0]?=some (.io x):=rfl;have s0:(L2.start N (.ref f::ws))[0]?=some (some (.ref f)):=by simp[L2.start]
 have f0:∀{s:En} {σ':St} {H':Hp} {O':AS} {y:D},Kq (eK N.length x ds) (L2.start N (.ref f::ws)) s σ'->ER K s σ' H' O' Z->s[0]?=some (.io y)->O' f/\OA K (U O' Z) H' f y:=fun {s σ' H' O' y} k E e=>by
  obtain⟨g1,_⟩:=k.io 0 x i0;obtain⟨p,h1,h2,h3⟩:=E.own 0 _ y e rfl;rw[g1,s0]at h1;cases h1;exact⟨h2,h3⟩
 refine h _ _ H _ Z _ (uf nz ho el lv) o e1 ?_;cases o with
 | bk s=>cases e2
 | ct s=>cases e2
 | nx s =>
  intro σ' H' O' x2 k E;have e3:ue (some (.non,false)) s=some (z,x'):=e2;unfold ue at e3;split at e3
  ·rename_i y ey
   cases e3;obtain⟨h1,h2⟩:=f0 k E ey;exact q .non H' (but x2) ⟨.non,h2.go rfl (fun _ _ e _=>e) fun b z=>.inl (z.elim (fun w=>.inl (by rw[w];exact h1)) .inr)⟩
  ·cases e3
 | rt r s =>
  intro v σ' H' O' x2 k E rv w;have e3:ue (Eb s r) s=some (z,x'):=e2;unfold ue at e3;split at e3
  ·rename_i y ey
   refine bsO e3 fun z' e4 e3=>?_;cases e3;obtain⟨h1,h2⟩:=f0 k E ey;have sub:∀b,ins f Z b->U O' Z b:=fun b z=>z.elim (fun w=>.inl (by rw[w];exact h1)) .inr
   cases r with
   | d u=>cases e4;exact q v H' (but x2) ⟨DA.less (show DA K (U O' Z) H' v u from rv) sub,h2.go rfl (fun _ _ e _=>e) fun b z=>.inl (sub b z)⟩
   | f u =>
    cases e4;obtain⟨p,rfl,g1,g2,g3,E2⟩:=rv;obtain⟨h3,h4⟩:=f0 k E2 ey;exact q _ H' (but x2) ⟨p,rfl,w p rfl,g3.go rfl (fun _ _ e _=>e) (fun b z=>.inl (z.elim .inl fun y=>.inr (sub b y))),h4.go rfl (fun _ _ e _=>e) fun b z=>.inl (z.elim (fun y=>.inl (.inl y)) fun y=>(sub b y).elim (fun a=>.inl (.inr a)) .inr)⟩
   | s i =>
    obtain⟨g1,t,g2,g3⟩:=rv
    have e5:(match s[i]? with
     | some (.o x)=>some (x,true)
     | some (.v x)=>some (x,false)
     | _=>none)=some z:=e4
    rw[g2]at e5;cases t with
    | e=>cases e5
    | io u=>cases e5
    | v u =>
     cases e5;obtain⟨u',j1,j2⟩:=E.val i u g2;rw[g1]at j1;cases j1;exact q v H' (but x2) ⟨j2.less sub,h2.go rfl (fun _ _ e _=>e) fun b z=>.inl (sub b z)⟩
    | o u =>
     cases e5;obtain⟨p,j1,j2,j3⟩:=E.own i _ u g2 rfl;rw[g1]at j1;cases j1;have npf:p≠f:=fun z=>by
      subst z;obtain⟨p0,l1,_⟩:=E.own 0 _ _ ey rfl;obtain⟨l2,_⟩:=k.io 0 x i0;rw[l2,s0]at l1;cases l1;have:=E.uni i 0 _ _ u _ _ g2 rfl ey rfl g1 (by rw[l2,s0])
      subst this;rw[ey]at g2;cases g2
     have hp:H p=none:=(x2.nw p j2).elim (fun z=>absurd z npf) (fun z=>z);have sub2:∀b,ins p (ins f Z) b->U O' Z b:=fun b z=>z.elim (fun y=>.inl (by rw[y];exact j2)) (sub b)
     exact q _ H' (but x2) ⟨p,rfl,hp,j3.go rfl (fun _ _ e _=>e) (fun b z=>.inl (sub2 b z)),h2.go rfl (fun _ _ e _=>e) fun b z=>.inl (sub2 b z)⟩
  ·cases e3
theorem Ec (sp:spV K (bQ F n m) vs H Q XE):vs.length=m:=by
 obtain⟨Z,ds,z,el,lv,e,q⟩:=sp;by_cases hm:ds.length=m
 ·exact el.1.trans hm
 ·simp only[bQ,Ah hm]at e;cases e
theorem Gj (sp:pB K (dL F n m) vs H Q XE):vs.length=m:=by
 obtain⟨f,ws,Z,x,ds,z,x',rfl,nz,ho,el,lv,e,q⟩:=sp;by_cases hm:ds.length+1=m
 ·have:=el.1;simp;lia
 ·simp only[dL,Ah hm]at e;cases e
end
end VF
namespace VF
open PySem L2
section
variable {K:Ab} {Y Y':AS} {H H':Hp} {v:V} {d:D} {vs:List V} {ds:List D}
def orD (b b':D->D->Option Rz):D->D->Option Rz:=fun x y=>match b x y with
 | some z=>some z
 | none=>b' x y
theorem RdOp.or (h:RdOp K r b) (h':RdOp K r' b'):RdOp K (fun x y H Q=>r x y H Q∨r' x y H Q) (orD b b'):=by grind [RdOp,orD]
def orC (b b':List D->Option Rz):List D->Option Rz:=fun x=>match b x with
 | some z=>some z
 | none=>b' x
theorem RdCB.or (h:RdCB K r b) (h':RdCB K r' b'):RdCB K (fun xs H Q=>r xs H Q∨r' xs H Q) (orC b b'):=by grind [RdCB,orC]
def bI0 (g:Int->Int->D):D->D->Option Rz
 | .int i,.int j=>some (g i j,false)
 | _,_=>none
theorem m9 (h:∀Y H i j,DA K Y H (gV i j) (gD i j)):RdOp K (rI0 gV) (bI0 gD):=by
 intro Y H x y d1 d2 z Q lv b1 b2 e q;cases d1 with
 | int i =>
  cases d2 with
  | int j =>
   cases e;exact⟨i,j,b1,b2,q _ H (Same.refl H) (h Y H i j)⟩
  | _=>cases e
 | _=>cases e
def bI (C:Int->Int->Prop) [∀i j,Decidable (C i j)] (g:Int->Int->D):D->D->Option Rz
 | .int i,.int j=>if C i j then some (g i j,false) else none
 | _,_=>none
theorem yj [dc:∀i j,Decidable (C i j)] (h:∀Y H i j,DA K Y H (gV i j) (gD i j)):RdOp K (rI C gV) (bI C gD):=by
 intro Y H x y d1 d2 z Q lv b1 b2 e q;cases d1 with
 | int i =>
  cases d2 with
  | int j =>
   obtain⟨c,e⟩:=aD e;cases e;exact⟨i,j,b1,b2,c,q _ H (Same.refl H) (h Y H i j)⟩
  | _=>cases e
 | _=>cases e
instance (i j:Int):Decidable (CMul i j):=by unfold CMul;infer_instance
instance (i j:Int):Decidable (qK i j):=by unfold qK;infer_instance
instance (i j:Int):Decidable (u3 i j):=by unfold u3;infer_instance
def vD:=bI0 fun i j=>.int (i+j)
def fj:=bI0 fun i j=>.int (i-j)
def vE:=bI CMul fun i j=>.int (i*j)
def yk:=bI qK fun i j=>.int (i / j)
def fG:=bI (fun _ j=>0<j) fun i j=>.int (i % j)
def Ed:=bI u3 fun i j=>.int (i ^ j.toNat)
def Gk:=bI0 fun i j=>.bl (decide (i<j))
def bLe:=bI0 fun i j=>.bl (decide (i<=j))
def bGt:=bI0 fun i j=>.bl (decide (j<i))
def bGe:=bI0 fun i j=>.bl (decide (j<=i))
theorem ro_addI:RdOp K (rI0 fun i j=>.int (i+j)) vD:=m9 fun _ _ _ _=>.int _
theorem cI:RdOp K (rI0 fun i j=>.int (i-j)) fj:=m9 fun _ _ _ _=>.int _
theorem ro_mulI:RdOp K (rI CMul fun i j=>.int (i*j)) vE:=yj fun _ _ _ _=>.int _
theorem vF:RdOp K (rI qK fun i j=>.int (i / j)) yk:=yj fun _ _ _ _=>.int _
theorem fH:RdOp K (rI (fun _ j=>0<j) fun i j=>.int (i % j)) fG:=yj fun _ _ _ _=>.int _
theorem Ee:RdOp K (rI u3 fun i j=>.int (i ^ j.toNat)) Ed:=yj fun _ _ _ _=>.int _
theorem ro_ltI:RdOp K (rI0 fun i j=>.bl (decide (i<j))) Gk:=m9 fun _ _ _ _=>.bl _
theorem nc:RdOp K (rI0 fun i j=>.bl (decide (i<=j))) bLe:=m9 fun _ _ _ _=>.bl _
theorem vG:RdOp K (rI0 fun i j=>.bl (decide (j<i))) bGt:=m9 fun _ _ _ _=>.bl _
theorem zB:RdOp K (rI0 fun i j=>.bl (decide (j<=i))) bGe:=m9 fun _ _ _ _=>.bl _
def pF:D->Option Rz
 | .int i=>some (.int (-i),false)
 | _=>none
theorem lw:Gf K (rU fun i=>.int (-i)) pF:=by
 intro Y H x d1 z Q lv b1 e q;cases d1 with
 | int i=>cases e;exact⟨i,b1,q _ H (Same.refl H) (.int _)⟩
 | _=>cases e
def scD:D->Option V
 | .non=>some .non
 | .bl b=>some (.bl b)
 | .int i=>some (.int i)
 | .str x=>some (.str x)
 | _=>none
theorem jD (h:BA K Y H v d) (e:scD d=some w):v=w:=by
 cases d with
 | non=>cases e;exact h
 | bl b=>cases e;exact h
 | int i=>cases e;exact h
 | str x=>cases e;exact h
 | _=>cases e
theorem pG (e:scD d=some w):gY w=true:=by
 cases d with
 | non=>cases e;rfl
 | bl b=>cases e;rfl
 | int i=>cases e;rfl
 | str x=>cases e;rfl
 | _=>cases e
def qZ (neg:Bool):D->D->Option Rz:=fun a b=>(scD a).bind fun x=>(scD b).bind fun y=>if DC x y=true then some (.bl (if neg then !decide (x=y) else decide (x=y)),false) else none
theorem Ef:RdOp K rEq (qZ false):=by
 intro Y H x y d1 d2 z Q lv b1 b2 e q;refine bsO e fun x' e1 e=>?_;refine bsO e fun y' e2 e=>?_;obtain⟨c,e⟩:=aD e;cases e;obtain rfl:=jD b1 e1;obtain rfl:=jD b2 e2;exact⟨c,q _ H (Same.refl H) (.bl _)⟩
theorem ro_neS:RdOp K rNe (qZ true):=by
 intro Y H x y d1 d2 z Q lv b1 b2 e q;refine bsO e fun x' e1 e=>?_;refine bsO e fun y' e2 e=>?_;obtain⟨c,e⟩:=aD e;cases e;obtain rfl:=jD b1 e1;obtain rfl:=jD b2 e2;exact⟨c,q _ H (Same.refl H) (.bl _)⟩
def vH:D->D->Option Rz
 | .str a,.str b=>if a.length+b.length<=1000000 then some (.str (a++b),false) else none
 | _,_=>none
theorem ro_addS:RdOp K (fun x y H Q=>∃i j,x=.str i/\y=.str j/\i.length+j.length<=sizeLine/\Q (.str (i++j)) H) vH:=by
 intro Y H x y d1 d2 z Q lv b1 b2 e q;cases d1 with
 | str a =>
  cases d2 with
  | str b =>
   obtain⟨c,e⟩:=aD e;cases e;exact⟨a,b,b1,b2,few c,q _ H (Same.refl H) (.str _)⟩
  | _=>cases e
 | _=>cases e
theorem fI (el:El K Y H vs ds) (hp:H p=none):RES K Y H (upd H p (.lst vs)) (.ref p) (.lst ds,true) :=
 ⟨p,rfl,hp,vs,aM,el.away (aR hp _) hp⟩
theorem pH (el:El K Y H vs ds) (hp:H p=none) (lv:∀p,Y p->Lv H p):RES K Y H (upd H p (.tup vs)) (.ref p) (.tup ds,false) :=
 .tup ⟨aM,fun z=>(lv p z).1 hp⟩ el.1 (el.same (aR hp _)).2
def yn:D->D->Option Rz
 | .lst a,.lst b=>if a.length+b.length<=1000000 then some (.lst (a++b),true) else none
 | _,_=>none
theorem ro_cat:RdOp K DW yn:=by
 intro Y H x y d1 d2 z Q lv b1 b2 e q;cases d1 with
 | lst a =>
  cases d2 with
  | lst b =>
   obtain⟨c,e⟩:=aD e;cases e;obtain⟨p,xs,rfl,hp,el⟩:=b1;obtain⟨p2,ys,rfl,hp2,el2⟩:=b2;exact⟨p,p2,xs,ys,rfl,rfl,hp,hp2,by rw[el.1,el2.1];exact few c,fun r hr=>q _ _ (aR hr _) (fI (el.app el2) hr)⟩
  | _=>cases e
 | _=>cases e
def zC:D->D->Option Rz
 | .tup (x::a),.tup (y::b)=>if a.length+b.length<=999998 then some (.tup ((x::a)++(y::b)),false) else none
 | .tup (x::a),.tup []=>if a.length<=999998 then some (.tup (x::a),false) else none
 | _,_=>none
theorem yo:RdOp K (vf K) zC:=by
 intro Y H x y d1 d2 z Q lv b1 b2 e q;cases d1 with
 | tup a =>
  cases a with
  | nil=>cases e
  | cons a0 a =>
  cases d2 with
  | tup b =>
   obtain⟨p,xs,rfl,hp,el⟩:=b1;obtain⟨p2,ys,rfl,hp2,el2⟩:=b2;have hx:xs≠[]:=fun z=>by have:=el.1;rw[z]at this;cases this
   cases b with
   | nil =>
    obtain⟨c,e⟩:=aD e;cases e;obtain rfl:=el2.unnil;exact⟨p,p2,xs,[],rfl,rfl,hp.sq,hp2.sq,hx,by rw[el.1];exact few (by simp;lia),fun _=>q _ H (Same.refl H) (.tup hp el.1 el.2),fun z=>absurd rfl z⟩
   | cons b0 b =>
    obtain⟨c,e⟩:=aD e;cases e;have hy:ys≠[]:=fun z=>by have:=el2.1;rw[z]at this;cases this
    exact⟨p,p2,xs,ys,rfl,rfl,hp.sq,hp2.sq,hx,by rw[el.1,el2.1];exact few (by simp;lia),fun z=>absurd z hy,fun _ r hr=>q _ _ (aR hr _) (pH (el.app el2) hr lv)⟩
  | _=>cases e
 | _=>cases e
def bK:=orD vD (orD vH (orD yn zC))
def zD:D->D->Option Rz
 | .str a,.int n=>if 0<=n/\n<=1000/\a.length<=1000 then some (.str (Txt.mul a n),false) else none
 | _,_=>none
theorem yp:RdOp K (fun x y H Q=>∃(a:Str) (n:Int),x=.str a/\y=.int n/\MulOk a n/\Q (.str (Txt.mul a n)) H) zD:=by
 intro Y H x y d1 d2 z Q lv b1 b2 e q;cases d1 with
 | str a =>
  cases d2 with
  | int n =>
   obtain⟨c,e⟩:=aD e;cases e;exact⟨a,n,b1,b2,mulOk_of c.1 c.2.1 c.2.2,q _ H (Same.refl H) (.str _)⟩
  | _=>cases e
 | _=>cases e
def d6:=orD vE zD
def Gm:D->D->Option Rz
 | .str a,.str b=>some (.bl (decide (a.cps.toList<b.cps.toList)),false)
 | _,_=>none
theorem Eg:RdOp K (fun x y H Q=>∃i j,x=.str i/\y=.str j/\Q (.bl (decide (i.cps.toList<j.cps.toList))) H) Gm:=by
 intro Y H x y d1 d2 z Q lv b1 b2 e q;cases d1 with
 | str a =>
  cases d2 with
  | str b=>cases e;exact⟨a,b,b1,b2,q _ H (Same.refl H) (.bl _)⟩
  | _=>cases e
 | _=>cases e
def bLt:=orD Gk Gm
def Gn (neg:Bool):D->D->Option Rz
 | .str a,.str b=>some (.bl (if neg then !(!(Builtin.Str.occurrences b a 0 b.length 1).isEmpty) else !(Builtin.Str.occurrences b a 0 b.length 1).isEmpty),false)
 | _,_=>none
theorem ro_inS:RdOp K (fun x y H Q=>∃i j,x=.str i/\y=.str j/\Q (.bl (!(Builtin.Str.occurrences j i 0 j.length 1).isEmpty)) H) (Gn false):=by
 intro Y H x y d1 d2 z Q lv b1 b2 e q;cases d1 with
 | str a =>
  cases d2 with
  | str b=>cases e;exact⟨a,b,b1,b2,q _ H (Same.refl H) (.bl _)⟩
  | _=>cases e
 | _=>cases e
def ng:List D->Option (List V)
 | []=>some []
 | d::r=>(scD d).bind fun v=>(ng r).bind fun vs=>some (v::vs)
theorem pI:∀{ds:List D} {vs ws:List V},El K Y H vs ds->ng ds=some ws->vs=ws/\ws.all gY=true
 | [],vs,ws,el,e=>by cases e;exact⟨el.unnil,rfl⟩
 | d::r,vs,ws,el,e=>by
  refine bsO e fun w e1 e=>?_;refine bsO e fun ws' e2 e=>?_;cases e;obtain⟨v,t,rfl,da,el⟩:=el.uncons;obtain⟨rfl,h⟩:=pI el e2;have hv:=jD da.ba e1;subst hv;exact⟨rfl,by rw[CZ,pG e1,h];rfl⟩
def D.seq:D->Option (List D)
 | .lst ds=>some ds
 | .tup ds=>some ds
 | .fl ds=>some ds
 | _=>none
theorem lA (h:BA K Y H v d) (e:d.seq=some ds):∃a vs,v=.ref a/\(SqL K H a vs∨SqT K H a vs)/\El K Y H vs ds:=by
 cases d with
 | lst _=>cases e;obtain⟨a,vs,h1,h2,h3⟩:=h;exact⟨a,vs,h1,.inl (.inl (.inl h2)),h3⟩
 | tup _=>cases e;obtain⟨a,vs,h1,h2,h3⟩:=h;exact⟨a,vs,h1,.inr h2.sq,h3⟩
 | fl _=>cases e;obtain⟨a,vs,h1,h2,h3⟩:=h;exact⟨a,vs,h1,.inl h2.sq,h3⟩
 | _=>cases e
def Gp (neg:Bool):D->D->Option Rz:=fun a b=>(scD a).bind fun x=>(b.seq).bind fun ds=>(ng ds).bind fun ws=>some (.bl (if neg then !inV x ws else inV x ws),false)
theorem Eh (neg:Bool):RdOp K (rIn K neg) (Gp neg):=by
 intro Y H x y d1 d2 z Q lv b1 b2 e q;refine bsO e fun x' e1 e=>?_;refine bsO e fun ds e2 e=>?_;refine bsO e fun ws e3 e=>?_;cases e;obtain⟨a,vs,rfl,sq,el⟩:=lA b2 e2;obtain rfl:=jD b1 e1;obtain⟨rfl,h⟩:=pI el e3;exact⟨a,vs,rfl,sq,pG e1,h,q _ H (Same.refl H) (.bl _)⟩
def bIn:=orD (Gn false) (Gp false)
def vI:D->D->Option Rz
 | .lst ds,.int i=>(atI ds i).bind fun d=>some (d,false)
 | .fl ds,.int i=>(atI ds i).bind fun d=>some (d,false)
 | _,_=>none
def Ei:D->D->Option Rz
 | .tup ds,.int i=>(atI ds i).bind fun d=>some (d,false)
 | _,_=>none
def Gq:D->D->Option Rz
 | .str z,.int i=>if z.length<=1000000 then(atI z.cps.toList i).bind fun c=>some (.str ⟨#[c]⟩,false) else none
 | _,_=>none
theorem q0 (el:El K Y H vs ds) (e:atI ds i=some d):∃v,atI vs i=some v/\DA K Y H v d:=by
 unfold atI at e ⊢;rw[el.1];refine bsO e fun j e1 e2=>?_;obtain⟨v,h1,h2⟩:=el.at e2;exact⟨v,by rw[e1];exact h1,h2⟩
theorem ro_ixL:RdOp K (DL K) vI:=by
 intro Y H x y d1 d2 z Q lv b1 b2 e q;cases d1 with
 | lst a =>
  cases d2 with
  | int i =>
   refine bsO e fun d e1 e=>?_;cases e;obtain⟨p,xs,rfl,hp,el⟩:=b1;obtain⟨v,h1,h2⟩:=q0 el e1;exact⟨p,xs,i,v,rfl,b2,.inl (.inl hp),h1,q v H (Same.refl H) h2⟩
  | _=>cases e
 | fl a =>
  cases d2 with
  | int i =>
   refine bsO e fun d e1 e=>?_;cases e;obtain⟨p,xs,rfl,hp,el⟩:=b1;obtain⟨v,h1,h2⟩:=q0 el e1;exact⟨p,xs,i,v,rfl,b2,hp.sq,h1,q v H (Same.refl H) h2⟩
  | _=>cases e
 | _=>cases e
theorem ro_ixT:RdOp K (DM K) Ei:=by
 intro Y H x y d1 d2 z Q lv b1 b2 e q;cases d1 with
 | tup a =>
  cases d2 with
  | int i =>
   refine bsO e fun d e1 e=>?_;cases e;obtain⟨p,xs,rfl,hp,el⟩:=b1;obtain⟨v,h1,h2⟩:=q0 el e1;exact⟨p,xs,i,v,rfl,b2,hp.sq,h1,q v H (Same.refl H) h2⟩
  | _=>cases e
 | _=>cases e
theorem Ej:RdOp K DN Gq:=by
 intro Y H x y d1 d2 z Q lv b1 b2 e q;cases d1 with
 | str a =>
  cases d2 with
  | int i =>
   obtain⟨c,e⟩:=aD e;refine bsO e fun ch e1 e=>?_;cases e;exact⟨a,i,ch,b1,b2,few c,e1,q _ H (Same.refl H) (.str _)⟩
  | _=>cases e
 | _=>cases e
def bIx:=orD vI (orD Ei Gq)
theorem aX:RdOp K (rIx K) bIx:=ro_ixL.or (ro_ixT.or Ej)
abbrev FO:=En->Option (Option Int×En)
def RdO (K:Ab) (t:TO) (f:FO):Prop:=∀(st:En) (σ:St) (H:Hp) (O Z:AS) (Q:Option Int->Hp->Prop),ER K st σ H O Z->∀c st',f st=some (c,st') ->
 (∀H' O',Ext O H O' H'->Kp st st'->ER K st' σ H' O' Z->Q c H')->t σ H Q
def asInt (st:En) (r:Rs):Option Int:=match cont st r with
 | some (.int i)=>some i
 | _=>none
def lB (fe:FE):FO:=fun st=>(fe st).bind fun x=>(asInt x.2 x.1).bind fun i=>some (some i,x.2)
theorem pJ (h:RdE K te fe):RdO K (zv te) (lB fe):=by
 intro st σ H O Z Q E c st' e q;refine bsP e fun r st1 e1 e=>?_;refine bsO e fun i e2 e=>?_;cases e;refine h st σ H O Z _ E r _ e1 fun v H1 O1 x1 k1 E1 rv w=>?_;have ev:v=.int i:=by
  unfold asInt at e2;split at e2
  ·rename_i j ej
   cases e2;exact rv.ba E1 ej
  ·cases e2
 exact⟨i,ev,q H1 O1 x1 k1 E1⟩
def RdSl (K:Ab) (r:V->Option Int->Option Int->Hp->VK->Prop) (b:D->Option Int->Option Int->Option Rz):Prop:=∀(Y:AS) (H:Hp) (x:V) (lo hi:Option Int) (d1:D) (z:Rz) (Q:VK),(∀p,Y p->Lv H p)->BA K Y H x d1->b d1 lo hi=some z ->
 (∀v H',Same H H'->RES K Y H H' v z->Q v H')->r x lo hi H Q
def fSl (b:D->Option Int->Option Int->Option Rz) (fe:FE) (fl fh:FO):FE:=fun st=>(fe st).bind fun x=>(fl x.2).bind fun l=>(fh l.2).bind fun u=>(cont u.2 x.1).bind fun d=>(b d l.1 u.1).bind fun z=>some (mk z,u.2)
theorem vJ (hr:RdSl K r b) (he:RdE K te fe) (hl:RdO K tl fl) (hh:RdO K th fh):RdE K (tSl r te tl th) (fSl b fe fl fh):=by
 intro st σ H O Z Q E r' st' h q;refine bsP h fun r1 st1 e1 h=>?_;refine bsP h fun lo st2 e2 h=>?_;refine bsP h fun hi st3 e3 h=>?_;refine bsO h fun d1 e4 h=>?_;refine bsO h fun z e5 h=>?_;cases h;refine he st σ H O Z _ E r1 st1 e1 fun v1 H1 O1 x1 k1 E1 rv1 w1=>?_;refine hl st1 σ H1 O1 Z _ E1 lo st2 e2 fun H2 O2 x2 k2 E2=>?_;refine hh st2 σ H2 O2 Z _ E2 hi _ e3 fun H3 O3 x3 k3 E3=>?_;have b1:=(rv1.nf.ext (x2.trans x3) (k2.trans k3)).ba E3 (by rw[fF];exact e4)
 refine hr (U O3 Z) H3 v1 lo hi d1 z _ E3.liv b1 e5 fun v H4 s hres=>?_;obtain⟨E4,rv4⟩:=hres.rv E3 s;have xx:=(x1.trans x2).trans x3;exact q v H4 O3 (xx.trans (Same.ext s)) ((k1.trans k2).trans k3) E4 rv4 (hres.fsh.back xx)
def cutD (xs:List D) (lo hi:Option Int):List D:=(xs.drop (HT.sIx xs.length 0 lo)).take (HT.sIx xs.length xs.length hi-HT.sIx xs.length 0 lo)
theorem El.cut (el:El K Y H vs ds) (lo hi:Option Int):El K Y H (pk vs lo hi) (cutD ds lo hi):=by
 unfold pk cutD;rw[el.1];exact(el.drop _).take _
def orS (b b':D->Option Int->Option Int->Option Rz):D->Option Int->Option Int->Option Rz:=fun x l h=>match b x l h with
 | some z=>some z
 | none=>b' x l h
theorem RdSl.or (h:RdSl K r b) (h':RdSl K r' b'):RdSl K (fun x lo hi H Q=>r x lo hi H Q∨r' x lo hi H Q) (orS b b'):=by grind [RdSl,orS]
def Ek:D->Option Int->Option Int->Option Rz
 | .lst ds,lo,hi=>some (.lst (cutD ds lo hi),true)
 | .fl ds,lo,hi=>some (.lst (cutD ds lo hi),true)
 | _,_,_=>none
theorem Gr:RdSl K (DR K) Ek:=by
 intro Y H x lo hi d1 z Q lv b1 e q;cases d1 with
 | lst a =>
  cases e;obtain⟨p,xs,rfl,hp,el⟩:=b1;exact⟨p,xs,rfl,.inl (.inl hp),fun r hr=>q _ _ (aR hr _) (fI (el.cut lo hi) hr)⟩
 | fl a =>
  cases e;obtain⟨p,xs,rfl,hp,el⟩:=b1;exact⟨p,xs,rfl,hp.sq,fun r hr=>q _ _ (aR hr _) (fI (el.cut lo hi) hr)⟩
 | _=>cases e
def yq:D->Option Int->Option Int->Option Rz
 | .tup ds,lo,hi=>if HT.sIx ds.length 0 lo=0/\HT.sIx ds.length ds.length hi=ds.length then none else some (.tup (cutD ds lo hi),false)
 | _,_,_=>none
theorem Gs:RdSl K (DI K) yq:=by
 intro Y H x lo hi d1 z Q lv b1 e q;cases d1 with
 | tup a =>
  by_cases c:HT.sIx a.length 0 lo=0/\HT.sIx a.length a.length hi=a.length
  ·simp only[yq,Af c]at e;cases e
  ·simp only[yq,Ah c]at e;cases e;obtain⟨p,xs,rfl,hp,el⟩:=b1;exact⟨p,xs,rfl,hp.sq,by rw[el.1];exact c,fun r hr=>q _ _ (aR hr _) (pH (el.cut lo hi) hr lv)⟩
 | _=>cases e
def Gu:D->Option Int->Option Int->Option Rz
 | .str z,lo,hi=>if z.length<=1000000 then some (.str (Txt.slice z lo hi),false) else none
 | _,_,_=>none
theorem Gv:RdSl K (fun x lo hi H Q=>∃z:Str,x=.str z/\z.length<=sizeLine/\Q (.str (Txt.slice z lo hi)) H) Gu:=by
 intro Y H x lo hi d1 z Q lv b1 e q;cases d1 with
 | str a =>
  obtain⟨c,e⟩:=aD e;cases e;exact⟨a,b1,few c,q _ H (Same.refl H) (.str _)⟩
 | _=>cases e
def bSl:=orS Ek (orS yq Gu)
def zE:List D->Option Rz
 | [d]=>(d.seq).bind fun ds=>some (.int ds.length,false)
 | _=>none
theorem rc_lenQ:RdCB K (fun xs H Q=>∃p ys,xs=[.ref p]/\(SqL K H p ys∨SqT K H p ys)/\Q (.int ys.length) H) zE:=by
 intro Y H xs ds z Q lv bs e q;cases bs with
 | nil=>cases e
 | cons b1 bs =>
  cases bs with
  | cons _ _=>cases e
  | nil =>
   refine bsO e fun es e1 e=>?_;cases e;obtain⟨a,vs,rfl,sq,el⟩:=lA b1 e1;refine⟨a,vs,rfl,sq,?_⟩;rw[el.1];exact q _ H (Same.refl H) (.int _)
def zF:List D->Option Rz
 | [.str z]=>if z.length<=1000000 then some (.int z.length,false) else none
 | _=>none
theorem yr:RdCB K (fun xs H Q=>∃z:Str,xs=[.str z]/\z.length<=sizeLine/\Q (.int z.length) H) zF:=by
 intro Y H xs ds z Q lv bs e q;cases bs with
 | nil=>cases e
 | @cons v vs d ds b1 bs =>
  cases bs with
  | cons _ _=>cases d<;>cases e
  | nil =>
   cases d with
   | str a =>
    obtain⟨c,e⟩:=aD e;cases e;exact⟨a,by rw[show v=V.str a from b1],few c,q _ H (Same.refl H) (.int _)⟩
   | _=>cases e
def cu:=orC zE zF
def zG:List D->Option Rz
 | [d]=>(d.seq).bind fun ds=>some (.lst ds,true)
 | _=>none
theorem rc_list:RdCB K (fun xs H Q=>∃p ys,xs=[.ref p]/\(SqL K H p ys∨SqT K H p ys)/\∀l,H l=none->Q (.ref l) (upd H l (.lst ys))) zG:=by
 intro Y H xs ds z Q lv bs e q;cases bs with
 | nil=>cases e
 | cons b1 bs =>
  cases bs with
  | cons _ _=>cases e
  | nil =>
   refine bsO e fun es e1 e=>?_;cases e;obtain⟨a,vs,rfl,sq,el⟩:=lA b1 e1;exact⟨a,vs,rfl,sq,fun r hr=>q _ _ (aR hr _) (fI el hr)⟩
def nh:List D->Option (List Bool)
 | []=>some []
 | .bl b::r=>(nh r).bind fun bs=>some (b::bs)
 | _=>none
theorem pK:∀{ds:List D} {vs:List V} {bs:List Bool},El K Y H vs ds->nh ds=some bs->vs=bs.map V.bl
 | [],vs,bs,el,e=>by cases e;exact el.unnil
 | d::r,vs,bs,el,e=>by
  obtain⟨v,t,rfl,da,el2⟩:=el.uncons;cases d with
  | bl b =>
   refine bsO e fun bs' e1 e=>?_;cases e;have h:=pK el2 e1;rw[h,show v=V.bl b from da.ba];rfl
  | _=>cases e
def isL:D->Bool
 | .lst _=>true
 | _=>false
theorem tyL (h:OA K Y H p x) (e:isL x=true):tyV K "list" (.ref p) H:=by
 cases x with
 | lst ds=>obtain⟨vs,h1,_⟩:=h;exact .inl ⟨rfl,vs,.inl (.inl h1)⟩
 | _=>cases e
theorem El.upd (h:El K Y H vs ds) (hp:Y p):El K Y (L2.upd H p o) vs ds:=h.go (fun b u e n=>by
 have hb:b≠p:=fun z=>n (by rw[z];exact hp)
 rw[aF hb];exact e) fun b z=>.inl z
theorem DA.upd (h:DA K Y H v d) (hp:Y p):DA K Y (L2.upd H p o) v d:=h.go (fun b u e n=>by
 have hb:b≠p:=fun z=>n (by rw[z];exact hp)
 rw[aF hb];exact e) fun b z=>.inl z
def ee:D->List D->Option (D×D)
 | .lst xs,[y]=>if xs.length<1000000 then some (.non,.lst (xs++[y])) else none
 | _,_=>none
theorem dG:RdM K "list" nW isL ee:=⟨fun Y H p x h e=>tyL h e,fun Y H p x vs ds y x' Q hp ho el e q=>by
 cases x with
 | lst xs =>
  cases ds with
  | nil=>cases e
  | cons d ds =>
   cases ds with
   | cons _ _=>cases e
   | nil =>
    obtain⟨c,e⟩:=aD e;cases e;obtain⟨ws,h1,h2⟩:=ho;obtain⟨v,r,rfl,da,el⟩:=el.uncons;obtain rfl:=el.unnil;exact⟨p,ws,v,rfl,rfl,h1,by rw[h2.1];exact few (by lia),q .non _ .non ⟨_,aM,(h2.app (El.one da)).upd hp⟩⟩
 | _=>cases e⟩
def n8:D->List D->Option (D×D)
 | .lst xs,[.int i]=>if -(2 ^ 63)<=i/\i<2 ^ 63 then(seqIndex? i xs.length).bind fun k=>(xs[k]?).bind fun y=>some (y,.lst (xs.eraseIdx k)) else none
 | _,_=>none
theorem vK:RdM K "list" vj isL n8:=⟨fun Y H p x h e=>tyL h e,fun Y H p x vs ds y x' Q hp ho el e q=>by
 cases x with
 | lst xs =>
  cases ds with
  | nil=>cases e
  | cons d ds =>
   cases d with
   | int i =>
    cases ds with
    | cons _ _=>cases e
    | nil =>
     obtain⟨c,e⟩:=aD e;refine bsO e fun k e1 e=>?_;refine bsO e fun y' e2 e=>?_;cases e;obtain⟨ws,h1,h2⟩:=ho;obtain⟨v,r,rfl,da,el⟩:=el.uncons;obtain rfl:=el.unnil;obtain rfl:=(show v=V.int i from da.ba);obtain⟨u,g1,g2⟩:=h2.at e2;exact⟨p,ws,i,k,u,rfl,rfl,h1,c.1,c.2,by rw[h2.1];exact e1,g1,q u _ (g2.upd hp) ⟨_,aM,(h2.erase k).upd hp⟩⟩
   | _=>cases ds<;>cases e
 | _=>cases e⟩
def vL:D->D->D->Option D
 | .lst xs,.int k,v=>(ixN xs.length k).bind fun j=>some (.lst (xs.set j v))
 | _,_,_=>none
theorem ni:vt K zw vL:=by
 intro Y H p x k v dk dv x' Q hp ho bk da e q;cases x with
 | lst xs =>
  cases dk with
  | int i =>
   refine bsO e fun j e1 e=>?_;cases e;obtain⟨ws,h1,h2⟩:=ho;exact⟨p,ws,i,j,rfl,bk,h1,by rw[h2.1];exact e1,q _ ⟨_,aM,(h2.set da j).upd hp⟩⟩
  | _=>cases e
 | _=>cases e
end
end VF
namespace VF
open PySem PySem.Spec PyProof.Rows L2
section
variable {X:Cx} {K:Ab} {Y:AS} {H:Hp} {v:V} {d:D} {vs:List V} {ds:List D}
def zH (K:Ab):R2:=fun x y H Q=>(rI0 fun i j=>.int (i+j)) x y H Q∨((∃i j,x=.str i/\y=.str j/\i.length+j.length<=sizeLine/\Q (.str (i++j)) H)∨(DW x y H Q∨vf K x y H Q))
theorem bm (h:X.K=K):OpR X (binaryOp .Add) (zH K):=op_add.or (op_add_str.or (op_cat.or (h ▸ x6)))
theorem bn:RdOp K (zH K) bK:=ro_addI.or (ro_addS.or (ro_cat.or yo))
def zI:R2:=fun x y H Q=>(rI CMul fun i j=>.int (i*j)) x y H Q∨(∃(a:Str) (n:Int),x=.str a/\y=.int n/\MulOk a n/\Q (.str (Txt.mul a n)) H)
theorem cw:OpR X (binaryOp .Mult) zI:=op_mul.or qS
theorem cx:RdOp K zI d6:=ro_mulI.or yp
def Gw:R2:=fun x y H Q=>(rI0 fun i j=>.bl (decide (i<j))) x y H Q∨(∃i j,x=.str i/\y=.str j/\Q (.bl (decide (i.cps.toList<j.cps.toList))) H)
theorem q8:OpR X (compareOp .Lt) Gw:=op_lt.or tP
theorem q9:RdOp K Gw bLt:=ro_ltI.or Eg
def Em (K:Ab):R2:=fun x y H Q=>(∃i j,x=.str i/\y=.str j/\Q (.bl (!(Builtin.Str.occurrences j i 0 j.length 1).isEmpty)) H)∨rIn K false x y H Q
theorem Ep (h:X.K=K):OpR X (compareOp .In) (Em K):=op_in_str.or (h ▸ tX)
theorem ro_inA:RdOp K (Em K) bIn:=ro_inS.or (Eh false)
def bEq:=qZ false
theorem rd (_:X.K=K) (_:X.A.units+64<cLine):OpR X (compareOp .Eq) rEq:=F6
theorem ro_eqA:RdOp K rEq bEq:=Ef
def vM:D->D->Option Rz
 | .lst xs,.lst []=>some (.bl (!xs.isEmpty),false)
 | _,_=>none
def Gx (K:Ab):R2:=fun x y H Q=>∃(a b:Addr) (xs:List V),x=.ref a/\y=.ref b/\SqL K H a xs/\SqL K H b []/\Q (.bl (!xs.isEmpty)) H
theorem Er:RdOp K (Gx K) vM:=by
 intro Y H x y d1 d2 z Q lv b1 b2 e q;cases d1 with
 | lst xs =>
  cases d2 with
  | lst ys =>
   cases ys with
   | nil =>
    cases e;obtain⟨p,ws,rfl,hp,el⟩:=b1;obtain⟨p2,zs,rfl,hp2,el2⟩:=b2;obtain rfl:=el2.unnil;refine⟨p,p2,ws,rfl,rfl,.inl (.inl hp),.inl (.inl hp2),?_⟩;have e:ws.isEmpty=xs.isEmpty:=by
     cases ws with
     | nil=>cases xs with
      | nil=>rfl
      | cons _ _=>cases el.1
     | cons _ _=>cases xs with
      | nil=>cases el.1
      | cons _ _=>rfl
    rw[e];exact q _ H (Same.refl H) (.bl _)
   | cons _ _=>cases e
  | _=>cases e
 | _=>cases e
def bNe:=orD (qZ true) vM
def Es (K:Ab):R2:=fun x y H Q=>rNe x y H Q∨Gx K x y H Q
theorem vN (h:X.K=K) (hu:X.A.units+64<cLine):OpR X (compareOp .NotEq) (Es K):=op_ne.or (by subst h;exact D5 (by lia))
theorem ro_neA:RdOp K (Es K) bNe:=ro_neS.or Er
def Gy (K:Ab):V->Option Int->Option Int->Hp->VK->Prop:=fun x lo hi H Q=>DR K x lo hi H Q∨(DI K x lo hi H Q∨(∃z:Str,x=.str z/\z.length<=sizeLine/\Q (.str (Txt.slice z lo hi)) H))
theorem Et (h:X.K=K):SlR X (Gy K):=SlR.or (h ▸ x8) (SlR.or (h ▸ DJ) D2)
theorem yt:RdSl K (Gy K) bSl:=RdSl.or Gr (RdSl.or Gs Gv)
def zJ (K:Ab):List V->Hp->VK->Prop:=fun xs H Q=>(∃p ys,xs=[.ref p]/\(SqL K H p ys∨SqT K H p ys)/\Q (.int ys.length) H)∨(∃z:Str,xs=[.str z]/\z.length<=sizeLine/\Q (.int z.length) H)
theorem bA (h:X.K=K):CallR X (.builtin "len") (zJ K):=CallR.or (h ▸ nT) nU
theorem cy:RdCB K (zJ K) cu:=rc_lenQ.or yr
theorem Eu (z:Str):El K Y H (sgn z) (qW z):=by
 refine⟨by simp[sgn,qW],fun i v d h1 h2=>?_⟩
 unfold sgn at h1;unfold qW at h2;rw[Qb]at h1 h2;obtain⟨c,e1,rfl⟩:=Zd.mp h1;rw[e1]at h2;obtain rfl:=Option.some.inj h2;exact .str _
def vO:List D->Option Rz
 | [.str z]=>if z.cps.size<=1000000 then some (.lst (qW z),true) else none
 | _=>none
def vP:List V->Hp->VK->Prop:=fun xs H Q=>∃z:Str,xs=[.str z]/\z.cps.size<=sizeLine/\∀l,H l=none->Q (.ref l) (upd H l (.lst (sgn z)))
theorem vQ:RdCB K vP vO:=by
 intro Y H xs ds z Q lv bs e q;cases bs with
 | nil=>cases e
 | @cons v vs d ds b1 bs =>
  cases bs with
  | cons _ _=>cases d<;>cases e
  | nil =>
   cases d with
   | str a =>
    obtain⟨c,e⟩:=aD e;cases e;exact⟨a,by rw[show v=V.str a from b1],few c,fun r hr=>q _ _ (aR hr _) (fI (Eu a) hr)⟩
   | _=>cases e
def vR:=orC zG vO
def vS (K:Ab):List V->Hp->VK->Prop:=fun xs H Q=>(∃p ys,xs=[.ref p]/\(SqL K H p ys∨SqT K H p ys)/\∀l,H l=none->Q (.ref l) (upd H l (.lst ys)))∨vP xs H Q
theorem re (h:X.K=K) (hc:X.calm=true):CallR X (.type "list") (vS K):=CallR.or (h ▸ nV) (lf hc)
theorem vT:RdCB K (vS K) vR:=rc_list.or vQ
def tyN:D->String
 | .non=>"NoneType"
 | .bl _=>"bool"
 | .int _=>"int"
 | .str _=>"str"
 | .tup _=>"tuple"
 | .lst _=>"list"
 | .fl _=>"list"
 | .dk _=>"dict"
 | .dt _=>"dict"
 | .ty _=>"type"
def vU (n T:String):Bool:=n == T||(n == "bool"&&T == "int")
theorem Ev:∀n∈["NoneType","bool","int","str","tuple","list","dict"],∀T∈["bool","int","str","tuple","list","dict"],
  (if (Value.type n == Value.type T)=true then some true else if PySem.W.kitMeta T=true then(fastBuiltinMro n).map (·.contains (Value.type T)) else none)=some (vU n T):=by decide +kernel
def G7:List D->Option Rz
 | [d,.ty T]=>if (["bool","int","str","tuple","list","dict"].contains T&&tyN d != "type")=true then some (.bl (vU (tyN d) T),false) else none
 | _=>none
def kC:=G7
def Gz (K:Ab):List V->Hp->VK->Prop:=fun xs H Q=>∃(Y:AS) (x:V) (d:D) (T:String),xs=[x,.ty T]/\BA K Y H x d/\(["bool","int","str","tuple","list","dict"].contains T&&tyN d != "type")=true/\Q (.bl (vU (tyN d) T)) H
theorem jE:RdCB K (Gz K) kC:=by
 intro Y H xs ds z Q lv bs e q;cases bs with
 | nil=>cases e
 | @cons v vs d ds b1 bs =>
  cases bs with
  | nil=>cases e
  | @cons v2 vs2 d2 ds2 b2 bs =>
   cases bs with
   | cons _ _=>cases d2<;>cases e
   | nil =>
    cases d2 with
    | ty T =>
     obtain⟨c,e⟩:=aD e;cases e;exact⟨Y,v,d,T,by rw[show v2=V.ty T from b2],b1,c,q _ H (Same.refl H) (.bl _)⟩
    | _=>cases e
theorem fJ (h:X.K=K):CallR X (.builtin "isinstance") (Gz K):=by
 subst h;intro pins s σ H xs us Q I rv h;obtain⟨Y,x,d,T,rfl,b1,c,q⟩:=h;obtain⟨u,w',rfl,rx,ry⟩:=vals2 rv;cases (show w'=Value.type T from ry);rw[Wg]at c;have hT:T∈["bool","int","str","tuple","list","dict"]:=List.contains_iff_mem.mp c.1;have fin:∀tk,EP X pins σ Q (.bool (vU (tyN d) T)) { s with toks:=tk }:=fun tk=>⟨.bl _,H,I.tok tk,rfl,q⟩;have ko:∀n∈["NoneType","bool","int","str","tuple","list","dict"],tyN d=n->PySem.W.kitOne X.K (.type n) (.type T)=some (vU (tyN d) T):=fun n hn e=>by
  rw[e];exact D4 (Ev n hn T hT)
 cases d with
 | non =>
  obtain rfl:=(show x=V.non from b1);exact cC I rx .non (ko "NoneType" (by decide) rfl) fin
 | bl b =>
  obtain rfl:=(show x=V.bl b from b1);exact cC I rx (.bl b) (ko "bool" (by decide) rfl) fin
 | int i =>
  obtain rfl:=(show x=V.int i from b1);exact cC I rx (.int i) (ko "int" (by decide) rfl) fin
 | str z =>
  obtain rfl:=(show x=V.str z from b1);exact cC I rx (.str z) (ko "str" (by decide) rfl) fin
 | ty n=>exact absurd c.2 (by simp[tyN])
 | lst ds =>
  obtain⟨a,vs,rfl,h1,_⟩:=b1;exact cC I rx (.lst h1) (ko "list" (by decide) rfl) fin
 | fl ds =>
  obtain⟨a,vs,rfl,h1,_⟩:=b1;cases (show u=Value.ref a from rx);obtain⟨its,_,pl,_⟩:=I.list h1.sq;obtain⟨o,ho,hc,_⟩:=pl.isList;exact As Cg I.kIn ⟨o,ho,hc⟩ (ko "list" (by decide) rfl) (fun z=>nomatch z) fin
 | tup ds =>
  obtain⟨a,vs,rfl,h1,_⟩:=b1;cases (show u=Value.ref a from rx);obtain⟨its,_,pl,_⟩:=I.tuple h1.sq;obtain⟨o,ho,hc,_⟩:=pl;exact As PySem.W.kitx_tuple I.kIn ⟨o,ho,hc⟩ (ko "tuple" (by decide) rfl) (fun z=>nomatch z) fin
 | dk ds =>
  obtain⟨a,vs,rfl,h1,_⟩:=b1;exact cC I rx (.dK h1) (ko "dict" (by decide) rfl) fin
 | dt ds =>
  obtain⟨a,ep,vs,rfl,_,h1,_⟩:=b1;exact cC I rx (.dT h1) (ko "dict" (by decide) rfl) fin
theorem kw (l:Addr) (its:Array Value) (n:Nat) (b:Addr) (more:Array Value) (m:Nat) (dd:Option Addr) (sl:Array (Option Value)) (h0:¬(!its.isEmpty&&Builtin.List.listTooLong (its.size+more.size))=true) (h1:its.size<=sizeLine) (h2:its.size+more.size<=sizeLine+1) :
  Meets (Builtin.«list.extend» ⟨[.ref l,.ref b],[]⟩) (fun _ R s=>s.heap.get? l=some { cls:=.type "list",dict:=none,data:=.seq its n,slots:=#[] }/\s.heap.get? b=some { cls:=.type "tuple",dict:=dd,data:=.seq more m,slots:=sl }/\R (.ok (.ret Value.none)) { s with heap:=s.heap.update l (Obj.mapSeq fun x=>x++more),toks:=s.toks }) :=
 .of_wp fun prog w A R s0 hh=>by
  obtain⟨hp,gg,dp,tks,oo⟩:=s0;obtain⟨hl,hb,hR⟩:=hh;have a1:=AutoSeq1.idx_int;have a2:=AutoSeq1.sub_tuple_tuple;have a3:=AutoSeq1.sub_list_list;have a4:=AutoSeq1.sub_tuple_list;have a5:=AutoSeq1.sub_list_tuple;have fits:(its++more).size<=sizeLine+1:=by
   rw[Array.size_append];exact h2
  wp_walk using (wpAny_updateSeq hl rfl (hz:=h1) (_hz':=fits)),BP hl,BP hb
  exact⟨_,rfl,hR⟩
def zK (K:Ab):V->List V->Hp->VK->Prop:=fun x vs H Q=>∃l b xs zs,x=.ref l/\vs=[.ref b]/\H l=some (.lst xs)/\SqT K H b zs/\xs.length+zs.length<=sizeLine/\Q .non (upd H l (.lst (xs++zs)))
theorem yu (h:X.K=K):MtM X "list.extend" (zK K):=by
 subst h;intro pins s σ H x vs v us Q I rx rv h;obtain⟨l,b,xs,zs,rfl,rfl,hH,hB,hz,q⟩:=h;cases rx;obtain⟨u,rfl,ru⟩:=rv.one;cases ru;obtain⟨z,its,n,r,hl,e⟩:=I.lstM hH;obtain⟨its2,r2,pl,hz2⟩:=I.tuple hB;obtain⟨⟨c2,dd2,d2,sl2⟩,ho2,hc2,n2,hd2⟩:=id pl;obtain rfl:c2=.type "tuple":=hc2;obtain rfl:d2=.seq its2.toArray n2:=hd2;have hl2:=r2.length;have hsz:its.toArray.size+its2.toArray.size<=sizeLine:=by rw[Wb,Wb];lia
 have hlong:¬ (!its.toArray.isEmpty&&Builtin.List.listTooLong (its.toArray.size+its2.toArray.size))=true:=by
  rw[pq hsz,Bool.and_false];exact Vc
 refine BJ F.slot_list_extend ⟨_,e,rfl⟩ F.entry_list_extend (F.args_list_extend_2 _ _)
  (kw l its.toArray n b its2.toArray n2 dd2 sl2 hlong (by rw[Wb];lia) (by lia)) ⟨e,ho2,?_⟩
 refine⟨.non,_,I.lset (its':=its++its2) hH e (by simp) (r.append r2) ?_,rfl,q⟩
 rw[Yb];lia
def zL (K:Ab):V->List V->Hp->VK->Prop:=fun x vs H Q=>ss x vs H Q∨zK K x vs H Q
theorem lC (h:X.K=K) (_:X.calm=true):MtM X "list.extend" (zL K):=by
 intro pins s σ H x vs v us Q I rx rv hh;rcases hh with hh|hh
 ·exact tY pins s σ H x vs v us Q I rx rv hh
 ·exact yu h pins s σ H x vs v us Q I rx rv hh
def kD:D->List D->Option (D×D)
 | .lst xs,[.lst ys]=>if xs.length+ys.length<=1000000 then some (.non,.lst (xs++ys)) else none
 | .lst xs,[.tup ys]=>if xs.length+ys.length<=1000000 then some (.non,.lst (xs++ys)) else none
 | _,_=>none
theorem nl:RdM K "list" (zL K) isL kD:=⟨fun Y H p x h e=>tyL h e,fun Y H p x vs ds y x' Q hp ho el e q=>by
 cases x with
 | lst xs =>
  cases ds with
  | nil=>cases e
  | cons d ds =>
   cases ds with
   | cons _ _=>cases d<;>cases e
   | nil =>
    obtain⟨ws,h1,h2⟩:=ho;obtain⟨v,r,rfl,da,el⟩:=el.uncons;obtain rfl:=el.unnil;cases d with
    | lst ys =>
     obtain⟨c,e⟩:=aD e;cases e;cases da with
     | @lst a us _ g0 g1 g2 g3=>exact .inl ⟨p,a,ws,us,rfl,rfl,h1,g1,by rw[h2.1,g2];exact few c,q .non _ .non ⟨_,aM,(h2.app ⟨g2,g3⟩).upd hp⟩⟩
    | tup ys =>
     obtain⟨c,e⟩:=aD e;cases e;cases da with
     | @tup a us _ g1 g2 g3=>exact .inr ⟨p,a,ws,us,rfl,rfl,h1,g1.sq,by rw[h2.1,g2];exact few c,q .non _ .non ⟨_,aM,(h2.app ⟨g2,g3⟩).upd hp⟩⟩
    | _=>cases e
 | _=>cases e⟩
def GA (K:Ab) (tl:TE):TI:=fun σ H R=>rZ K tl σ H R∨(Dx K tl σ H R∨D0 tl σ H R)
theorem cX (h:X.K=K) (hl:PE X l tl):PI X tg l (GA K tl):=by
 subst h;intro pins s σ H R I hh;rcases hh with hh|hh|hh
 ·exact xT hl pins s σ H R I hh
 ·exact Dy hl pins s σ H R I hh
 ·exact D1 hl pins s σ H R I hh
def fIA (fe:FE):FI:=fun st=>match fIL fe st with
 | some z=>some z
 | none=>match fIT fe st with
  | some z=>some z
  | none=>fIS fe st
theorem cY (h:RdE K te fe):RdI K (GA K te) (fIA fe):=by
 intro st σ H O Z R E items st' e q;unfold fIA at e;split at e
 ·rename_i z ez
  cases e;exact .inl (yg h st σ H O Z R E items st' ez q)
 ·split at e
  ·rename_i z ez
   cases e;exact .inr (.inl (D7 h st σ H O Z R E items st' ez q))
  ·exact .inr (.inr (D9 h st σ H O Z R E items st' e q))
end
end VF
namespace VF
open PySem PySem.Spec PyProof.Rows L2
section
variable {X:Cx} {K:Ab}
theorem boot_reversed:bootBuiltins "reversed"=some (.type "reversed"):=by decide +kernel
end
end VF
namespace VF
open PySem PySem.Spec PyProof.Rows L2
section
variable {X:Cx} {K:Ab} {Y:AS} {H:Hp} {v:V} {d:D} {vs:List V} {ds:List D}
def leS (a b:Str):Prop:=¬ b.cps.toList<a.cps.toList
instance (a b:Str):Decidable (leS a b):=by unfold leS;infer_instance
theorem vV (h:leS a b) (g:leS b a):a=b:=by
 unfold leS at *;rw[List.not_lt]at *;have e:=List.le_antisymm h g;cases a;cases b;exact congrArg Str.mk (Array.toList_inj.mp e)
theorem boot_sorted:bootBuiltins "sorted"=some (.builtin "sorted"):=by decide +kernel
end
end VF
namespace VF
open PySem L2
section
variable {K:Ab}
theorem vW {X:Cx} (hg:Gl X x) (hm:X.mg x=none) (hv:bootBuiltins x=some (.type T)) (hn:x≠"__name__":=by decide) (hd:(x == ("__debug__":Str))=false:=by decide):PE X (.Name x pos) (tC (.ty T)):=xQ hg hm hv rfl hn hd
def sB (K:Ab):Sp:=fun vs H Q _=>∃(a:Addr) (ns:List Int),vs=[.ref a]/\SqL K H a (ns.map V.int)/\ns.length<=63/\∀H',Q (.bl true) H'
end
end VF
namespace VF
open PySem L2
section
variable {st st1 st2 st3 s s1 s2:En} {r r1 r2:Rs} {d d1 d2 x y x':D} {ds es:List D} {rs:List Rs} {z:Rz} {o:Ot} {i k n m:Nat} {F G B:FS} {fa fb fe fi':FE} {fr:FA} {f g:FT} {fi:FI} {fg:FG} {caps:List Nat}
theorem aB (h:F st=some (.nx s)) (h2:G s=a):aY F G st=a:=by simp only[aY,h,Qa];exact h2
theorem n9 (h:F st=some (.rt r s)):aY F G st=some (.rt r s):=by simp only[aY,h,Qa]
theorem gt (h:f st=some (true,s)) (h2:F s=a):sIf f F G st=a:=by simp only[sIf,h,Qa,if_true];exact h2
theorem fk (h:f st=some (false,s)) (h2:G s=a):sIf f F G st=a:=by simp only[sIf,h,Qa,Ze,if_false];exact h2
theorem fm (h:fe st=some (.d x,s)) (h2:lp i (.v x) s=some s1):bC fe i st=some (.nx s1):=by simp only[bC,h,Qa,h2]
theorem gu (h:fe st=some (.f x,s)) (h2:lp i (.o x) s=some s1):bC fe i st=some (.nx s1):=by simp only[bC,h,Qa,h2]
theorem et (h:fe st=some (r,s)):gq fe st=some (.nx s):=by simp only[gq,h,Qa]
theorem dM (h:fe st=some (r,s)):cg fe st=some (.rt r s):=by simp only[cg,h,Qa]
theorem ao (h1:fa st=some (r1,s1)) (h2:fb s1=some (r2,s2)) (h3:cont s2 r1=some d1) (h4:cont s2 r2=some d2) (h5:b d1 d2=some z) (hz:mk z=r:=by rfl):fOp b fa fb st=some (r,s2):=by
 simp only[fOp,h1,h2,h3,h4,h5,hz,Qa]
theorem ay (h1:fa st=some (r,s1)) (h2:fr s1=some (rs,s2)):ad fa fr st=some (r::rs,s2):=by simp only[ad,h1,h2,Qa]
theorem bD (h1:fr st=some (rs,s1)) (h2:bT s1 rs=some ds) (h3:b ds=some z) (hz:mk z=r:=by rfl):fCB b fr st=some (r,s1):=by simp only[fCB,h1,h2,h3,hz,Qa]
theorem cz (h1:fr st=some (rs,s1)) (h2:cW rs s1=some (ds,s2)) (h3:b ds=some z) (hz:mk z=r:=by rfl):dr b fr st=some (r,s2):=by simp only[dr,h1,h2,h3,hz,Qa]
theorem cQ (h1:fr st=some (rs,s1)) (h2:bT s1 rs=some ds) (h3:b ds=some (d,false)) (h4:d.isSc=true):dI b fr st=some (.d d,s1):=by
 simp only[dI,h1,h2,h3,Qa,h4];rfl
theorem fq {t t0:Sl} (h0:st[i]?=some t0) (h00:t0.ow=some x0) (h1:fr st=some (rs,s1)) (h2:cW rs s1=some (ds,s2)) (h3:s2[i]?=some t) (h4:t.ow=some x) (h5:b x ds=some (z,x')) (hz:mk z=r:=by rfl) (h6:s2.set i (t.put x')=st3:=by rfl):fIO b i fr st=some (r,st3):=by
 simp only[fIO,h0,h00,h1,h2,h3,h4,h5,h6,hz,Qa]
theorem oe {t t0:Sl} (h0:st[i]?=some t0) (h00:t0.ow=some x0) (hk:ok x0=true) (h1:fr st=some (rs,s1)) (h2:cW rs s1=some (ds,s2)) (h3:s2[i]?=some t) (h4:t.ow=some x) (h5:mm x ds=some (y,x')) (h6:s2.set i (t.put x')=st3:=by rfl):fM ok mm i fr st=some (.d y,st3):=by
 simp only[fM,h0,h00,hk,h1,h2,h3,h4,h5,h6,Qa,if_true]
theorem aP (h:fe st=some (r,s)) (h2:tru s r=some c):aT fe st=some (c,s):=by simp only[aT,h,h2,Qa]
theorem jF (h:f st=some (c,s)):j6 f st=some (!c,s):=by simp only[j6,h,Qa]
theorem zM (h:f st=some (true,s)) (h2:g s=a):iY f g st=a:=by simp only[iY,h,Qa,if_true];exact h2
theorem GB (h:f st=some (false,s)):iY f g st=some (false,s):=by simp only[iY,h,Qa,Ze,if_false]
theorem Ew (h:f st=some (false,s)) (h2:g s=a):ud f g st=a:=by simp only[ud,h,Qa,Ze,if_false];exact h2
theorem Ex (h:fa st=some (r,s)) (h1:tru s r=some true) (h2:fb s=a):g8 fa fb st=a:=by simp only[g8,h,h1,Qa,if_true];exact h2
theorem cN (h1:fi st=some (ds,s1)) (h2:(n5 caps s1.length&&decide (ds.length<=1000000))=true) (h3:i8 fg fc fe k ds (gW k caps s1)=some (es,s2)) (h4:wb caps (s2.drop k) s1=st3:=by rfl):du k caps fi fg fc fe st=some (.f (.lst es),st3):=by
 simp only[du,h1,Qa];rw[Af h2,h3,← h4];rfl
theorem cj (h1:fi st=some (ds,s1)) (h2:g9 fg B ds s1=some o):eJ fi fg B st=some o:=by simp only[eJ,h1,Qa];exact h2
theorem bF (h0:ds.length=m) (h1:F (iB n ds)=some o) (h2:fin o=some z):bQ F n m ds=some z:=by
 simp only[bQ,Af h0,h1,Qa];exact h2
theorem gK (h0:ds.length+1=m) (h1:F (eK n x ds)=some o) (h2:zA o=some w):dL F n m x ds=some w:=by
 simp only[dL,Af h0,h1,Qa];exact h2
end
end VF
namespace VF
open PySem L2
section
variable {st s s1 s2 s3:En} {r r1:Rs} {rs:List Rs} {d d0 d1:D} {ds:List D} {z:Rz} {fe fo:FE} {fa:FA} {fl fh:FO}
theorem gL {j:Int} (h1:fa st=some (rs,s1)) (h2:bT s1 rs=some [.int j]) (h3:-(2 ^ 62)<=j/\j<2 ^ 62):mI fa st=some (rng 0 j.toNat,s1):=by
 simp only[mI,h1,h2,Qa,qU];rw[Af h3]
theorem GC (h1:fe st=some (r,s1)) (h2:fl s1=some (lo,s2)) (h3:fh s2=some (hi,s3)) (h4:cont s3 r=some d) (h5:b d lo hi=some z) (hz:mk z=r':=by rfl):fSl b fe fl fh st=some (r',s3):=by
 simp only[fSl,h1,h2,h3,h4,h5,hz,Qa]
theorem fY (h1:fe st=some (r,s1)) (h2:esc r s1=some (.lst ds,s2)):fIA fe st=some (ds,s2):=by
 have:fIL fe st=some (ds,s2):=by simp only[fIL,h1,h2,Qa,D.its]
 unfold fIA;rw[this]
theorem cJ (h1:fa st=some (rs,s1)) (h2:cW rs s1=some (ds,s2)) (h3:ds.length<=1000000):ff fa st=some (.d (.tup ds),s2):=by
 simp only[ff,h1,h2,Qa];rw[Af h3]
end
end VF
namespace VF
open PySem L2
section
variable {K:Ab}
def b1 (g:D->Option D):List D->Option Rz
 | [d]=>(g d).map fun r=>(r,false)
 | _=>none
def b2 (g:D->D->Option D):List D->Option Rz
 | [d,d']=>(g d d').map fun r=>(r,false)
 | _=>none
theorem vX (h:∀(Y:AS) (H:Hp) (v:V) (d o:D) (Q:VK),BA K Y H v d->g d=some o->(∀u,DA K Y H u o->Q u H)->r [v] H Q):RdCB K r (b1 g):=by
 intro Y H xs ds z Q lv bs e q;cases bs with
 | nil=>cases e
 | @cons v vs d ds c1 bs =>
  cases bs with
  | cons _ _=>cases e
  | nil =>
   obtain⟨o,eo,rfl⟩:=Zd.mp e;exact h Y H v d o Q c1 eo fun u hu=>q u H (Same.refl H) hu
theorem vY (h:∀(Y:AS) (H:Hp) (v w:V) (d d' o:D) (Q:VK),BA K Y H v d->BA K Y H w d'->g d d'=some o->(∀u,DA K Y H u o->Q u H)->r [v,w] H Q):RdCB K r (b2 g):=by
 intro Y H xs ds z Q lv bs e q;cases bs with
 | nil=>cases e
 | @cons v vs d ds c1 bs =>
  cases bs with
  | nil=>cases e
  | @cons w ws d' ds' c2 bs =>
   cases bs with
   | cons _ _=>cases e
   | nil =>
    obtain⟨o,eo,rfl⟩:=Zd.mp e;exact h Y H v w d d' o Q c1 c2 eo fun u hu=>q u H (Same.refl H) hu
def pL:D->Option D
 | .int i=>some (.int (if i<0 then -i else i))
 | _=>none
theorem jG:RdCB K (fun xs H Q=>∃i,xs=[.int i]/\Q (.int (if i<0 then -i else i)) H) (b1 pL):=vX fun Y H v d o Q c e q=>by
 cases d with
 | int i=>cases e;exact⟨i,by rw[show v=V.int i from c],q _ (.int _)⟩
 | _=>cases e
def GD:D->D->Option D
 | .int i,.int j=>some (.int (if j > i then j else i))
 | _,_=>none
theorem yw:RdCB K (fun xs H Q=>∃i j,xs=[.int i,.int j]/\Q (.int (if j > i then j else i)) H) (b2 GD):=vY fun Y H v w d d' o Q c c' e q=>by
 cases d with
 | int i =>
  cases d' with
  | int j=>cases e;exact⟨i,j,by rw[show v=V.int i from c,show w=V.int j from c'],q _ (.int _)⟩
  | _=>cases e
 | _=>cases e
def yx:D->D->Option D
 | .int i,.int j=>some (.int (if j<i then j else i))
 | _,_=>none
theorem sC:RdCB K (fun xs H Q=>∃i j,xs=[.int i,.int j]/\Q (.int (if j<i then j else i)) H) (b2 yx):=vY fun Y H v w d d' o Q c c' e q=>by
 cases d with
 | int i =>
  cases d' with
  | int j=>cases e;exact⟨i,j,by rw[show v=V.int i from c,show w=V.int j from c'],q _ (.int _)⟩
  | _=>cases e
 | _=>cases e
def GE:D->Option D
 | .int i=>some (.int i)
 | .bl k=>some (.int (if k then 1 else 0))
 | _=>none
theorem yy:RdCB K (fun xs H Q=>(∃i,xs=[.int i]/\Q (.int i) H)∨∃k,xs=[.bl k]/\Q (.int (if k then 1 else 0)) H) (b1 GE):=vX fun Y H v d o Q c e q=>by
 cases d with
 | int i=>cases e;exact .inl ⟨i,by rw[show v=V.int i from c],q _ (.int _)⟩
 | bl k=>cases e;exact .inr ⟨k,by rw[show v=V.bl k from c],q _ (.int _)⟩
 | _=>cases e
end
end VF
namespace VF
open PySem L2
inductive Pl:Nat->D->Prop where
 | non (n:Nat):Pl (n+1) .non
 | int (n:Nat) (i:Int):Pl (n+1) (.int i)
 | str (n:Nat) (x:Str):Pl (n+1) (.str x)
 | tup {n:Nat} {ds:List D}:(∀d∈ds,Pl n d)->Pl (n+1) (.tup ds)
 | lst {n:Nat} {ds:List D}:(∀d∈ds,Pl n d)->Pl (n+1) (.lst ds)
inductive RH (h:Heap):Value->D->Prop where
 | non:RH h .none .non
 | int (i:Int) (t:Tok):RH h (.int i t) (.int i)
 | str (x:Str) (t:Tok):RH h (.str x t) (.str x)
 | tup {a:Addr} {its:List Value} {ds:List D}:h.IsTuple a its.toArray->its.length=ds.length->(∀(i:Nat) u d,its[i]?=some u->ds[i]?=some d->RH h u d)->RH h (.ref a) (.tup ds)
 | lst {a:Addr} {its:List Value} {ds:List D}:h.IsList a its.toArray->its.length=ds.length->(∀(i:Nat) u d,its[i]?=some u->ds[i]?=some d->RH h u d)->RH h (.ref a) (.lst ds)
section
variable {X:Cx} {K:Ab} {Y:AS} {H:Hp} {s:Shared} {pins:List (Addr×Obj)} {σ:St}
theorem Pl.up (h:Pl n d):Pl (n+1) d:=by
 induction h with
 | non n=>exact .non _
 | int n i=>exact .int _ i
 | str n x=>exact .str _ x
 | tup _ ih=>exact .tup ih
 | lst _ ih=>exact .lst ih
theorem eB:∀{vs:List V} {us:List Value},Vals vs us->∀(i:Nat) u,us[i]?=some u->∃v,vs[i]?=some v/\RelV v u
 | _,_,.nil,i,u,h=>by simp at h
 | v::_,w::_,.cons r rs,0,u,h=>by
  have e:w=u:=by simpa using h
  exact⟨v,rfl,e ▸ r⟩
 | _::_,_::_,.cons r rs,i+1,u,h=>by
  obtain⟨v,h1,h2⟩:=eB rs i u (by simpa using h)
  exact⟨v,by simpa using h1,h2⟩
theorem DA.rh (h:DA K Y H v d) (p:Pl n d) (I:Inv X pins σ H s) (hK:X.K=K):∀{u:Value},RelV v u->RH s.heap u d:=by
 induction h generalizing n with
 | non=>intro u r;cases r;exact .non
 | bl b=>cases p
 | int i=>intro u r;obtain⟨t,rfl⟩:=r;exact .int i t
 | str x=>intro u r;obtain⟨t,rfl⟩:=r;exact .str x t
 | ty n=>cases p
 | fl _ _ _ _=>cases p
 | dk _ _ _ _ _=>cases p
 | dt _ _ _ _ _ _=>cases p
 | @tup a vs ds h1 h2 h3 ih =>
  intro u r;cases r;cases p with
  | tup p =>
   obtain⟨its,r,t,_⟩:=I.tuple (hK ▸ h1.sq);refine .tup t (r.length.symm.trans h2) fun i u d e1 e2=>?_;obtain⟨v,e3,rv⟩:=eB r i u e1;exact ih i v d e3 e2 (p d (Wa e2)) rv
 | @lst a vs ds h0 h1 h2 h3 ih =>
  intro u r;cases r;cases p with
  | lst p =>
   obtain⟨its,r,t,_⟩:=I.list (show SqL X.K H a vs from .inl (.inl h1));refine .lst t.isList (r.length.symm.trans h2) fun i u d e1 e2=>?_;obtain⟨v,e3,rv⟩:=eB r i u e1;exact ih i v d e3 e2 (p d (Wa e2)) rv
theorem BA.rh (h:BA K Y H v d) (p:Pl n d) (I:Inv X pins σ H s) (hK:X.K=K) (ru:RelV v u):RH s.heap u d:=by
 cases p with
 | non=>cases (show v=.non from h);cases ru;exact .non
 | int _ i=>cases (show v=.int i from h);obtain⟨t,rfl⟩:=ru;exact .int i t
 | str _ x=>cases (show v=.str x from h);obtain⟨t,rfl⟩:=ru;exact .str x t
 | tup p =>
  obtain⟨a,vs,rfl,h1,el⟩:=h;cases ru;obtain⟨its,r,t,_⟩:=I.tuple (hK ▸ h1.sq);refine .tup t (r.length.symm.trans el.1) fun i u d e1 e2=>?_;obtain⟨v,e3,rv⟩:=eB r i u e1;exact(el.2 i v d e3 e2).rh (p d (Wa e2)) I hK rv
 | lst p =>
  obtain⟨a,vs,rfl,h1,el⟩:=h;cases ru;obtain⟨its,r,t,_⟩:=I.list (show SqL X.K H a vs from .inl (.inl h1));refine .lst t.isList (r.length.symm.trans el.1) fun i u d e1 e2=>?_;obtain⟨v,e3,rv⟩:=eB r i u e1;exact(el.2 i v d e3 e2).rh (p d (Wa e2)) I hK rv
theorem ul {h:Heap} (h1:h.IsTuple a x) (h2:h.IsTuple a y):x=y:=by
 obtain⟨o,e1,_,n,d1⟩:=h1;obtain⟨o',e2,_,n',d2⟩:=h2;rw[e1]at e2;cases e2;rw[d1]at d2;cases d2;rfl
theorem rf {h:Heap} (h1:h.IsList a x) (h2:h.IsList a y):x=y:=by
 obtain⟨o,e1,_,n,d1⟩:=h1;obtain⟨o',e2,_,n',d2⟩:=h2;rw[e1]at e2;cases e2;rw[d1]at d2;cases d2;rfl
theorem pM {h:Heap} (h1:h.IsList a x) (h2:h.IsTuple a y):False:=by
 obtain⟨o,e1,c1,_⟩:=h1;obtain⟨o',e2,c2,_⟩:=h2;rw[e1]at e2;cases e2;rw[c1]at c2;injection c2 with c2;exact absurd c2 (by decide)
theorem RH.inj (r:RH h u d):∀{d':D},RH h u d'->d=d':=by
 induction r with
 | non=>intro d' r';cases r';rfl
 | int i t=>intro d' r';cases r';rfl
 | str x t=>intro d' r';cases r';rfl
 | @tup a its ds t hl _ ih =>
  intro d' r';cases r' with
  | @tup _ its' ds' t' hl' f =>
   have e:its=its':=by simpa using ul t t'
   subst e;have:ds=ds':=by
    refine BH (hl.symm.trans hl') fun i h1 h2=>?_;exact ih i its[i] ds[i] (Za (by lia)) (Za h1) (f i its[i] ds'[i] (Za (by lia)) (Za h2))
   rw[this]
  | lst t' _ _=>exact(pM t' t).elim
 | @lst a its ds t hl _ ih =>
  intro d' r';cases r' with
  | @lst _ its' ds' t' hl' f =>
   have e:its=its':=by simpa using rf t t'
   subst e;have:ds=ds':=by
    refine BH (hl.symm.trans hl') fun i h1 h2=>?_;exact ih i its[i] ds[i] (Za (by lia)) (Za h1) (f i its[i] ds'[i] (Za (by lia)) (Za h2))
   rw[this]
  | tup t' _ _=>exact(pM t t').elim
open Classical in
theorem vZ {xs ys:List D} (h:xs.length=ys.length):((List.range xs.length).all fun j=>decide (xs[j]?=ys[j]?))=decide (xs=ys):=by
 rw[Vf,BI,decide_eq_true_eq];constructor
 ·intro e;refine AK fun j=>?_;by_cases hj:j<xs.length
  ·exact Am (e j (Vd.mpr hj))
  ·rw[Xn (by lia),Xn (by lia)]
 ·rintro rfl j _;exact Ag rfl
open Classical in
theorem eq3 {d1 d2:D} {u1 u2:Value} {A:Around} (h:¬ d1=d2) (a:SeqAt.EqAt A s u1 u2 false) (b:SeqAt.RcAt A s u1 u2 false) (c:SeqAt.RcNeAt A s u1 u2 true) :
  SeqAt.EqAt A s u1 u2 (decide (d1=d2))/\SeqAt.RcAt A s u1 u2 (decide (d1=d2))/\SeqAt.RcNeAt A s u1 u2 (!decide (d1=d2)):=by
 rw[Ae h];exact⟨a,b,c⟩
open Classical in
theorem it3 {s:Shared} {its its':List Value} {ds ds':List D} (hl:its.length=ds.length) (hl':its'.length=ds'.length) (f:∀(j:Nat) u d,its[j]?=some u->ds[j]?=some d->RH s.heap u d) (f':∀(j:Nat) u d,its'[j]?=some u->ds'[j]?=some d->RH s.heap u d) (p1:∀d∈ds,Pl n d) (p2:∀d∈ds',Pl n d)
  (ih:∀{d1 d2:D} {u1 u2:Value},Pl n d1->Pl n d2->RH s.heap u1 d1->RH s.heap u2 d2->SeqAt.EqAt A s u1 u2 (decide (d1=d2))) (j:Nat) (h1:j<its.toArray.size) (h2:j<its'.toArray.size):SeqAt.EqAt A s its.toArray[j] its'.toArray[j] (decide (ds[j]?=ds'[j]?)):=by
 have h1':j<its.length:=by simpa using h1
 have h2':j<its'.length:=by simpa using h2
 have e1:ds[j]?=some ds[j]:=Za (hl ▸ h1');have e2:ds'[j]?=some ds'[j]:=Za (hl' ▸ h2');have z:=ih (p1 _ (Wa e1)) (p2 _ (Wa e2)) (f j its[j] _ (Za h1') e1) (f' j its'[j] _ (Za h2') e2);have e:decide (ds[j]?=ds'[j]?)=decide (ds[j]=ds'[j]):=by rw[e1,e2,Vf];simp
 rw[e];exact z
open Classical in
theorem RH.eqAt:∀(n:Nat) {s:Shared} {d1 d2:D} {u1 u2:Value} {A:Around},Pl n d1->Pl n d2->RH s.heap u1 d1->RH s.heap u2 d2->A.units+n<cLine ->
  SeqAt.EqAt A s u1 u2 (decide (d1=d2))/\SeqAt.RcAt A s u1 u2 (decide (d1=d2))/\SeqAt.RcNeAt A s u1 u2 (!decide (d1=d2)):=by
 intro n;induction n with
 | zero=>intro s d1 d2 u1 u2 A p;cases p
 | succ n ih =>
  intro s d1 d2 u1 u2 A p1 p2 r1 r2 hu;have hu':A.units<cLine:=by lia
  cases r1 with
  | non =>
   cases r2 with
   | non=>rw[Ag rfl];exact⟨SeqAt.EqAt.same _,SeqAt.RcAt.none_none,SeqAt.RcNeAt.none_none⟩
   | int i t=>exact eq3 (by intro z;cases z) (SeqAt.EqAt.none_int _ _) (SeqAt.RcAt.none_int _ _) (SeqAt.RcNeAt.none_int _ _)
   | str x t=>exact eq3 (by intro z;cases z) (SeqAt.EqAt.none_str _ _) (SeqAt.RcAt.none_str _ _) (SeqAt.RcNeAt.none_str _ _)
   | tup t _ _=>exact eq3 (by intro z;cases z) (SeqAt.EqAt.none_tuple t hu') (SeqAt.RcAt.none_tuple t hu') (SeqAt.RcNeAt.none_tuple t hu')
   | lst t _ _=>exact eq3 (by intro z;cases z) (SeqAt.EqAt.none_list t hu') (SeqAt.RcAt.none_list t hu') (SeqAt.RcNeAt.none_list t hu')
  | int i t =>
   cases r2 with
   | non=>exact eq3 (by intro z;cases z) (SeqAt.EqAt.int_none _ _) (SeqAt.RcAt.int_none _ _) (SeqAt.RcNeAt.int_none _ _)
   | int j t' =>
    have e:decide (D.int i=D.int j)=(i == j):=by rw[Vf];simp
    rw[e];exact⟨SeqAt.EqAt.int_int _ _ _ _,SeqAt.RcAt.int_int _ _ _ _,SeqAt.RcNeAt.int_int _ _ _ _⟩
   | str x t'=>exact eq3 (by intro z;cases z) (B9 _ _ _ _) (SeqAt.RcAt.int_str _ _ _ _) (SeqAt.RcNeAt.int_str _ _ _ _)
   | tup t' _ _=>exact eq3 (by intro z;cases z) (SeqAt.EqAt.int_tuple _ _ t' hu') (SeqAt.RcAt.int_tuple _ _ t' hu') (SeqAt.RcNeAt.int_tuple _ _ t' hu')
   | lst t' _ _=>exact eq3 (by intro z;cases z) (SeqAt.EqAt.int_list _ _ t' hu') (SeqAt.RcAt.int_list _ _ t' hu') (SeqAt.RcNeAt.int_list _ _ t' hu')
  | str x t =>
   cases r2 with
   | non=>exact eq3 (by intro z;cases z) (SeqAt.EqAt.str_none _ _) (SeqAt.RcAt.str_none _ _) (SeqAt.RcNeAt.str_none _ _)
   | int j t'=>exact eq3 (by intro z;cases z) (B8 _ _ _ _) (SeqAt.RcAt.str_int _ _ _ _) (SeqAt.RcNeAt.str_int _ _ _ _)
   | str y t' =>
    have e:decide (D.str x=D.str y)=(x == y):=by rw[Vf];simp
    rw[e];exact⟨SeqAt.EqAt.str_str _ _ _ _,SeqAt.RcAt.str_str _ _ _ _,SeqAt.RcNeAt.str_str _ _ _ _⟩
   | tup t' _ _=>exact eq3 (by intro z;cases z) (SeqAt.EqAt.str_tuple _ _ t' hu') (SeqAt.RcAt.str_tuple _ _ t' hu') (SeqAt.RcNeAt.str_tuple _ _ t' hu')
   | lst t' _ _=>exact eq3 (by intro z;cases z) (SeqAt.EqAt.str_list _ _ t' hu') (SeqAt.RcAt.str_list _ _ t' hu') (SeqAt.RcNeAt.str_list _ _ t' hu')
  | @tup a its ds t hl f =>
   cases r2 with
   | non=>exact eq3 (by intro z;cases z) (SeqAt.EqAt.tuple_none t hu') (SeqAt.RcAt.tuple_none t hu') (SeqAt.RcNeAt.tuple_none t hu')
   | int j t'=>exact eq3 (by intro z;cases z) (SeqAt.EqAt.tuple_int _ _ t hu') (SeqAt.RcAt.tuple_int _ _ t hu') (SeqAt.RcNeAt.tuple_int _ _ t hu')
   | str y t'=>exact eq3 (by intro z;cases z) (SeqAt.EqAt.tuple_str _ _ t hu') (SeqAt.RcAt.tuple_str _ _ t hu') (SeqAt.RcNeAt.tuple_str _ _ t hu')
   | lst t' _ _=>exact eq3 (by intro z;cases z) (SeqAt.EqAt.tuple_list t t' hu') (SeqAt.RcAt.tuple_list t t' hu') (SeqAt.RcNeAt.tuple_list t t' hu')
   | @tup b its' ds' t' hl' f' =>
    cases p1 with
    | tup p1 =>
    cases p2 with
    | tup p2 =>
    have it:=it3 (A:=A.in1) hl hl' f f' p1 p2 fun q1 q2 q3 q4=>(ih (A:=A.in1) q1 q2 q3 q4 (by show A.units+1+n<cLine;lia)).1
    have e:decide (D.tup ds=D.tup ds')=((List.range (min its.toArray.size its'.toArray.size)).all (fun j=>decide (ds[j]?=ds'[j]?))&&its.toArray.size == its'.toArray.size):=by
     simp only[Wb];by_cases hh:its.length=its'.length
     ·rw[← hh,Nat.min_self,hl,vZ (by lia),Vf];simp
     ·have:ds≠ds':=fun z=>hh (by rw[hl,hl',z])
      rw[Vf];simp[hh,this]
    have rc:SeqAt.RcAt A s (.ref a) (.ref b) (decide (D.tup ds=D.tup ds')):=by
     rw[e];exact SeqAt.RcAt.tuples (A:=A) (e:=fun j=>decide (ds[j]?=ds'[j]?)) t t' hu' it
    have rn:SeqAt.RcNeAt A s (.ref a) (.ref b) (!decide (D.tup ds=D.tup ds')):=by
     rw[e];exact SeqAt.RcNeAt.tuples (A:=A) (e:=fun j=>decide (ds[j]?=ds'[j]?)) t t' hu' it
    refine⟨?_,rc,rn⟩;by_cases hab:a=b
    ·subst hab;have:=RH.inj (RH.tup t hl f) (RH.tup t' hl' f');rw[this,Ag rfl];exact SeqAt.EqAt.same _
    ·exact SeqAt.EqAt.of_refs hab rc
  | @lst a its ds t hl f =>
   cases r2 with
   | non=>exact eq3 (by intro z;cases z) (SeqAt.EqAt.list_none t hu') (SeqAt.RcAt.list_none t hu') (SeqAt.RcNeAt.list_none t hu')
   | int j t'=>exact eq3 (by intro z;cases z) (SeqAt.EqAt.list_int _ _ t hu') (SeqAt.RcAt.list_int _ _ t hu') (SeqAt.RcNeAt.list_int _ _ t hu')
   | str y t'=>exact eq3 (by intro z;cases z) (SeqAt.EqAt.list_str _ _ t hu') (SeqAt.RcAt.list_str _ _ t hu') (SeqAt.RcNeAt.list_str _ _ t hu')
   | tup t' _ _=>exact eq3 (by intro z;cases z) (SeqAt.EqAt.list_tuple t t' hu') (SeqAt.RcAt.list_tuple t t' hu') (SeqAt.RcNeAt.list_tuple t t' hu')
   | @lst b its' ds' t' hl' f' =>
    cases p1 with
    | lst p1 =>
    cases p2 with
    | lst p2 =>
    have it:=it3 (A:=A.in1) hl hl' f f' p1 p2 fun q1 q2 q3 q4=>(ih (A:=A.in1) q1 q2 q3 q4 (by show A.units+1+n<cLine;lia)).1
    have both:SeqAt.RcAt A s (.ref a) (.ref b) (decide (D.lst ds=D.lst ds'))/\SeqAt.RcNeAt A s (.ref a) (.ref b) (!decide (D.lst ds=D.lst ds')):=by
     by_cases hh:its.length=its'.length
     ·have e:decide (D.lst ds=D.lst ds')=(List.range its.toArray.size).all fun j=>decide (ds[j]?=ds'[j]?):=by
       simp only[Wb];rw[hl,vZ (by lia),Vf];simp
      rw[e];exact⟨SeqAt.RcAt.lists (A:=A) (e:=fun j=>decide (ds[j]?=ds'[j]?)) t t' (by simpa using hh) hu' it,SeqAt.RcNeAt.lists (A:=A) (e:=fun j=>decide (ds[j]?=ds'[j]?)) t t' (by simpa using hh) hu' it⟩
     ·have:ds≠ds':=fun z=>hh (by rw[hl,hl',z])
      rw[Ae (by intro z;cases z;exact this rfl)]
      exact⟨SeqAt.RcAt.lists_lengths t t' (by simpa using hh) hu',CL t t' (by simpa using hh) hu'⟩
    obtain⟨rc,rn⟩:=both;refine⟨?_,rc,rn⟩;by_cases hab:a=b
    ·subst hab;have:=RH.inj (RH.lst t hl f) (RH.lst t' hl' f');rw[this,Ag rfl];exact SeqAt.EqAt.same _
    ·exact SeqAt.EqAt.of_refs hab rc
open Classical in
noncomputable def kx (neg:Bool):D->D->Option Rz:=fun a b=>if Pl 40 a/\Pl 40 b then some (.bl (if neg then !decide (a=b) else decide (a=b)),false) else none
open Classical in
def v3 (K:Ab) (neg:Bool):R2:=fun x y H Q=>∃(Y:AS) (a b:D),BA K Y H x a/\BA K Y H y b/\Pl 40 a/\Pl 40 b/\Q (.bl (if neg then !decide (a=b) else decide (a=b))) H
theorem v4 (neg:Bool):RdOp K (v3 K neg) (kx neg):=by
 intro Y H x y d1 d2 z Q lv b1 b2 e q;unfold kx at e;obtain⟨c,e⟩:=aD e;cases e;exact⟨Y,d1,d2,b1,b2,c.1,c.2,q _ H (Same.refl H) (.bl _)⟩
theorem Ey (h:X.K=K) (hu:X.A.units+64<cLine):OpR X (compareOp .Eq) (v3 K false):=by
 intro pins s σ H x y v u Q I rx ry ⟨Y,a,b,b1,b2,p1,p2,q⟩;exact(RH.eqAt 40 (A:=X.A) p1 p2 (b1.rh p1 I h rx) (b2.rh p2 I h ry) (by lia)).2.1 _ _ _ _ ⟨.bl _,H,I,rfl,q⟩
theorem Ez (h:X.K=K) (hu:X.A.units+64<cLine):OpR X (compareOp .NotEq) (v3 K true):=by
 intro pins s σ H x y v u Q I rx ry ⟨Y,a,b,b1,b2,p1,p2,q⟩;exact(RH.eqAt 40 (A:=X.A) p1 p2 (b1.rh p1 I h rx) (b2.rh p2 I h ry) (by lia)).2.2 _ _ _ _ ⟨.bl _,H,I,rfl,q⟩
noncomputable def ky:=orD bEq (kx false)
noncomputable def gX:=orD bNe (kx true)
def GF (K:Ab):R2:=fun x y H Q=>rEq x y H Q∨v3 K false x y H Q
def GG (K:Ab):R2:=fun x y H Q=>Es K x y H Q∨v3 K true x y H Q
theorem jH (h:X.K=K) (hu:X.A.units+64<cLine):OpR X (compareOp .Eq) (GF K):=(rd h hu).or (Ey h hu)
theorem jI:RdOp K (GF K) ky:=ro_eqA.or (v4 false)
theorem lD (h:X.K=K) (hu:X.A.units+64<cLine):OpR X (compareOp .NotEq) (GG K):=(vN h hu).or (Ez h hu)
theorem lE:RdOp K (GG K) gX:=ro_neA.or (v4 true)
open Classical in
noncomputable def v5 (neg:Bool):D->D->Option Rz:=fun a b=>match b.seq with
 | some ds=>if Pl 40 a/\(∀d∈ds,Pl 40 d) then some (.bl (if neg then !decide (a∈ds) else decide (a∈ds)),false) else none
 | none=>none
open Classical in
def EA (K:Ab) (neg:Bool):R2:=fun x y H Q=>∃(Y:AS) (a b:D) (ds:List D),BA K Y H x a/\BA K Y H y b/\b.seq=some ds/\Pl 40 a/\(∀d∈ds,Pl 40 d)/\Q (.bl (if neg then !decide (a∈ds) else decide (a∈ds))) H
theorem EB (neg:Bool):RdOp K (EA K neg) (v5 neg):=by
 intro Y H x y d1 d2 z Q lv b1 b2 e q;unfold v5 at e;split at e
 ·rename_i ds hs
  obtain⟨c,e⟩:=aD e;cases e;exact⟨Y,d1,d2,ds,b1,b2,hs,c.1,c.2,q _ H (Same.refl H) (.bl _)⟩
 ·cases e
open Classical in
theorem v6 {ds:List D} {its:List Value} {A:Around} (hl:its.length=ds.length) (f:∀(i:Nat) u d,its[i]?=some u->ds[i]?=some d->RH s.heap u d) (p1:Pl 40 a) (p2:∀d∈ds,Pl 40 d) (r:RH s.heap u a) (hu:A.units+64<cLine) :
  (∀y,y∈its.toArray->SeqAt.EqAt A.in1 s y u (decide (RH s.heap y a)))/\its.toArray.any (fun y=>decide (RH s.heap y a))=decide (a∈ds):=by
 constructor
 ·intro y hy;obtain⟨i,hi,rfl⟩:=Vi.mp (show y∈its by simpa using hy)
  have e1:ds[i]?=some ds[i]:=Za (by lia)
  have ry:=f i its[i] _ (Za hi) e1;have z:=(RH.eqAt 40 (A:=A.in1) (p2 _ (Wa e1)) p1 ry r (by show A.units+1+40<cLine;lia)).1
  have e:decide (ds[i]=a)=decide (RH s.heap its[i] a):=by
   rw[Vf,decide_eq_true_eq,decide_eq_true_eq];exact⟨fun e=>e ▸ ry,fun r'=>ry.inj r'⟩
  rw[← e];exact z
 ·rw[Vf,decide_eq_true_eq];simp only[List.any_toArray,Vk,decide_eq_true_eq];constructor
  ·rintro⟨y,hy,ry⟩;obtain⟨i,hi,rfl⟩:=Vi.mp hy;have e1:ds[i]?=some ds[i]:=Za (by lia)
   have:=(f i its[i] _ (Za hi) e1).inj ry;rw[← this];exact Wa e1
  ·intro ha;obtain⟨i,hi,rfl⟩:=Vi.mp ha;exact⟨its[i],Qh _,f i _ _ (Za (by lia)) (Za hi)⟩
theorem um {d:D} {ds:List D} (h:BA K Y H v d) (e:d.seq=some ds) (p:∀x∈ds,Pl 40 x) (I:Inv X pins σ H s) (hK:X.K=K) (ru:RelV v u) :
  ∃a its,u=.ref a/\(s.heap.IsList a (List.toArray its)∨s.heap.IsTuple a its.toArray)/\its.length=ds.length/\∀(i:Nat) u d,its[i]?=some u->ds[i]?=some d->RH s.heap u d:=by
 obtain⟨a,vs,rfl,sq,el⟩:=lA h e;cases ru;have rest:∀{its:List Value},Vals vs its->its.length=ds.length/\∀(i:Nat) u d,its[i]?=some u->ds[i]?=some d->RH s.heap u d:=fun {its} r=>by
  refine⟨r.length.symm.trans el.1,fun i u d e1 e2=>?_⟩;obtain⟨v,e3,rv⟩:=eB r i u e1;exact(el.2 i v d e3 e2).rh (p d (Wa e2)) I hK rv
 rcases sq with sq|sq
 ·obtain⟨its,r,t,_⟩:=I.list (hK ▸ sq);exact⟨a,its,rfl,.inl t.isList,rest r⟩
 ·obtain⟨its,r,t,_⟩:=I.tuple (hK ▸ sq);exact⟨a,its,rfl,.inr t,rest r⟩
theorem EC (h:X.K=K) (hu:X.A.units+64<cLine):OpR X (compareOp .In) (EA K false):=by
 intro pins s σ H x y v u Q I rx ry ⟨Y,a,b,ds,b1,b2,hs,p1,p2,q⟩;obtain⟨l,its,rfl,hl,hn,f⟩:=um b2 hs p2 I h ry;obtain⟨h1,h2⟩:=v6 (A:=X.A) hn f p1 p2 (b1.rh p1 I h rx) hu;rcases hl with hl|hl
 ·refine SeqAt.in_listAt _ hl h1 ?_;rw[h2];exact⟨.bl _,H,I,rfl,q⟩
 ·refine SeqAt.in_tupleAt _ hl h1 ?_;rw[h2];exact⟨.bl _,H,I,rfl,q⟩
noncomputable def pN:=orD bIn (v5 false)
def GH (K:Ab):R2:=fun x y H Q=>Em K x y H Q∨EA K false x y H Q
theorem v7 (h:X.K=K) (hu:X.A.units+64<cLine):OpR X (compareOp .In) (GH K):=(Ep h).or (EC h hu)
theorem v8:RdOp K (GH K) pN:=ro_inA.or (EB false)
end
end VF
namespace VF
open PySem L2 PySem.Spec
abbrev TCh:=V->St->Hp->VK->Prop
def v9 (r:R2) (te:TE):TCh:=fun y σ H Q=>te σ H fun w H1=>r y w H1 Q
def wc (r:R2) (te:TE) (rest:TCh):TCh:=fun y σ H Q=>te σ H fun w H1=>r y w H1 fun z H2=>∃k,z=.bl k/\(if k=true then rest w σ H2 Q else Q (.bl false) H2)
def GI (ta:TE) (rest:TCh):TE:=fun σ H Q=>ta σ H fun x H1=>rest x σ H1 Q
section
variable {X:Cx} {a b e:Expr} {ta te:TE}
def yz (X:Cx) (ops:List CmpOp) (es:List Expr) (t:TCh):Prop:=∀(pins:List (Addr×Obj)) (s:Shared) (σ:St) (H:Hp) (y:V) (u:Value) (Q:Bool->Hp->Prop) (pos:Pos),Inv X pins σ H s->RelV y u->t y σ H (fun x H'=>∃k,x=.bl k/\Q k H') ->
 wpAny (model X.prog X.w) X.A (testChain pos u ops (evalEach es X.env)) (TP X pins σ Q) X.xe s
theorem uo (ho:OpR X (compareOp op) r) (he:PE X e te):yz X [op] [e] (v9 r te):=by
 intro pins s σ H y u Q pos I ru h;refine PyProof.Rows.test_last (thn (he pins s σ H _ I h) fun w s1 ⟨z,H1,I1,r1,q1⟩=>thn (ho pins s1 σ H1 y z u w _ I1 ru r1 q1) fun d s3 zz9=>?_);obtain⟨z',H3,I3,r3,k,e,q3⟩:=zz9;subst e;cases r3;exact AG ⟨H3,I3,q3⟩
theorem jJ (ho:OpR X (compareOp op) r) (he:PE X e te) (ht:yz X (op'::ops) (e'::es) t):yz X (op::op'::ops) (e::e'::es) (wc r te t):=by
 intro pins s σ H y u Q pos I ru h;refine PyProof.Rows.test_link (thn (he pins s σ H _ I h) fun w s1 ⟨z,H1,I1,r1,q1⟩=>thn (ho pins s1 σ H1 y z u w _ I1 ru r1 q1) fun d s3 zz9=>?_);obtain⟨z',H3,I3,r3,k,e,q3⟩:=zz9;subst e;cases r3;refine AG ?_;cases k with
 | false =>
  obtain⟨k',e',q'⟩:=q3;cases e';exact PyProof.Rows.ite_ff ⟨H3,I3,q'⟩
 | true=>exact PyProof.Rows.ite_tt (ht pins s3 σ H3 z w Q pos I3 r1 q3)
theorem ED (ha:PE X a ta) (ht:yz X (op::op'::ops) (e::e'::es) t) (hm:lastMarks (op::op'::ops) (e::e'::es)=false:=by with_unfolding_all rfl):PT X (.Compare a (op::op'::ops) (e::e'::es) pos) (u6 (GI ta t)):=by
 intro pins s σ H Q I h;exact PyProof.Rows.isTrue_chain (thn (ha pins s σ H _ I h) fun v s1 ⟨x,H1,I1,r1,q1⟩=>ht pins s1 σ H1 x v Q pos I1 r1 q1) hm
theorem yA (hK:X.K=K) (hc:X.calm=true) (h:PGs X es t)
  (hn:(assignEach es X.env).length=n:=by rfl) (hst:(assignEach es X.env).findIdx? (·.1)=none:=by rfl):PG X (.Tuple es k pos) (Dv K n t):=hK ▸ Dw hc h hn hst
end
section
variable {K:Ab} {Y O O' Z:AS} {H H':Hp} {v:V} {d:D} {st st':En} {σ:St}
abbrev FCh:=Rs->FE
def yB (K:Ab) (t:TCh) (f:FCh):Prop:=∀(st:En) (σ:St) (H:Hp) (O Z:AS) (Q:VK) (y:V) (ry:Rs),ER K st σ H O Z->RVal K Z st σ H O y ry.nf->∀r st',f ry st=some (r,st') ->
 (∀v H' O',Ext O H O' H'->Kp st st'->ER K st' σ H' O' Z->RVal K Z st' σ H' O' v r->Fsh H v r->Q v H')->t y σ H Q
def kE (b:D->D->Option Rz) (fe:FE):FCh:=fun ry st=>(fe st).bind fun x=>(cont x.2 ry).bind fun d1=>(cont x.2 x.1).bind fun d2=>(b d1 d2).bind fun z=>some (mk z,x.2)
theorem wd (hr:RdOp K r b) (he:RdE K te fe):yB K (v9 r te) (kE b fe):=by
 intro st σ H O Z Q y ry E rv0 r0 st' h q;refine bsP h fun r2 st2 e2 h=>?_;refine bsO h fun d1 e3 h=>?_;refine bsO h fun d2 e4 h=>?_;refine bsO h fun z e5 h=>?_;cases h;refine he st σ H O Z _ E r2 st2 e2 fun v2 H2 O2 x2 k2 E2 rv2 w2=>?_;have b1:=(rv0.ext x2 k2).ba E2 (by rw[fF];exact e3)
 refine hr (U O2 Z) H2 y v2 d1 d2 z _ E2.liv b1 (rv2.ba E2 e4) e5 fun v H3 s hres=>?_;obtain⟨E3,rv3⟩:=hres.rv E2 s;exact q v H3 O2 (x2.trans (Same.ext s)) k2 E3 rv3 (hres.fsh.back x2)
def cO (b:D->D->Option Rz) (fe:FE) (rest:FCh):FCh:=fun ry st=>(fe st).bind fun x=>(cont x.2 ry).bind fun d1=>(cont x.2 x.1).bind fun d2=>(b d1 d2).bind fun z=>match z with
 | (.bl true,false)=>rest x.1 x.2
 | (.bl false,false)=>some (.d (.bl false),x.2)
 | _=>none
theorem lF (hr:RdOp K r b) (he:RdE K te fe) (ht:yB K t f):yB K (wc r te t) (cO b fe f):=by
 intro st σ H O Z Q y ry E rv0 r0 st' h q;refine bsP h fun r2 st2 e2 h=>?_;refine bsO h fun d1 e3 h=>?_;refine bsO h fun d2 e4 h=>?_;refine bsO h fun z e5 h=>?_;refine he st σ H O Z _ E r2 st2 e2 fun v2 H2 O2 x2 k2 E2 rv2 w2=>?_;have b1:=(rv0.ext x2 k2).ba E2 (by rw[fF];exact e3)
 refine hr (U O2 Z) H2 y v2 d1 d2 z _ E2.liv b1 (rv2.ba E2 e4) e5 fun v H3 s hres=>?_;obtain⟨dz,fr⟩:=z;cases dz with
 | bl c =>
  cases fr with
  | true=>cases c<;>cases h
  | false =>
   have ev:v=.bl c:=DA.ba (show DA K (U O2 Z) H3 v (.bl c) from hres);refine⟨c,ev,?_⟩;have E3:=E2.same s;have x3:Ext O2 H2 O2 H3:=Same.ext s;cases c with
   | false =>
    rw[Ah (by decide)]
    cases h;exact q _ H3 O2 (x2.trans x3) k2 E3 (.bl false) True.intro
   | true =>
    rw[Af rfl];exact ht st2 σ H3 O2 Z Q v2 r2 E3 (rv2.nf.ext x3 (Kp.refl _)) r0 st' h fun w H4 O4 x4 k4 E4 rv4 w4=>q w H4 O4 ((x2.trans x3).trans x4) (k2.trans k4) E4 rv4 (w4.back (x2.trans x3))
 | _=>cases fr<;>cases h
def yC (fa:FE) (f:FCh):FE:=fun st=>(fa st).bind fun x=>f x.1 x.2
theorem EE (ha:RdE K ta fa) (ht:yB K t f):RdE K (GI ta t) (yC fa f):=by
 intro st σ H O Z Q E r0 st' h q;refine bsP h fun r1 st1 e1 h=>?_;refine ha st σ H O Z _ E r1 st1 e1 fun v1 H1 O1 x1 k1 E1 rv1 w1=>?_;exact ht st1 σ H1 O1 Z Q v1 r1 E1 rv1.nf r0 st' h fun w H4 O4 x4 k4 E4 rv4 w4=>q w H4 O4 (x1.trans x4) (k1.trans k4) E4 rv4 (w4.back x1)
end
end VF
namespace VF
open PySem L2
section
variable {α:Type} {fg:FG} {B:FS} {fc:FT} {fe:FE} {k:Nat}
theorem br (f:α->D) (all:List α) (I:List α->En->Prop) (step:∀(gone:List α) (x:α) (rest:List α) (st:En),all=gone++x::rest->I gone st->∃s1 s2,fg (f x) st=some s1/\B s1=some (.nx s2)/\I (gone++[x]) s2) :
  ∀(items gone:List α) (st:En),all=gone++items->I gone st->∃sf,g9 fg B (items.map f) st=some (.nx sf)/\I all sf
 | [],gone,st,ha,h=>⟨st,rfl,by rw[ha,Qe];exact h⟩
 | x::r,gone,st,ha,h=>by
  obtain⟨s1,s2,e1,e2,e3⟩:=step gone x r st ha h;obtain⟨sf,e4,e5⟩:=br f all I step r (gone++[x]) s2 (by rw[Ve];exact ha) e3
  refine⟨sf,?_,e5⟩;simp only[Wd,g9,e1,e2,Qa];exact e4
theorem dN (f g:α->D) (p:α->Bool) (sb:En):∀(xs:List α),(∀x∈xs,∃s1 s2,fg (f x) sb=some s1/\fc s1=some (p x,s2)/\(p x=false->rst k s2=sb)/\(p x=true->∃y s3 s4,fe s2=some (y,s3)/\esc y s3=some (g x,s4)/\rst k s4=sb)) ->
  i8 fg fc fe k (xs.map f) sb=some ((xs.filter p).map g,sb)
 | [],_=>rfl
 | x::r,h=>by
  obtain⟨s1,s2,e1,e2,hf,ht⟩:=h x Xb;have ih:=dN f g p sb r fun y hy=>h y (Vb _ hy);cases hp:p x with
  | false =>
   rw[hp]at e2;simp only[Wd,i8,e1,e2,Qa,Ze,if_false,hf hp,ih,Vm,hp]
  | true =>
   rw[hp]at e2;obtain⟨y,s3,s4,e3,e4,e5⟩:=ht hp;simp only[Wd,i8,e1,e2,Qa,if_true,e3,e4,e5,ih,Vm,hp]
theorem ck (f g:α->D) (sb:En) (xs:List α) (h:∀x∈xs,∃s1 s2 y s3 s4,fg (f x) sb=some s1/\fc s1=some (true,s2)/\fe s2=some (y,s3)/\esc y s3=some (g x,s4)/\rst k s4=sb) :
  i8 fg fc fe k (xs.map f) sb=some (xs.map g,sb):=by
 have:=dN (fg:=fg) (fc:=fc) (fe:=fe) (k:=k) f g (fun _=>true) sb xs fun x hx=>by
  obtain⟨s1,s2,y,s3,s4,e1,e2,e3,e4,e5⟩:=h x hx;exact⟨s1,s2,e1,e2,fun z=>(Bool.noConfusion z),fun _=>⟨y,s3,s4,e3,e4,e5⟩⟩
 rw[this,List.filter_eq_self.mpr fun _ _=>rfl]
end
theorem pO (S:List D->En->Prop) (all:List α) (bound:Nat)
  (step:∀acc x st,x∈all->acc.length+(g x).length<=bound->S acc st->∃s1 s2,fg (f x) st=some s1/\B s1=some (.nx s2)/\S (acc++g x) s2) :
  ∀(xs:List α) (base:List D) (st:En),(∀x∈xs,x∈all)->base.length+(xs.flatMap g).length<=bound->S base st->∃sf,g9 fg B (xs.map f) st=some (.nx sf)/\S (base++xs.flatMap g) sf
 | [],base,st,_,_,h=>⟨st,rfl,by simpa using h⟩
 | x::r,base,st,ha,hb,h=>by
  rw[Qg,Yb]at hb;obtain⟨s1,s2,e1,e2,e3⟩:=step base x st (ha x Xb) (by lia) h
  obtain⟨sf,e4,e5⟩:=pO S all bound step r (base++g x) s2 (fun y hy=>ha y (Vb _ hy)) (by rw[Yb];lia) e3
  refine⟨sf,?_,by rw[Qg,← Ve];exact e5⟩
  simp only[Wd,g9,e1,e2,Qa];exact e4
section
variable {st s1:En} {rs:List Rs} {fa:FA}
theorem ja (h1:fa st=some (rs,s1)) (h2:bT s1 rs=some [.int i,.int j]) (h3:-(2 ^ 62)<=i/\i<2 ^ 62/\-(2 ^ 62)<=j/\j<2 ^ 62):nZ fa st=some (rng i (j-i).toNat,s1):=by
 simp only[nZ,h1,h2,Qa,qV];rw[Af h3]
theorem sD {xs ys:List D} (h:xs.length+ys.length<=1000000):kD (.lst xs) [.lst ys]=some (.non,.lst (xs++ys)):=by
 show(if xs.length+ys.length<=1000000 then some (D.non,D.lst (xs++ys)) else none)=_;rw[Af h]
end
theorem gM (a n:Nat):rng (a:Int) n=(List.range n).map fun t=>D.int ((a+t:Nat):Int):=by
 unfold rng;exact Zg fun t _=>by rw[Int.natCast_add]
end VF
namespace TS
open PySem PyProof.Rows
theorem cR {M:Model} {A:Around} {E:Value->Shared->Prop} {σ γ:Type} {X Y:StateT σ Sem γ} {p:Prop} {d:Decidable p} {Q:γ->σ->Prop} {st:σ} (h:p) (k:wpS M A E s X Q st):wpS M A E s (@ite _ p d X Y) Q st:=by rw[Af h];exact k
theorem cA {M:Model} {A:Around} {E:Value->Shared->Prop} {σ γ:Type} {X Y:StateT σ Sem γ} {p:Prop} {d:Decidable p} {Q:γ->σ->Prop} {st:σ} (h:¬ p) (k:wpS M A E s Y Q st):wpS M A E s (@ite _ p d X Y) Q st:=by rw[Ah h];exact k
theorem we {α β:Type} (f:α->β) (x:Array α) (i j:Nat):(x.map f).swapIfInBounds i j=(x.swapIfInBounds i j).map f:=by grind
theorem jK {α β γ:Type} (f:α->β) (p q:γ->Nat):∀(l:List γ) (x:Array α),l.foldl (fun a k=>a.swapIfInBounds (p k) (q k)) (x.map f)=(l.foldl (fun a k=>a.swapIfInBounds (p k) (q k)) x).map f
 | [],x=>rfl
 | k::l,x=>by
  rw[CG,CG,we];exact jK f p q l _
theorem rj (f:α->β) (x:Array α) (i d:Nat):bubble (x.map f) i d=(bubble x i d).map f:=jK f _ _ _ x
theorem fK (f:α->β) (x:Array α) (i j d:Nat):mirror (x.map f) i j d=(mirror x i j d).map f:=jK f _ _ _ x
structure Cm (prog:Program) (w:World) (A:Around) (s:Shared) (k:SortKind) (f:Nat->Keyed) (N:Nat) (c:Nat->Nat->Bool):Prop where
 lt:∀(E:Value->Shared->Prop) (Q:Bool->Shared->Prop) (g h:Nat),g<N->h<N->Q (c g h) s->wpAny (model prog w) A (keyLt' k (f g).1 (f h).1) Q E s
 irr:∀g,c g g=false
 tra:∀g h i,c g h=true->c h i=true->c g i=true
 neg:∀g h i,c g i=true->c g h=true∨c h i=true
def Bf (c:Nat->Nat->Bool) (g h:Nat):Prop:=c g h=true∨(c h g=false/\g<h)
structure Rp (k:SortKind) (f:Nat->Keyed) (N:Nat) (st:SortSt) (γ:Array Nat):Prop where
 arr:arrOf st=γ.map f
 kind:kindOf st=k
 fine:failedOf st=none
 perm:γ.Perm (Array.range N)
section
variable {prog:Program} {w:World} {A:Around} {E:Value->Shared->Prop} {s:Shared} {k:SortKind} {f:Nat->Keyed} {N:Nat} {c:Nat->Nat->Bool} {st:SortSt} {γ:Array Nat}
theorem Cm.asy (C:Cm prog w A s k f N c) (e:c g h=true):c h g=false:=by
 cases e':c h g with
 | false=>rfl
 | true=>exact absurd (C.tra g h g e e') (by rw[C.irr];exact Bool.noConfusion)
theorem Cm.le (C:Cm prog w A s k f N c) (e:Bf c g h):c h g=false:=by
 rcases e with e|e
 ·exact C.asy e
 ·exact e.1
theorem Cm.letr (C:Cm prog w A s k f N c) (e:c h g=false) (e':c i h=false):c i g=false:=by
 cases e2:c i g with
 | false=>rfl
 | true =>
  rcases C.neg i h g e2 with q|q
  ·rw[q]at e';exact e'
  ·rw[q]at e;exact e
theorem Cm.trans (C:Cm prog w A s k f N c) (e:Bf c g h) (e':Bf c h i):Bf c g i:=by
 have l:=C.letr (C.le e) (C.le e');cases e2:c g i with
 | true=>exact .inl e2
 | false =>
  refine .inr ⟨l,?_⟩;rcases e with e|e
  ·rcases C.neg g i h e with q|q
   ·rw[q]at e2;cases e2
   ·rw[C.le e']at q;cases q
  ·rcases e' with e'|e'
   ·rcases C.neg h g i e' with q|q
    ·rw[e.1]at q;cases q
    ·rw[q]at e2;cases e2
   ·exact Bj e.2 e'.2
theorem Rp.size (R:Rp k f N st γ):γ.size=N:=by rw[R.perm.size_eq,A9]
theorem Rp.bnd (R:Rp k f N st γ) {i g:Nat} (e:γ[i]?=some g):g<N:=by
 have hm:g∈γ:=Array.mem_of_getElem? e;exact Array.mem_range.mp (R.perm.mem_iff.mp hm)
theorem Rp.at (R:Rp k f N st γ) {i g:Nat} (e:γ[i]?=some g):(arrOf st)[i]?=some (f g):=by rw[R.arr,Br,e];rfl
theorem Rp.put (R:Rp k f N st γ) {γ':Array Nat} (p:γ'.Perm γ) (e:x=γ'.map f):Rp k f N (setArr st x) γ':=⟨e,R.kind,R.fine,p.trans R.perm⟩
theorem pP (C:Cm prog w A s k f N c) (hk:kindOf st=k) (bg:g<N) (bh:h<N) (q:Q (some (c g h)) st):wpS (model prog w) A E s (lt' (f g) (f h)) Q st:=by
 rw[lt'_eq];refine Ak (Bi ?_);subst hk;exact Ak (BV (wpAny_attempt (C.lt _ _ g h bg bh ⟨rfl,Ai q⟩)))
theorem gO (C:Cm prog w A s k f N c) (R:Rp k f N st γ) {i j g h:Nat} (ei:γ[i]?=some g) (ej:γ[j]?=some h) {Q:Option Bool->SortSt->Prop} (q:Q (some (c g h)) st):wpS (model prog w) A E s (ltAt' i j) Q st:=by
 rw[ltAt'_eq];refine Ak (Bi ?_);dsimp only;rw[elem'_eq,elem'_eq,R.at ei,R.at ej];exact Ak (Ai (Ak (Ai (pP C R.kind (R.bnd ei) (R.bnd ej) q))))
end
end TS
namespace TS
open PySem PyProof.Rows
def Sg (c:Nat->Nat->Bool) (γ:Array Nat) (lo hi:Nat):Prop:=∀i j g h,lo<=i->i<j->j<hi->γ[i]?=some g->γ[j]?=some h->Bf c g h
def Ow (γ:Array Nat) (lo hi:Nat):Prop:=∀i g,lo<=i->i<hi->γ[i]?=some g->lo<=g/\g<hi
def Raw (γ:Array Nat) (lo hi:Nat):Prop:=∀i,lo<=i->i<hi->γ[i]?=some i
def Out (γ γ':Array Nat) (lo hi:Nat):Prop:=∀i,i<lo∨hi<=i->γ'[i]?=γ[i]?
theorem Out.refl (γ:Array Nat) (lo hi:Nat):Out γ γ lo hi:=fun _ _=>rfl
section
variable {prog:Program} {w:World} {A:Around} {E:Value->Shared->Prop} {s:Shared} {k:SortKind} {f:Nat->Keyed} {N:Nat} {c:Nat->Nat->Bool} {st:SortSt} {γ:Array Nat}
theorem gw {γ:Array Nat} (h:i<γ.size):∃g,γ[i]?=some g:=⟨_,Qj h⟩
theorem mid (h:l<u):l<=(l+u) / 2/\(l+u) / 2<u:=by lia
theorem GJ (h:u-l<=m-y) (h1:t<u) (h2:l<=t):t-l<=m-(y+1):=by lia
theorem lt_n (h:u-l<=m-y) (h1:l<=t) (h2:t<u):u-(t+1)<=m-(y+1):=by lia
inductive Bub (γ:Array Nat) (a b i g:Nat):Prop
 | at_ (h:i=a) (e:γ[b]?=some g)
 | mid (j:Nat) (h:i=j+1) (k:a<=j) (l:j<b) (e:γ[j]?=some g)
 | lo (h:i<a) (e:γ[i]?=some g)
 | hi (h:b<i)
theorem lG (e:(if i=a then γ[b]? else if a<i/\i<=b then γ[i-1]? else γ[i]?)=some g):Bub γ a b i g:=by
 by_cases h:i=a
 ·rw[Af h]at e;exact .at_ h e
 ·rw[Ah h]at e;by_cases h2:a<i/\i<=b
  ·rw[Af h2]at e;obtain⟨j,rfl⟩:=We (Wk (Zn (Wh _) h2.1));exact .mid j rfl (Nat.le_of_lt_succ h2.1) h2.2 e
  ·rw[Ah h2]at e;by_cases h3:i<a
   ·exact .lo h3 e
   ·exact .hi (AM fun z=>h2 ⟨Bm (BD h3) (AF h),z⟩)
theorem wg (hab:a<=b) (h:b<i):(if i=a then γ[b]? else if a<i/\i<=b then γ[i-1]? else γ[i]?)=γ[i]?:=by
 rw[Ah (Wk (Zn hab h)),Ah fun z=>Cr h z.2]
theorem EF (h:i<a):(if i=a then γ[b]? else if a<i/\i<=b then γ[i-1]? else γ[i]?)=γ[i]?:=by
 rw[Ah (Yg h),Ah fun z=>Nat.lt_asymm h z.1]
theorem yD (C:Cm prog w A s k f N c) (R:Rp k f N st γ) {lo n ok:Nat} (hn:lo+n<=N) (h1:1<=ok) (hok:ok<=n) (sg:Sg c γ lo (lo+ok)) (ow:Ow γ lo (lo+ok)) (raw:Raw γ (lo+ok) N)
  {Q:Bool->SortSt->Prop} (q:∀(x:Array Keyed) (γ':Array Nat),Rp k f N (setArr st x) γ'->Sg c γ' lo (lo+n)->Ow γ' lo (lo+n)->Raw γ' (lo+n) N->Out γ γ' lo (lo+n)->Q true (setArr st x)) :
  wpS (model prog w) A E s (binarySort' lo n ok) Q st:=by
 rw[binarySort'_eq]
 refine Ak (At (Aw (I:=fun m r st'=>r=(none,())/\∃x γ',st'=setArr st x/\Rp k f N st' γ'/\Sg c γ' lo (lo+m)/\Ow γ' lo (lo+m)/\Raw γ' (lo+m) N/\Out γ γ' lo (lo+m))
  (Q:=fun r st'=>r=(none,())/\∃x γ',st'=setArr st x/\Rp k f N st' γ'/\Sg c γ' lo (lo+n)/\Ow γ' lo (lo+n)/\Raw γ' (lo+n) N/\Out γ γ' lo (lo+n)) ?step ?fin ?init) ?post)
 case post =>
  rintro r st' ⟨rfl,x,γ',rfl,R',a1,a2,a3,a4⟩;exact Ai (q x γ' R' a1 a2 a3 a4)
 case init =>
  rw[show max ok 1=ok by lia]
  exact⟨rfl,arrOf st,γ,rfl,R,sg,ow,raw,Out.refl _ _ _⟩
 case fin =>
  rintro r st' h;rw[show max (max ok 1) n=n by lia]at h
  exact h
 case step =>
  rintro m r st' hm hmn ⟨rfl,x,γ',rfl,R',a1,a2,a3,a4⟩;have em:γ'[lo+m]?=some (lo+m):=a3 (lo+m) (Va _) (by lia)
  refine Ak (At (Aw (I:=fun y r st''=>st''=setArr st x/\∃l u,r=(none,l,u)/\l<=u/\u<=m/\u-l<=m-y /\
    (∀i g,lo<=i->i<lo+l->γ'[i]?=some g->c (lo+m) g=false)/\(∀i g,lo+u<=i->i<lo+m->γ'[i]?=some g->c (lo+m) g=true))
   (Q:=fun r st''=>st''=setArr st x/\∃l u,r=(none,l,u)/\l<=m /\
    (∀i g,lo<=i->i<lo+l->γ'[i]?=some g->c (lo+m) g=false)/\(∀i g,lo+l<=i->i<lo+m->γ'[i]?=some g->c (lo+m) g=true)) ?istep ?ifin ?iinit) ?ipost)
  case iinit=>exact⟨rfl,0,m,rfl,by lia,by lia,by lia,fun i g p1 p2=>by lia,fun i g p1 p2=>by lia⟩
  case ifin =>
   rintro r st'' ⟨rfl,l,u,rfl,b1,b2,b3,b4,b5⟩;obtain rfl:l=u:=by lia
   exact⟨rfl,l,l,rfl,b2,b4,b5⟩
  case istep =>
   rintro y r st'' _ hy ⟨rfl,l,u,rfl,b1,b2,b3,b4,b5⟩;dsimp only;by_cases hge:l ≥ u
   ·refine cR hge ?_;obtain rfl:l=u:=by lia
    exact Ai ⟨rfl,l,l,rfl,b2,b4,b5⟩
   ·refine cA hge ?_;have hq:l<=(l+u) / 2/\(l+u) / 2<u:=mid (AM hge);generalize (l+u) / 2=t at hq;obtain⟨q1,q2⟩:=hq;have q3:t-l<=m-(y+1):=GJ b3 q2 q1;have q4:u-(t+1)<=m-(y+1):=lt_n b3 q1 q2;obtain⟨g,eg⟩:=gw (γ:=γ') (i:=lo+t) (by rw[R'.size];lia)
    refine Ak (gO C R' em eg ?_);cases hc:c (lo+m) g with
    | true =>
     refine Ai ⟨rfl,l,t,rfl,q1,by lia,q3,b4,fun i g' p1 p2 e=>?_⟩
     by_cases hi:i=lo+t
     ·subst hi;rw[eg]at e;cases e;exact hc
     ·have bf:=a1 _ i g g' (by lia) (by lia) p2 eg e
      rcases C.neg _ g' _ hc with z|z
      ·exact z
      ·rw[C.le bf]at z;cases z
    | false =>
     refine Ai ⟨rfl,t+1,u,rfl,q2,b2,q4,fun i g' p1 p2 e=>?_,b5⟩;by_cases hi:i=lo+t
     ·subst hi;rw[eg]at e;cases e;exact hc
     ·have bf:=a1 i _ g' g p1 (by lia) (by lia) e eg
      exact C.letr (C.le bf) hc
  case ipost =>
   rintro r st'' ⟨rfl,l,u,rfl,b2,b4,b5⟩;show wpS _ _ _ _ (do moveDown' (lo+m) (lo+l);pure (ForInStep.yield (none,()))) _ _
   rw[moveDown'_eq];have hs:lo+m<γ'.size:=by rw[R'.size];lia
   have gb:=getElem?_bubble hs (lo+m-(lo+l)) (Nat.sub_le _ _);rw[Nat.sub_sub_self (Yj b2 lo)]at gb;refine Ak (A7 (Ai ⟨rfl,bubble x (lo+m) (lo+m-(lo+l)),bubble γ' (lo+m) (lo+m-(lo+l)),rfl,R'.put (bubble_perm _ _ _) ?_,?_,?_,?_,?_⟩))
   ·rw[R'.arr,rj]
   ·intro i j g h p1 p2 p3 e1 e2;rw[gb]at e1 e2;cases lG e1 with
    | at_ y e1 =>
     rw[em]at e1;cases e1;cases lG e2 with
     | at_ z e2=>lia
     | mid j' z z1 z2 e2=>exact .inl (b5 _ h z1 z2 e2)
     | lo z e2=>lia
     | hi z=>lia
    | mid i' y y1 y2 e1 =>
     cases lG e2 with
     | at_ z e2=>lia
     | mid j' z z1 z2 e2=>exact a1 _ _ g h (Qd (Qm _ _) y1) (by lia) z2 e1 e2
     | lo z e2=>lia
     | hi z=>lia
    | lo y e1 =>
     have ym:i<lo+m:=Wc y (Yj b2 lo);cases lG e2 with
     | at_ z e2 =>
      rw[em]at e2;cases e2;exact .inr ⟨b4 i g p1 y e1,(a2 i g p1 ym e1).2⟩
     | mid j' z z1 z2 e2=>exact a1 i _ g h p1 (Wc y z1) z2 e1 e2
     | lo z e2=>exact a1 i j g h p1 p2 (Wc z (Yj b2 lo)) e1 e2
     | hi z=>lia
    | hi y=>lia
   ·intro i g p1 p2 e;rw[gb]at e;cases lG e with
    | at_ z e=>rw[em]at e;cases e;exact⟨Qm _ _,BC _⟩
    | mid j z z1 z2 e=>exact⟨(a2 _ g (Qd (Qm _ _) z1) z2 e).1,Bv (a2 _ g (Qd (Qm _ _) z1) z2 e).2⟩
    | lo z e =>
     have ym:i<lo+m:=Wc z (Yj b2 lo);exact⟨(a2 i g p1 ym e).1,Bv (a2 i g p1 ym e).2⟩
    | hi z=>lia
   ·intro i p1 p2;rw[gb,wg (Yj b2 lo) p1];exact a3 i (Xk p1) p2
   ·intro i p;rw[gb];rcases p with p|p
    ·rw[EF (Wc p (Qm _ _))];exact a4 i (.inl p)
    ·rw[wg (Yj b2 lo) p];exact a4 i (.inr (Xk p))
end
end TS
namespace TS
open PySem PyProof.Rows
section
variable {prog:Program} {w:World} {A:Around} {E:Value->Shared->Prop} {s:Shared} {k:SortKind} {f:Nat->Keyed} {N:Nat} {c:Nat->Nat->Bool} {st:SortSt} {γ:Array Nat}
theorem Sg.more (C:Cm prog w A s k f N c) {lo n g h:Nat} (sg:Sg c γ lo n) (h1:lo<n) (e:γ[n-1]?=some g) (e':γ[n]?=some h) (b:Bf c g h):Sg c γ lo (n+1):=by
 intro i j g' h' p1 p2 p3 e1 e2;by_cases hj:j<n
 ·exact sg i j g' h' p1 p2 hj e1 e2
 ·obtain rfl:j=n:=by lia
  rw[e']at e2;cases e2;by_cases hi:i=j-1
  ·subst hi;rw[e]at e1;cases e1;exact b
  ·exact C.trans (sg i (j-1) g' g p1 (by lia) (by lia) e1 e) b
theorem pQ (C:Cm prog w A s k f N c) {lo x h:Nat} (sg:Sg c γ lo (lo+x)) (ow:Ow γ lo (lo+x)) (raw:Raw γ (lo+x) N) (h1:1<=x) (hx:lo+x<N) (e:γ[lo+x-1]?=some h) (hc:c (lo+x) h=false) :
  Sg c γ lo (lo+(x+1))/\Ow γ lo (lo+(x+1))/\Raw γ (lo+(x+1)) N:=by
 have en:=raw (lo+x) (Va _) hx;refine⟨sg.more C (by lia) e en (.inr ⟨hc,(ow _ h (by lia) (by lia) e).2⟩),fun i g p1 p2 e1=>?_,fun i p1 p2=>raw i (by lia) p2⟩
 by_cases hi:i<lo+x
 ·have:=ow i g p1 hi e1;lia
 ·obtain rfl:i=lo+x:=by lia
  rw[en]at e1;cases e1;lia
structure Fl (c:Nat->Nat->Bool) (γ:Array Nat) (lo m n:Nat):Prop where
 le:lo<=m
 lt:m<n
 fall:∀i j g h,lo<=i->i<j->j<m->γ[i]?=some g->γ[j]?=some h->Bf c h g
 cross:∀i j g h,lo<=i->i<m->m<=j->j<n->γ[i]?=some g->γ[j]?=some h->c h g=true
 same:∀i j g h,m<=i->i<n->m<=j->j<n->γ[i]?=some g->γ[j]?=some h->c g h=false
 raw:Raw γ m n
 own:Ow γ lo n
def Fa (c:Nat->Nat->Bool) (γ:Array Nat) (lo n:Nat):Prop:=∀i j g h,lo<=i->i<j->j<n->γ[i]?=some g->γ[j]?=some h->Bf c h g
theorem iC (hn:n<=γ.size) (h1:a<=i) (h2:i<n):∃i',a<=i'/\i'<n/\i+i'+1=a+n/\(mirror γ a n ((n-a) / 2))[i]?=γ[i']? :=
 ⟨a+n-1-i,by lia,by lia,by lia,by rw[getElem?_mirror_all hn,Af ⟨h1,h2⟩]⟩
theorem fL (hn:n<=γ.size) (h:i<a∨n<=i):(mirror γ a n ((n-a) / 2))[i]?=γ[i]?:=by
 rw[getElem?_mirror_all hn,Ah fun z=>h.elim (fun q=>Cr q z.1) fun q=>Cr z.2 q]
theorem uq {lo n:Nat} (fa:Fa c γ lo n) (hn:n<=γ.size):Sg c (mirror γ lo n ((n-lo) / 2)) lo n:=by
 intro i j g h p1 p2 p3 e1 e2;obtain⟨i',a1,a2,a3,a4⟩:=iC (γ:=γ) hn p1 (Bj p2 p3);obtain⟨j',b1,b2,b3,b4⟩:=iC (γ:=γ) hn (Qd p1 (Xk p2)) p3;exact fa j' i' h g b1 (by lia) a2 (b4 ▸ e2) (a4 ▸ e1)
theorem gP {lo a n:Nat} (ow:Ow γ lo n) (ha:lo<=a) (hn:n<=γ.size):Ow (mirror γ a n ((n-a) / 2)) lo n:=by
 intro i g p1 p2 e;by_cases hi:a<=i
 ·obtain⟨i',a1,a2,a3,a4⟩:=iC (γ:=γ) hn hi p2;exact ow i' g (Qd ha a1) a2 (a4 ▸ e)
 ·rw[fL hn (.inl (AM hi))]at e;exact ow i g p1 p2 e
theorem dO (raw:Raw γ n m) (hn:n<=γ.size):Raw (mirror γ a n ((n-a) / 2)) n m:=by
 intro i p1 p2;rw[fL hn (.inr p1)];exact raw i p1 p2
theorem fN {lo a n:Nat} {γ':Array Nat} (o:Out γ γ' lo n) (ha:lo<=a) (hn:n<=γ'.size):Out γ (mirror γ' a n ((n-a) / 2)) lo n:=by
 intro i p;rw[fL hn (p.imp (fun q=>Wc q ha) id)];exact o i p
theorem Out.wide {lo n n':Nat} {γ':Array Nat} (o:Out γ γ' lo n) (h:n<=n'):Out γ γ' lo n':=fun i p=>o i (by lia)
theorem Fl.turn {lo m n:Nat} (F:Fl c γ lo m n) (hn:n<=γ.size):Fa c (mirror γ m n ((n-m) / 2)) lo n:=by
 intro i j g h p1 p2 p3 e1 e2;by_cases hj:j<m
 ·rw[fL hn (.inl (Bj p2 hj))]at e1;rw[fL hn (.inl hj)]at e2;exact F.fall i j g h p1 p2 hj e1 e2
 obtain⟨j',b1,b2,b3,b4⟩:=iC (γ:=γ) hn (BD hj) p3;rw[b4]at e2;by_cases hi:i<m
 ·rw[fL hn (.inl hi)]at e1;exact .inl (F.cross i j' g h p1 hi b1 b2 e1 e2)
 ·obtain⟨i',a1,a2,a3,a4⟩:=iC (γ:=γ) hn (BD hi) (Bj p2 p3);rw[a4]at e1;refine .inr ⟨F.same i' j' g h a1 a2 b1 b2 e1 e2,?_⟩;rw[F.raw i' a1 a2]at e1;rw[F.raw j' b1 b2]at e2;cases e1;cases e2;lia
theorem Fl.fa1 {lo m:Nat} (F:Fl c γ lo m (m+1)):Fa c γ lo (m+1):=by
 intro i j g h p1 p2 p3 e1 e2;by_cases hj:j<m
 ·exact F.fall i j g h p1 p2 hj e1 e2
 ·exact .inl (F.cross i j g h p1 (by lia) (by lia) p3 e1 e2)
theorem Fa.next (C:Cm prog w A s k f N c) {lo n g:Nat} (fa:Fa c γ lo n) (ow:Ow γ lo n) (raw:Raw γ n N) (hl:lo<n) (hn:n<N) (z:∀i g,lo<=i->i<n->γ[i]?=some g->c n g=true):Fl c γ lo n (n+1):=by
 have en:=raw n (Va _) hn;refine⟨by lia,by lia,fa,fun i j g h p1 p2 p3 p4 e1 e2=>?_,fun i j g h p1 p2 p3 p4 e1 e2=>?_,fun i p1 p2=>raw i p1 (by lia),fun i g p1 p2 e=>?_⟩
 ·obtain rfl:j=n:=by lia
  rw[en]at e2;cases e2;exact z i g p1 p2 e1
 ·obtain rfl:i=n:=by lia
  obtain rfl:j=i:=by lia
  rw[en]at e1 e2;cases e1;cases e2;exact C.irr _
 ·by_cases hi:i<n
  ·have:=ow i g p1 hi e;lia
  ·obtain rfl:i=n:=by lia
   rw[en]at e;cases e;lia
theorem Fl.more (C:Cm prog w A s k f N c) {lo m n:Nat} (F:Fl c γ lo m n) (raw:Raw γ n N) (hn:n<N) (z1:c n (n-1)=false) (z2:c (n-1) n=false):Fl c γ lo m (n+1):=by
 have en:=raw n (Va _) hn;have ep:=F.raw (n-1) (by have:=F.lt;lia) (by have:=F.lt;lia)
 have hlt:=F.lt;have hle:=F.le;refine⟨hle,by lia,F.fall,fun i j g h p1 p2 p3 p4 e1 e2=>?_,fun i j g h p1 p2 p3 p4 e1 e2=>?_,fun i p1 p2=>?_,fun i g p1 p2 e=>?_⟩
 ·by_cases hj:j<n
  ·exact F.cross i j g h p1 p2 p3 hj e1 e2
  ·obtain rfl:j=n:=by lia
   rw[en]at e2;cases e2;rcases C.neg _ j _ (F.cross i (j-1) g (j-1) p1 p2 (by lia) (by lia) e1 ep) with q|q
   ·rw[z2]at q;cases q
   ·exact q
 ·have key:∀a g,m<=a->a<n+1->γ[a]?=some g->c g (n-1)=false/\c (n-1) g=false:=by
   intro a g q1 q2 e;by_cases ha:a<n
   ·exact⟨F.same a (n-1) g (n-1) q1 ha (by lia) (by lia) e ep,F.same (n-1) a (n-1) g (by lia) (by lia) q1 ha ep e⟩
   ·obtain rfl:a=n:=by lia
    rw[en]at e;cases e;exact⟨z1,z2⟩
  exact C.letr (key j h p3 p4 e2).2 (key i g p1 p2 e1).1
 ·by_cases hi:i<n
  ·exact F.raw i p1 hi
  ·exact raw i (by lia) (by lia)
 ·by_cases hi:i<n
  ·have:=F.own i g p1 hi e;lia
  ·obtain rfl:i=n:=by lia
   rw[en]at e;cases e;lia
theorem Fl.below (C:Cm prog w A s k f N c) {lo m n x:Nat} (F:Fl c γ lo m n) (z:c x (n-1)=true):∀i g,lo<=i->i<n->γ[i]?=some g->c x g=true:=by
 have hlt:=F.lt;have ep:=F.raw (n-1) (by lia) (by lia)
 intro i g p1 p2 e;rcases C.neg x g _ z with q|q
 ·exact q
 ·by_cases hi:i<m
  ·exact absurd (F.cross i (n-1) g (n-1) p1 hi (by lia) (by lia) e ep) (by rw[C.asy q];exact Bool.noConfusion)
  ·rw[F.same i (n - 1) g (n - 1) (by lia) p2 (by lia) (by lia) e ep]at q;cases q
def Rn (k:SortKind) (f:Nat->Keyed) (N:Nat) (c:Nat->Nat->Bool) (lo:Nat) (st:SortSt) (γ:Array Nat) (n:Nat) (st':SortSt):Prop :=
 ∃x γ',st'=setArr st x/\Rp k f N st' γ'/\Sg c γ' lo (lo+n)/\Ow γ' lo (lo+n)/\Raw γ' (lo+n) N/\Out γ γ' lo (lo+n)
def pR (lo n nrem:Nat):StateT SortSt Sem (Option Nat):=do
 reverseSlice' lo (lo+n)
 let r ← forIn [n:nrem] ((none,n):Option (Option Nat)×Nat) fun _ r=>do
  match ← ltAt' (lo+r.2) (lo+r.2-1) with
  | some smaller=>if smaller=true then pure (ForInStep.done (none,r.2)) else pure (ForInStep.yield (none,r.2+1))
  | _=>pure (ForInStep.done (some none,r.2))
 match r.1 with
 | some z=>pure z
 | none=>pure (some r.2)
def lH (lo x nrem:Nat):StateT SortSt Sem (Option Nat):=do
 liftM (rule "list.sort.descending-run")
 let r ← forIn [x+1:nrem] ((none,x+1,0):Option (Option Nat)×Nat×Nat) fun _ r=>do
  match ← ltAt' (lo+r.2.1) (lo+r.2.1-1) with
  | some smaller =>
   if smaller=true then
    if r.2.2 > 0 then do
     reverseSlice' (lo+r.2.1-(r.2.2+1)) (lo+r.2.1)
     pure (ForInStep.yield (none,r.2.1+1,0))
    else pure (ForInStep.yield (none,r.2.1+1,0))
   else do
    match ← ltAt' (lo+r.2.1-1) (lo+r.2.1) with
    | some larger=>if larger=true then pure (ForInStep.done (none,r.2.1,r.2.2)) else pure (ForInStep.yield (none,r.2.1+1,r.2.2+1))
    | _=>pure (ForInStep.done (some none,r.2.1,r.2.2))
  | _=>pure (ForInStep.done (some none,r.2.1,r.2.2))
 match r.1 with
 | some z=>pure z
 | none =>
  if r.2.2 > 0 then do
   reverseSlice' (lo+r.2.1-(r.2.2+1)) (lo+r.2.1)
   pR lo r.2.1 nrem
  else pR lo r.2.1 nrem
theorem og (h:Q () (setArr st (mirror (arrOf st) i j ((j-i) / 2)))):wpS (model prog w) A E s (reverseSlice' i j) Q st:=by
 rw[reverseSlice'_eq];exact A7 h
theorem sE (C:Cm prog w A s k f N c) {st₀:SortSt} {γ₀:Array Nat} {lo n:Nat} {y:Array Keyed} (R:Rp k f N (setArr st₀ y) γ) (h1:1<=n) (hn:lo+n<=N) (fa:Fa c γ lo (lo+n)) (ow:Ow γ lo (lo+n)) (raw:Raw γ (lo+n) N) (out:Out γ₀ γ lo (lo+n))
  {Q:Option Nat->SortSt->Prop} (q:∀n st',1<=n->lo+n<=N->Rn k f N c lo st₀ γ₀ n st'->Q (some n) st'):wpS (model prog w) A E s (pR lo n (N-lo)) Q (setArr st₀ y):=by
 have hs:lo+n<=γ.size:=by rw[R.size];exact hn
 refine Ak (og ?_);have R1:Rp k f N (setArr st₀ (mirror y lo (lo+n) ((lo+n-lo) / 2))) (mirror γ lo (lo+n) ((lo+n-lo) / 2)):=R.put (mirror_perm _ _ _ _) (by rw[show y=γ.map f from R.arr,fK])
 have sg:=uq fa hs;have ow':=gP ow (Va lo) hs;have raw':=dO (a:=lo) raw hs;have out':=fN out (Va lo) hs;generalize mirror γ lo (lo+n) ((lo+n-lo) / 2)=δ at R1 sg ow' raw' out';generalize mirror y lo (lo+n) ((lo+n-lo) / 2)=y' at R1
 refine Ak (At (Aw (I:=fun x r st'=>st'=setArr st₀ y'/\r=(none,x)/\n<=x/\lo+x<=N/\Sg c δ lo (lo+x)/\Ow δ lo (lo+x)/\Raw δ (lo+x) N)
  (Q:=fun r st'=>st'=setArr st₀ y'/\∃x,r=(none,x)/\n<=x/\lo+x<=N/\Sg c δ lo (lo+x)/\Ow δ lo (lo+x)/\Raw δ (lo+x) N) ?step ?fin ?init) ?post)
 case init=>exact⟨rfl,rfl,Va _,hn,sg,ow',raw'⟩
 case fin =>
  rintro r st' ⟨rfl,rfl,b1,b2,b3,b4,b5⟩;exact⟨rfl,_,rfl,b1,b2,b3,b4,b5⟩
 case step =>
  rintro x r st' p1 p2 ⟨rfl,rfl,b1,b2,b3,b4,b5⟩;dsimp only;have en:=b5 (lo+x) (by lia) (by lia)
  obtain⟨g,ep⟩:=gw (γ:=δ) (i:=lo+x-1) (by rw[R1.size];lia)
  refine Ak (gO C R1 en ep ?_);cases hc:c (lo+x) g with
  | true=>exact Ai ⟨rfl,x,rfl,b1,b2,b3,b4,b5⟩
  | false =>
   obtain⟨a1,a2,a3⟩:=pQ C b3 b4 b5 (by lia) (by lia) ep hc
   exact Ai ⟨rfl,rfl,by lia,by lia,a1,a2,a3⟩
 case post =>
  rintro r st' ⟨rfl,x,rfl,b1,b2,b3,b4,b5⟩;exact Ai (q x _ (by lia) b2 ⟨y',δ,rfl,R1,b3,b4,b5,out'.wide (by lia)⟩)
theorem sF (C:Cm prog w A s k f N c) {st₀:SortSt} {γ₀:Array Nat} {lo x:Nat} {y:Array Keyed} (R:Rp k f N (setArr st₀ y) γ) (hx:lo+x<N) (F:Fl c γ lo (lo+x) (lo+x+1)) (raw:Raw γ (lo+x+1) N) (out:Out γ₀ γ lo (lo+x+1))
  {Q:Option Nat->SortSt->Prop} (q:∀n st',1<=n->lo+n<=N->Rn k f N c lo st₀ γ₀ n st'->Q (some n) st'):wpS (model prog w) A E s (lH lo x (N-lo)) Q (setArr st₀ y):=by
 refine Ak (BV (AU ⟨rfl,?_⟩))
 refine Ak (At (Aw (I:=fun n r st'=>∃e y' δ,r=(none,n,e)/\st'=setArr st₀ y'/\Rp k f N (setArr st₀ y') δ/\e+1<=n/\lo+n<=N/\Fl c δ lo (lo+n-(e+1)) (lo+n)/\Raw δ (lo+n) N/\Out γ₀ δ lo (lo+n))
  (Q:=fun r st'=>∃n e y' δ,r=(none,n,e)/\st'=setArr st₀ y'/\Rp k f N (setArr st₀ y') δ/\e+1<=n/\lo+n<=N/\Fl c δ lo (lo+n-(e+1)) (lo+n)/\Raw δ (lo+n) N/\Out γ₀ δ lo (lo+n)) ?step ?fin ?init) ?post)
 case init=>exact⟨0,y,γ,rfl,rfl,R,by lia,by lia,F,raw,out⟩
 case fin =>
  rintro r st' ⟨e,y',δ,h⟩;exact⟨_,e,y',δ,h⟩
 case step =>
  rintro n r st' p1 p2 ⟨e,y',δ,rfl,rfl,R1,b1,b2,F1,raw1,out1⟩;dsimp only;have en:=raw1 (lo+n) (Va _) (by lia)
  have s1:1<=lo+n:=by lia
  have ep:=F1.raw (lo+n-1) (Nat.sub_le_sub_left (Nat.succ_le_succ (Wh e)) _) (Nat.sub_lt s1 Nat.one_pos);have hs:lo+n<=δ.size:=by rw[R1.size];exact b2
  refine Ak (gO C R1 en ep ?_);cases hc:c (lo+n) (lo+n-1) with
  | true =>
   dsimp only;refine cR rfl ?_;have bl:=F1.below C hc;by_cases he:e > 0
   ·refine cR he ?_;refine Ak (og (Ai ?_));have fa:=F1.turn hs;have ow':=gP F1.own F1.le hs;have raw':=dO (a:=lo+n-(e+1)) raw1 hs;have out':=fN out1 F1.le hs;refine⟨0,_,mirror δ (lo+n-(e+1)) (lo+n) ((lo+n-(lo+n-(e+1))) / 2),rfl,rfl,R1.put (mirror_perm _ _ _ _) (by rw[show arrOf (setArr st₀ y')=δ.map f from R1.arr,fK]),by lia,by lia,?_,fun i q1 q2=>raw' i (by lia) q2,out'.wide (by lia)⟩
    refine fa.next C (g:=0) ow' raw' (by lia) (by lia) fun i g q1 q2 e1=>?_
    by_cases hi:lo+n-(e+1)<=i
    ·obtain⟨i',a1,a2,_,a4⟩:=iC (γ:=δ) hs hi q2;exact bl i' g (Qd F1.le a1) a2 (a4 ▸ e1)
    ·rw[fL hs (.inl (AM hi))]at e1;exact bl i g q1 q2 e1
   ·obtain rfl:e=0:=by lia
    refine cA he ?_;have F2:Fl c δ lo (lo+n-1) (lo+n-1+1):=by rw[Bk s1];exact F1
    have fa:=F2.fa1;rw[Bk s1]at fa;exact Ai ⟨0,y',δ,rfl,rfl,R1,by lia,by lia,fa.next C (g:=0) F1.own raw1 (by lia) (by lia) bl,fun i q1 q2=>raw1 i (by lia) q2,out1.wide (by lia)⟩
  | false =>
   dsimp only;refine cA Bool.noConfusion ?_;refine Ak (gO C R1 ep en ?_);cases hc2:c (lo+n-1) (lo+n) with
   | true=>exact Ai ⟨n,e,y',δ,rfl,rfl,R1,b1,b2,F1,raw1,out1⟩
   | false =>
    refine Ai ⟨e+1,y',δ,rfl,rfl,R1,by lia,by lia,?_,fun i q1 q2=>raw1 i (by lia) q2,out1.wide (by lia)⟩
    rw[show lo+(n+1) - (e+1+1)=lo+n - (e+1) from Nat.succ_sub_succ _ _];exact F1.more C raw1 (by lia) hc hc2
 case post =>
  rintro r st' ⟨n,e,y',δ,rfl,rfl,R1,b1,b2,F1,raw1,out1⟩;have hs:lo+n<=δ.size:=by rw[R1.size];exact b2
  have s1:1<=lo+n:=by lia
  dsimp only;by_cases he:e > 0
  ·refine cR he ?_;refine Ak (og ?_);exact sE C (γ:=mirror δ (lo+n-(e+1)) (lo+n) ((lo+n-(lo+n-(e+1))) / 2)) (R1.put (mirror_perm _ _ _ _) (by rw[show arrOf (setArr st₀ y')=δ.map f from R1.arr,fK])) (by lia) b2 (F1.turn hs) (gP F1.own F1.le hs) (dO (a:=lo+n-(e+1)) raw1 hs) (fN out1 F1.le hs) q
  ·obtain rfl:e=0:=by lia
   refine cA he ?_;have F2:Fl c δ lo (lo+n-1) (lo+n-1+1):=by rw[Bk s1];exact F1
   have fa:=F2.fa1;rw[Bk s1]at fa;exact sE C R1 (by lia) b2 fa F1.own raw1 out1 q
theorem EG (C:Cm prog w A s k f N c) (R:Rp k f N st γ) {lo:Nat} (hl:lo<N) (raw:Raw γ lo N)
  {Q:Option Nat->SortSt->Prop} (q:∀n st',1<=n->lo+n<=N->Rn k f N c lo st γ n st'->Q (some n) st'):wpS (model prog w) A E s (countRun' lo (N-lo)) Q st:=by
 rw[countRun'_eq];have sg1:Sg c γ lo (lo+1):=fun i j g h p1 p2 p3=>by lia
 have ow1:Ow γ lo (lo+1):=fun i g p1 p2 e=>by
  obtain rfl:i=lo:=by lia
  rw[raw i (Va _) hl]at e;cases e;lia
 refine Ak (At (Aw (I:=fun x r st'=>st'=st/\r=(none,x)/\1<=x/\lo+x<=N/\Sg c γ lo (lo+x)/\Ow γ lo (lo+x)/\∀i g h,lo<=i->i+1<lo+x->γ[i]?=some g->γ[i+1]?=some h->c h g=false)
  (Q:=fun r st'=>st'=st/\∃x,r=(none,x)/\1<=x/\lo+x<=N/\Sg c γ lo (lo+x)/\Ow γ lo (lo+x)/\(lo+x=N∨c (lo+x) (lo+x-1)=true)) ?step ?fin ?init) ?post)
 case init=>exact⟨rfl,rfl,by lia,by lia,sg1,ow1,fun i g h p1 p2=>by lia⟩
 case fin =>
  rintro r st' ⟨rfl,rfl,b1,b2,b3,b4,b5⟩;exact⟨rfl,_,rfl,b1,b2,b3,b4,.inl (by lia)⟩
 case step =>
  rintro x r st' p1 p2 ⟨rfl,rfl,b1,b2,b3,b4,b5⟩;dsimp only;have en:=raw (lo+x) (by lia) (by lia)
  have ep:=raw (lo+x-1) (by lia) (by lia)
  refine Ak (gO C R en ep ?_);cases hc:c (lo+x) (lo+x-1) with
  | true=>exact Ai ⟨rfl,x,rfl,b1,b2,b3,b4,.inr hc⟩
  | false =>
   obtain⟨a1,a2,_⟩:=pQ C b3 b4 (fun i q1 q2=>raw i (by lia) q2) b1 (by lia) ep hc
   refine Ai ⟨rfl,rfl,by lia,by lia,a1,a2,fun i g h q1 q2 e1 e2=>?_⟩
   rw[raw i q1 (by lia)]at e1
   rw[raw (i+1) (by lia) (by lia)]at e2
   cases e1;cases e2;by_cases hi:i+1<lo+x
   ·exact b5 i i (i+1) q1 hi (raw _ q1 (by lia)) (raw _ (by lia) (by lia))
   ·obtain rfl:i=lo+x-1:=by lia
    rw[show lo+x - 1+1=lo+x by lia];exact hc
 case post =>
  rintro r st' ⟨rfl,x,rfl,b1,b2,b3,b4,b6⟩;dsimp only;by_cases hx:lo+x=N
  ·refine cR (by simp;lia) ?_
   exact Ai (q x _ b1 b2 ⟨_,γ,rfl,R,b3,b4,fun i q1 q2=>raw i (by lia) q2,Out.refl _ _ _⟩)
  ·refine cA (by simp;lia) ?_
   have hc:c (lo+x) (lo+x-1)=true:=b6.resolve_left hx;have hs:lo+x<=γ.size:=by rw[R.size];exact b2
   have raw':Raw γ (lo+x) N:=fun i q1 q2=>raw i (by lia) q2
   by_cases h1:x > 1
   ·refine cR h1 ?_;refine Ak (gO C R (raw lo (Va _) hl) (raw (lo+x-1) (by lia) (by lia)) ?_)
    cases hr:c lo (lo+x-1) with
    | true=>exact Ai (q x _ b1 b2 ⟨_,γ,rfl,R,b3,b4,raw',Out.refl _ _ _⟩)
    | false =>
     dsimp only;refine cA Bool.noConfusion ?_;have le:∀a b,lo<=a->a<lo+x->lo<=b->b<lo+x->a<=b->c b a=false:=fun a b p1 p2 p3 p4 p5=>by
      by_cases ab:a=b
      ·subst ab;exact C.irr _
      ·exact C.le (b3 a b a b p1 (by lia) p4 (raw a p1 (by lia)) (raw b p3 (by lia)))
     have al:∀a b,lo<=a->a<lo+x->lo<=b->b<lo+x->c a b=false:=fun a b p1 p2 p3 p4=>by
      by_cases ab:b<=a
      ·exact le b a p3 p4 p1 p2 ab
      ·cases hab:c a b with
       | false=>rfl
       | true =>
        rcases C.neg a lo b hab with z|z
        ·rw[le lo a (Va _) (by lia) p1 p2 p1]at z;exact z.symm
        ·rcases C.neg lo (lo+x-1) b z with z|z
         ·rw[hr]at z;exact z.symm
         ·rw[le b (lo+x - 1) p3 p4 (by lia) (by lia) (by lia)]at z;exact z.symm
     have F0:Fl c γ lo lo (lo+x):=⟨Va _,by lia,fun i j g h p1 p2 p3=>by lia,fun i j g h p1 p2=>by lia,fun i j g h p1 p2 p3 p4 e1 e2=>by
      rw[raw i p1 (by lia)]at e1
      rw[raw j p3 (by lia)]at e2
      cases e1;cases e2
      exact al i j p1 p2 p3 p4,fun i p1 p2=>raw i p1 (by lia),b4⟩
     refine Ak (og ?_);refine(show ∀{m:StateT SortSt Sem (Option Nat)} {t:SortSt},m=lH lo x (N-lo)->wpS (model prog w) A E s (lH lo x (N-lo)) Q t->wpS (model prog w) A E s m Q t from fun e h=>e ▸ h) ?_
      (sF C (st₀:=st') (γ₀:=γ) (γ:=mirror γ lo (lo+x) ((lo+x-lo) / 2)) (R.put (mirror_perm _ _ _ _) (by rw[R.arr,fK])) (by lia)
       ((F0.turn hs).next C (g:=0) (gP b4 (Va _) hs) (dO (a:=lo) raw' hs) (by lia) (by lia) fun i g p1 p2 e=>?_) (fun i q1 q2=>dO (a:=lo) raw' hs i (by lia) q2) ((fN (Out.refl γ lo (lo+x)) (Va _) hs).wide (by lia)) q)
     ·unfold lH pR;congr 1;funext _v;congr 1;funext z;obtain⟨z1,z2,z3⟩:=z;cases z1 with
      | some z1=>rfl
      | none =>
       dsimp only;split
       ·congr 1;funext _y;congr 1;funext _u;congr 1;funext z;obtain⟨z1,z2⟩:=z;cases z1<;>rfl
       ·congr 1;funext _u;congr 1;funext z;obtain⟨z1,z2⟩:=z;cases z1<;>rfl
     ·obtain⟨i',a1,a2,_,a4⟩:=iC (γ:=γ) hs p1 p2;exact F0.below C hc i' g a1 a2 (a4 ▸ e)
   ·obtain rfl:x=1:=by lia
    refine cA h1 ?_;have fa:Fa c γ lo (lo+1):=fun i j g h p1 p2 p3=>by lia
    refine(show ∀{m:StateT SortSt Sem (Option Nat)},m=lH lo 1 (N-lo)->wpS (model prog w) A E s (lH lo 1 (N-lo)) Q st'->wpS (model prog w) A E s m Q st' from fun e h=>e ▸ h) ?_ (sF C (st₀:=st') (y:=arrOf st') (γ₀:=γ) (γ:=γ) R (by lia) (fa.next C (g:=0) b4 raw' (by lia) (by lia) fun i g p1 p2 e=>?_) (fun i q1 q2=>raw i (by lia) q2) (Out.refl _ _ _) q)
    ·unfold lH pR;congr 1;funext _v;congr 1;funext z;obtain⟨z1,z2,z3⟩:=z;cases z1 with
     | some z1=>rfl
     | none =>
      dsimp only;split
      ·congr 1;funext _y;congr 1;funext _u;congr 1;funext z;obtain⟨z1,z2⟩:=z;cases z1<;>rfl
      ·congr 1;funext _u;congr 1;funext z;obtain⟨z1,z2⟩:=z;cases z1<;>rfl
    obtain rfl:i=lo:=by lia
    rw[raw i (Va _) hl]at e;cases e;exact hc
end
end TS
namespace TS
open PySem PyProof.Rows
def By (left:Bool) (key:Keyed) (arr:Array Keyed) (base i:Nat):StateT SortSt Sem (Option Bool):=do
 let p ← elem' arr (base+i)
 if left then lt' p key else return (← lt' key p).map (!·)
def gal:Bool->Keyed->Array Keyed->Nat->Nat->Nat->StateT SortSt Sem (Option Nat):=sortPriv% PySem.Builtin.gallop
section
variable {prog:Program} {w:World} {A:Around} {E:Value->Shared->Prop} {s:Shared} {k:SortKind} {f:Nat->Keyed} {N:Nat} {c:Nat->Nat->Bool} {st:SortSt} {δ:Array Nat}
def bb (c:Nat->Nat->Bool) (left:Bool) (t g:Nat):Bool:=if left then c g t else !c t g
theorem sG (C:Cm prog w A s k f N c) (hk:kindOf st=k) (ht:t<N) (hg:g<N) (e:δ[base+i]?=some g) (q:Q (some (bb c left t g)) st) :
  wpS (model prog w) A E s (By left (f t) (δ.map f) base i) Q st:=by
 unfold By;rw[elem'_eq,Br,e];refine Ak (Ai ?_);cases left with
 | true=>exact pP C hk hg ht q
 | false=>exact Ak (pP C hk ht hg (Ai q))
def wj (left:Bool) (key:Keyed) (arr:Array Keyed) (base n l h:Nat):StateT SortSt Sem (Option Nat):=do
 let r ← forIn [0:n] ((none,l,h):Option (Option Nat)×Nat×Nat) fun _ r=>do
  if r.2.1 ≥ r.2.2 then pure (ForInStep.done (none,r.2.1,r.2.2)) else do
   match ← By left key arr base (r.2.1+(r.2.2-r.2.1) / 2) with
   | some mo=>if mo=true then pure (ForInStep.yield (none,r.2.1+(r.2.2-r.2.1) / 2+1,r.2.2)) else pure (ForInStep.yield (none,r.2.1,r.2.1+(r.2.2-r.2.1) / 2))
   | _=>pure (ForInStep.done (some none,r.2.1,r.2.2))
 match r.1 with
 | some z=>pure z
 | none=>pure (some r.2.2)
def Tr (c:Nat->Nat->Bool) (left:Bool) (t base:Nat) (δ:Array Nat) (m:Nat):Prop:=∀(i g:Nat),base<=i->i<base+m->δ[i]?=some g->bb c left t g=true
def Fs (c:Nat->Nat->Bool) (left:Bool) (t base n:Nat) (δ:Array Nat) (m:Nat):Prop:=∀(i g:Nat),base+m<=i->i<base+n->δ[i]?=some g->bb c left t g=false
def Mo (c:Nat->Nat->Bool) (left:Bool) (t base n:Nat) (δ:Array Nat):Prop:=∀(i j g h:Nat),base<=i->i<j->j<base+n->δ[i]?=some g->δ[j]?=some h->bb c left t h=true->bb c left t g=true
theorem Mo.tr (mo:Mo c left t base n δ) (hm:m<n) (e:δ[base+m]?=some g) (h:bb c left t g=true):Tr c left t base δ (m+1):=by grind [Mo,bb,Tr]
theorem Mo.fs (mo:Mo c left t base n δ) (hm:m<n) (e:δ[base+m]?=some g) (h:bb c left t g=false):Fs c left t base n δ m:=by grind [Mo,bb,Fs]
theorem G8 (q:l<h):l<=l+(h-l) / 2/\l+(h-l) / 2<h:=by lia
theorem sH (C:Cm prog w A s k f N c) (hk:kindOf st=k) (ht:t<N) (hb:∀(i g:Nat),δ[i]?=some g->g<N) (hs:base+n<=δ.size) (mo:Mo c left t base n δ)
  (h1:l<=h) (h2:h<=n) (tr:Tr c left t base δ l) (fs:Fs c left t base n δ h) (q:∀m,m<=n->Tr c left t base δ m->Fs c left t base n δ m->Q (some m) st) :
  wpS (model prog w) A E s (wj left (f t) (δ.map f) base n l h) Q st:=by
 refine Ak (At (Aw (I:=fun x r st'=>st'=st/\∃l h,r=(none,l,h)/\l<=h/\h<=n/\h-l<=n-x/\Tr c left t base δ l/\Fs c left t base n δ h)
  (Q:=fun r st'=>st'=st/\∃l,r=(none,l,l)/\l<=n/\Tr c left t base δ l/\Fs c left t base n δ l) ?step ?fin ?init) ?post)
 case init=>exact⟨rfl,l,h,rfl,h1,h2,by lia,tr,fs⟩
 case fin =>
  rintro r st' ⟨rfl,l,h,rfl,b1,b2,b3,b4,b5⟩;obtain rfl:l=h:=by lia
  exact⟨rfl,l,rfl,b2,b4,b5⟩
 case step =>
  rintro x r st' p1 p2 ⟨rfl,l,h,rfl,b1,b2,b3,b4,b5⟩;dsimp only;by_cases hlh:l ≥ h
  ·refine cR hlh ?_;obtain rfl:l=h:=by lia
   exact Ai ⟨rfl,l,rfl,b2,b4,b5⟩
  ·refine cA hlh ?_;obtain⟨q1,q2⟩:=G8 (AM hlh);generalize l+(h-l) / 2=t' at q1 q2 ⊢;have q5:t'<n:=Wc q2 b2;obtain⟨g,e⟩:=gw (γ:=δ) (i:=base+t') (Wc (Nat.add_lt_add_left q5 base) hs);refine Ak (sG C hk ht (hb _ _ e) e ?_);cases hc:bb c left t g with
   | true=>exact Ai ⟨rfl,_,_,rfl,q2,b2,lt_n b3 q1 q2,mo.tr q5 e hc,b5⟩
   | false=>exact Ai ⟨rfl,_,_,rfl,q1,Xk q5,GJ b3 q2 q1,b4,mo.fs q5 e hc⟩
 case post =>
  rintro r st' ⟨rfl,l,rfl,b1,b2,b3⟩;exact Ai (q l b1 b2 b3)
theorem wl (C:Cm prog w A s k f N c) (hk:kindOf st=k) (ht:t<N) (hb:∀(i g:Nat),δ[i]?=some g->g<N) (hs:base+n<=δ.size) (hh:hint<n) (mo:Mo c left t base n δ)
  (q:∀m,m<=n->Tr c left t base δ m->Fs c left t base n δ m->Q (some m) st) :
  wpS (model prog w) A E s (gal left (f t) (δ.map f) base n hint) Q st:=by
 obtain⟨g0,e0⟩:=gw (γ:=δ) (i:=base+hint) (by lia)
 refine Ak (sG C hk ht (hb _ _ e0) e0 ?_);have sw:∀{m m':StateT SortSt Sem (Option Nat)},m=m'->wpS (model prog w) A E s m' Q st->wpS (model prog w) A E s m Q st:=fun e h=>e ▸ h;dsimp only;cases hc:bb c left t g0 with
 | true =>
  refine cR rfl ?_
  refine Ak (At (Aw (I:=fun x r st'=>st'=st/\∃a o,r=(none,a,o)/\a<o/\x<o/\a<n-hint/\Tr c left t base δ (hint+a+1))
   (Q:=fun r st'=>st'=st/\∃a o,r=(none,a,o)/\a<o/\a<n-hint/\Tr c left t base δ (hint+a+1)/\(n-hint<=o∨Fs c left t base n δ (hint+o))) ?step ?fin ?init) ?post)
  case init=>exact⟨rfl,0,1,rfl,by lia,by lia,by lia,mo.tr hh e0 hc⟩
  case fin =>
   rintro r st' ⟨rfl,a,o,rfl,b1,b2,b3,b4⟩;exact⟨rfl,a,o,rfl,b1,b3,b4,.inl (by lia)⟩
  case step =>
   rintro x r st' p1 p2 ⟨rfl,a,o,rfl,b1,b2,b3,b4⟩;dsimp only;by_cases ho:o ≥ n-hint
   ·refine cR ho ?_;exact Ai ⟨rfl,a,o,rfl,b1,b3,b4,.inl ho⟩
   ·refine cA ho ?_;obtain⟨g,e⟩:=gw (γ:=δ) (i:=base+(hint+o)) (by lia)
    refine Ak (sG C hk ht (hb _ _ e) e ?_);cases hc:bb c left t g with
    | true=>exact Ai ⟨rfl,o,2*o+1,rfl,by lia,by lia,by lia,mo.tr (by lia) e hc⟩
    | false=>exact Ai ⟨rfl,a,o,rfl,b1,b3,b4,.inr (mo.fs (by lia) e hc)⟩
  case post =>
   rintro r st' ⟨rfl,a,o,rfl,b1,b3,b4,b5⟩;refine sw (m':=wj left (f t) (δ.map f) base n (hint+a+1) (hint+min o (n-hint))) (by unfold wj;dsimp only;congr 1;funext z;obtain⟨z1,z2,z3⟩:=z;cases z1<;>rfl) (sH C hk ht hb hs mo (Yj (Nat.lt_min.mpr ⟨b1,b3⟩) hint) (Qd (Yj (Cs _ _) _) (C8 (Xm (Xk hh)))) b4 ?_ q)
   by_cases ho:n-hint<=o
   ·intro i g p1 p2;rw[Ct ho,Xm (Xk hh)]at p1;exact absurd p2 (Nat.not_lt_of_le p1)
   ·rw[Yn (Nat.le_of_not_le ho)];exact b5.resolve_left ho
 | false =>
  refine cA Bool.noConfusion ?_
  refine Ak (At (Aw (I:=fun x r st'=>st'=st/\∃a o,r=(none,a,o)/\a<o/\x<o/\a<hint+1/\Fs c left t base n δ (hint-a))
   (Q:=fun r st'=>st'=st/\∃a o,r=(none,a,o)/\a<o/\a<hint+1/\Fs c left t base n δ (hint-a)/\(hint+1<=o∨Tr c left t base δ (hint-o+1))) ?step ?fin ?init) ?post)
  case init=>exact⟨rfl,0,1,rfl,by lia,by lia,by lia,mo.fs hh e0 hc⟩
  case fin =>
   rintro r st' ⟨rfl,a,o,rfl,b1,b2,b3,b4⟩;exact⟨rfl,a,o,rfl,b1,b3,b4,.inl (by lia)⟩
  case step =>
   rintro x r st' p1 p2 ⟨rfl,a,o,rfl,b1,b2,b3,b4⟩;dsimp only;by_cases ho:o ≥ hint+1
   ·refine cR ho ?_;exact Ai ⟨rfl,a,o,rfl,b1,b3,b4,.inl ho⟩
   ·refine cA ho ?_;obtain⟨g,e⟩:=gw (γ:=δ) (i:=base+(hint-o)) (by lia)
    refine Ak (sG C hk ht (hb _ _ e) e ?_);cases hc:bb c left t g with
    | true=>exact Ai ⟨rfl,a,o,rfl,b1,b3,b4,.inr (mo.tr (by lia) e hc)⟩
    | false=>exact Ai ⟨rfl,o,2*o+1,rfl,by lia,by lia,by lia,mo.fs (by lia) e hc⟩
  case post =>
   rintro r st' ⟨rfl,a,o,rfl,b1,b3,b4,b5⟩;refine sw (m':=wj left (f t) (δ.map f) base n (hint+1-min o (hint+1)) (hint-a)) (by unfold wj;dsimp only;congr 1;funext z;obtain⟨z1,z2,z3⟩:=z;cases z1<;>rfl) (sH C hk ht hb hs mo (Nat.succ_sub_succ hint a ▸ Nat.sub_le_sub_left (Nat.lt_min.mpr ⟨b1,b3⟩) _) (Qd (Nat.sub_le _ _) (Xk hh)) ?_ b4 q)
   by_cases ho:hint+1<=o
   ·intro i g p1 p2;rw[Ct ho,Ch]at p2;exact absurd p2 (Nat.not_lt_of_le p1)
   ·rw[Yn (Nat.le_of_not_le ho),Nat.succ_sub (Nat.le_of_lt_succ (AM ho))];exact b5.resolve_left ho
end
end TS
namespace TS
open PySem PyProof.Rows
structure Mg (c:Nat->Nat->Bool) (α β ω la lb:List Nat):Prop where
 so:ω.Pairwise (Bf c)
 sa:la.Pairwise (Bf c)
 sb:lb.Pairwise (Bf c)
 xa:∀g∈ω,∀h∈la,Bf c g h
 xb:∀g∈ω,∀h∈lb,Bf c g h
 tag:∀g∈la,∀h∈lb,g<h
 perm:(ω++la++lb).Perm (α++β)
def Gd (c:Nat->Nat->Bool) (α β l:List Nat):Prop:=l.Pairwise (Bf c)/\l.Perm (α++β)
section
variable {prog:Program} {w:World} {A:Around} {s:Shared} {k:SortKind} {f:Nat->Keyed} {N:Nat} {c:Nat->Nat->Bool} {α β ω la lb:List Nat} {x y:Nat}
theorem Mg.takeB (C:Cm prog w A s k f N c) (J:Mg c α β ω (x::la) (y::lb)) (h:c y x=true):Mg c α β (ω++[y]) (x::la) lb:=by
 have sa:=Wj.mp J.sa;have sb:=Wj.mp J.sb;have ya:∀z∈x::la,Bf c y z:=fun z hz=>by
  rcases Yd.mp hz with rfl|hz
  ·exact .inl h
  ·exact C.trans (.inl h) (sa.1 z hz)
 refine⟨?_,J.sa,sb.2,fun g hg z hz=>?_,fun g hg z hz=>?_,fun g hg z hz=>J.tag g hg z (Vb _ hz),?_⟩
 ·rw[Zh];exact⟨J.so,C3 _ _,fun g hg z hz=>by rw[Qc.mp hz];exact J.xb g hg y Xb⟩
 ·rcases Zf.mp hg with hg|hg
  ·exact J.xa g hg z hz
  ·rw[Qc.mp hg];exact ya z hz
 ·rcases Zf.mp hg with hg|hg
  ·exact J.xb g hg z (Vb _ hz)
  ·rw[Qc.mp hg];exact sb.1 z hz
 ·refine List.Perm.trans ?_ J.perm;rw[Ve,Ve,Ve];refine List.Perm.append_left ω ?_;exact(Cw (l₁:=x::la) (a:=y) (l₂:=lb)).symm
theorem Mg.takeA (C:Cm prog w A s k f N c) (J:Mg c α β ω (x::la) (y::lb)) (h:c y x=false):Mg c α β (ω++[x]) la (y::lb):=by
 have sa:=Wj.mp J.sa;have sb:=Wj.mp J.sb;have xy:Bf c x y:=.inr ⟨h,J.tag x Xb y Xb⟩;refine⟨?_,sa.2,J.sb,fun g hg z hz=>?_,fun g hg z hz=>?_,fun g hg z hz=>J.tag g (Vb _ hg) z hz,?_⟩
 ·rw[Zh];exact⟨J.so,C3 _ _,fun g hg z hz=>by rw[Qc.mp hz];exact J.xa g hg x Xb⟩
 ·rcases Zf.mp hg with hg|hg
  ·exact J.xa g hg z (Vb _ hz)
  ·rw[Qc.mp hg];exact sa.1 z hz
 ·rcases Zf.mp hg with hg|hg
  ·exact J.xb g hg z hz
  ·rw[Qc.mp hg];rcases Yd.mp hz with rfl|hz
   ·exact xy
   ·exact C.trans xy (sb.1 z hz)
 ·refine List.Perm.trans ?_ J.perm;rw[Ve ω [x] la];exact List.Perm.refl _
theorem Mg.takeAs (C:Cm prog w A s k f N c):∀(l:List Nat) {ω la:List Nat},Mg c α β ω (l++la) (y::lb)->(∀g∈l,c y g=false)->Mg c α β (ω++l) la (y::lb)
 | [],ω,la,J,_=>by rw[Qe];exact J
 | x::l,ω,la,J,h=>by
  have:=Mg.takeAs C l (J.takeA C (h x Xb)) fun g hg=>h g (Vb _ hg);rwa [Ve]at this
theorem Mg.takeBs (C:Cm prog w A s k f N c):∀(l:List Nat) {ω lb:List Nat},Mg c α β ω (x::la) (l++lb)->(∀g∈l,c g x=true)->Mg c α β (ω++l) (x::la) lb
 | [],ω,lb,J,_=>by rw[Qe];exact J
 | y::l,ω,lb,J,h=>by
  have:=Mg.takeBs C l (J.takeB C (h y Xb)) fun g hg=>h g (Vb _ hg);rwa [Ve]at this
theorem Mg.doneA (J:Mg c α β ω la []):Gd c α β (ω++la):=by
 refine⟨Zh.mpr ⟨J.so,J.sa,J.xa⟩,?_⟩;have:=J.perm;rwa [Qe]at this
theorem Mg.doneB (J:Mg c α β ω [] lb):Gd c α β (ω++lb):=by
 refine⟨Zh.mpr ⟨J.so,J.sb,J.xb⟩,?_⟩;have:=J.perm;rwa [Qe]at this
theorem Mg.last (C:Cm prog w A s k f N c) (J:Mg c α β ω [x] lb) (h:∀g∈lb,c g x=true):Gd c α β (ω++lb++[x]):=by
 have J':Mg c α β ω [x] (lb++[]):=by rw[Qe];exact J
 exact(J'.takeBs C lb h).doneA
end
end TS
namespace TS
open PySem PyProof.Rows
def ar (f:Nat->Keyed) (l:List Nat):Array Keyed:=l.toArray.map f
def Lw (f:Nat->Keyed) (c:Nat->Nat->Bool) (α β:List Nat) (o:Array Keyed) (i j:Nat):Prop:=∃ω,o=ar f ω/\Mg c α β ω (α.drop i) (β.drop j)
def Rt (f:Nat->Keyed) (c:Nat->Nat->Bool) (α β:List Nat) (o:Array Keyed):Prop:=∃l,o=ar f l/\Gd c α β l
section
variable {prog:Program} {w:World} {A:Around} {s:Shared} {k:SortKind} {f:Nat->Keyed} {N:Nat} {c:Nat->Nat->Bool} {α β:List Nat} {o:Array Keyed} {i j x y:Nat}
theorem dC (l:List Nat):(ar f l).size=l.length:=by simp[ar]
theorem kF (l:List Nat) (g:Nat):(ar f l).push (f g)=ar f (l++[g]):=by simp[ar]
theorem cZ (l m:List Nat):ar f l++ar f m=ar f (l++m):=by simp[ar]
theorem iE (l:List Nat) (p q:Nat):(ar f l).extract p q=ar f ((l.drop p).take (q-p)):=by simp[ar,List.extract]
theorem oh (l:List Nat) (p:Nat):(ar f l).extract p (ar f l).size=ar f (l.drop p):=by
 rw[iE,dC,List.take_of_length_le (by rw[AN];exact Va _)]
theorem GK {l:List Nat} {p g:Nat} (e:l[p]?=some g):(ar f l)[p]?=some (f g):=by simp[ar,e]
theorem lI {l:List Nat} (e:l[p]?=some g):l.drop p=g::l.drop (p+1):=by
 obtain⟨h,rfl⟩:=Xa.mp e;exact Zj h
theorem Lw.b (C:Cm prog w A s k f N c) (L:Lw f c α β o i j) (hx:α[i]?=some x) (hy:β[j]?=some y) (h:c y x=true):Lw f c α β (o.push (f y)) i (j+1):=by
 obtain⟨ω,rfl,J⟩:=L;refine⟨ω++[y],kF _ _,?_⟩;rw[lI hx]at J ⊢;rw[lI hy]at J;exact J.takeB C h
theorem Lw.a (C:Cm prog w A s k f N c) (L:Lw f c α β o i j) (hx:α[i]?=some x) (hy:β[j]?=some y) (h:c y x=false):Lw f c α β (o.push (f x)) (i+1) j:=by
 obtain⟨ω,rfl,J⟩:=L;refine⟨ω++[x],kF _ _,?_⟩;rw[lI hy]at J ⊢;rw[lI hx]at J;exact J.takeA C h
theorem Lw.as (C:Cm prog w A s k f N c) (L:Lw f c α β o i j) (hy:β[j]?=some y) (h:∀p g,i<=p->p<i+u->α[p]?=some g->c y g=false):Lw f c α β (o++(ar f α).extract i (i+u)) (i+u) j:=by
 obtain⟨ω,rfl,J⟩:=L;refine⟨ω++(α.drop i).take u,by rw[iE,show i+u - i=u by lia,cZ],?_⟩
 rw[lI hy]at J ⊢;refine Mg.takeAs C _ (la:=α.drop (i+u)) (by rw[← Bq,Zi];exact J) fun g hg=>?_
 obtain⟨p,hp⟩:=List.mem_iff_getElem?.mp hg;rw[Wl]at hp;split at hp
 ·rw[Qf]at hp;exact h (i+p) g (by lia) (by lia) hp
 ·cases hp
theorem Lw.bs (C:Cm prog w A s k f N c) (L:Lw f c α β o i j) (hx:α[i]?=some x) (h:∀p g,j<=p->p<j+u->β[p]?=some g->c g x=true):Lw f c α β (o++(ar f β).extract j (j+u)) i (j+u):=by
 obtain⟨ω,rfl,J⟩:=L;refine⟨ω++(β.drop j).take u,by rw[iE,show j+u - j=u by lia,cZ],?_⟩
 rw[lI hx]at J ⊢;refine Mg.takeBs C _ (lb:=β.drop (j+u)) (by rw[← Bq (i:=u) (j:=j),Zi];exact J) fun g hg=>?_
 obtain⟨p,hp⟩:=List.mem_iff_getElem?.mp hg;rw[Wl]at hp;split at hp
 ·rw[Qf]at hp;exact h (j+p) g (by lia) (by lia) hp
 ·cases hp
theorem Lw.dn (L:Lw f c α β o i j) (h:j=β.length∨i=α.length):Rt f c α β (o++(ar f α).extract i (ar f α).size++(ar f β).extract j (ar f β).size):=by
 obtain⟨ω,rfl,J⟩:=L;rw[oh,oh,cZ,cZ];refine⟨_,rfl,?_⟩;rcases h with rfl|rfl
 ·rw[Cy]at J ⊢;rw[Qe];exact J.doneA
 ·rw[Cy]at J ⊢;rw[Qe];exact J.doneB
theorem Lw.la (C:Cm prog w A s k f N c) (L:Lw f c α β o i j) (hx:α[i]?=some x) (h:i+1=α.length) (z:∀g∈β,c g x=true):Rt f c α β (o++(ar f β).extract j (ar f β).size++(ar f α).extract i (ar f α).size):=by
 obtain⟨ω,rfl,J⟩:=L;rw[oh,oh,cZ,cZ];refine⟨_,rfl,?_⟩;rw[lI hx,h,Cy]at J ⊢;exact J.last C fun g hg=>z g (List.mem_of_mem_drop hg)
end
end TS
namespace TS
open PySem PyProof.Rows
inductive Ex2 {A B R:Type} (g:A->B->R) (p:A->B->Prop):R->Prop|mk (a b) (h:p a b):Ex2 g p (g a b)
inductive Ex4 {A B C D R:Type} (g:A->B->C->D->R) (p:A->B->C->D->Prop):R->Prop|mk (a b c d) (h:p a b c d):Ex4 g p (g a b c d)
inductive Ex5 {A B C D E R:Type} (g:A->B->C->D->E->R) (p:A->B->C->D->E->Prop):R->Prop|mk (a b c d e) (h:p a b c d e):Ex5 g p (g a b c d e)
inductive Ex6 {A B C D E F R:Type} (g:A->B->C->D->E->F->R) (p:A->B->C->D->E->F->Prop):R->Prop|mk (a b c d e f) (h:p a b c d e f):Ex6 g p (g a b c d e f)
def mlo:Array Keyed->Array Keyed->StateT SortSt Sem (Array Keyed):=sortPriv% PySem.Builtin.mergeLo
structure Sm (a b:SortSt):Prop where
 arr:arrOf b=arrOf a
 kind:kindOf b=kindOf a
 pend:pendingOf b=pendingOf a
 fine:failedOf b=failedOf a
theorem lJ {M:Model} {A:Around} {E:Value->Shared->Prop} {σ γ:Type} {B:Nat->StateT σ Sem γ} {p:Prop} {d:Decidable p} {m2:Nat} {Q:γ->σ->Prop} {st:σ} (h:∀m,wpS M A E s (B m) Q st):∀m1,wpS M A E s (@ite _ p d (B m1) (B m2)) Q st:=by
 intro m1;by_cases hp:p
 ·rw[Af hp];exact h _
 ·rw[Ah hp];exact h _
theorem kG {M:Model} {A:Around} {E:Value->Shared->Prop} {σ γ:Type} {X:StateT σ Sem γ} {B:Array Keyed->Nat->StateT σ Sem γ} {p:Prop} {d:Decidable p} {o:Array Keyed} {i:Nat} {Q:γ->σ->Prop} {st:σ} (I:Array Keyed->Nat->Prop)
  (h:p->(∀o i,I o i->wpS M A E s (B o i) Q st)->wpS M A E s X Q st) (g:¬ p->I o i) (hB:∀o i,I o i->wpS M A E s (B o i) Q st):wpS M A E s (@ite _ p d X (B o i)) Q st:=by
 by_cases hp:p
 ·rw[Af hp];exact h hp hB
 ·rw[Ah hp];exact hB _ _ (g hp)
theorem GL {M:Model} {A:Around} {E:Value->Shared->Prop} {σ γ O ρ A0 A1 A2 A3:Type} {lo hi:Nat} {F:Nat->Option O×ρ->StateT σ Sem (ForInStep (Option O×ρ))} {K:Option O×ρ->StateT σ Sem γ} (S:σ->Prop) (R:O->Prop) (g:A0->A1->A2->A3->ρ) (p:Nat->A0->A1->A2->A3->Prop) (p':A0->A1->A2->A3->Prop) {Q:γ->σ->Prop}
  (step:∀x a b c d st,S st->p x a b c d->wpS M A E s (F x (none,g a b c d)) (fun r st'=>match r with|.done c'=>S st'/\(Ex2 (fun o z=>(some o,z)) (fun o _=>R o) c'∨Ex4 (fun a b c d=>(none,g a b c d)) p' c')|.yield c'=>S st'/\Ex4 (fun a b c d=>(none,g a b c d)) (p (x+1)) c') st)
  (fin:∀a b c d,p (max lo hi) a b c d->False) {r:Option O×ρ} {st:σ} (hS:S st) (init:Ex4 (fun a b c d=>(none,g a b c d)) (p lo) r) (sm:∀o z st',S st'->R o->wpS M A E s (K (some o,z)) Q st') (nn:∀a b c d st',S st'->p' a b c d->wpS M A E s (K (none,g a b c d)) Q st'):wpS M A E s (forIn [lo:hi] r F >>= K) Q st:=by
 refine Ak (At (Aw (I:=fun x r st=>S st/\Ex4 (fun a b c d=>(none,g a b c d)) (p x) r) (Q:=fun r st=>S st/\(Ex2 (fun o z=>(some o,z)) (fun o _=>R o) r∨Ex4 (fun a b c d=>(none,g a b c d)) p' r)) ?_ ?_ ⟨hS,init⟩) ?_)
 ·rintro x r st _ _ ⟨h,a,b,c,d,z⟩;exact At (step x a b c d st h z) fun r st' h=>by cases r<;>exact h
 ·rintro r st ⟨_,a,b,c,d,z⟩;exact(fin a b c d z).elim
 ·rintro r st ⟨h,⟨o,z,h1⟩|⟨a,b,c,d,h1⟩⟩
  ·exact sm o z st h h1
  ·exact nn a b c d st h h1
theorem GM {M:Model} {A:Around} {E:Value->Shared->Prop} {σ γ O ρ A0 A1 A2 A3 A4:Type} {lo hi:Nat} {F:Nat->Option O×ρ->StateT σ Sem (ForInStep (Option O×ρ))} {K:Option O×ρ->StateT σ Sem γ} (S:σ->Prop) (R:O->Prop) (g:A0->A1->A2->A3->A4->ρ) (p:Nat->A0->A1->A2->A3->A4->Prop) (p':A0->A1->A2->A3->A4->Prop) {Q:γ->σ->Prop}
  (step:∀x a b c d e st,S st->p x a b c d e->wpS M A E s (F x (none,g a b c d e)) (fun r st'=>match r with|.done c'=>S st'/\(Ex2 (fun o z=>(some o,z)) (fun o _=>R o) c'∨Ex5 (fun a b c d e=>(none,g a b c d e)) p' c')|.yield c'=>S st'/\Ex5 (fun a b c d e=>(none,g a b c d e)) (p (x+1)) c') st)
  (fin:∀a b c d e,p (max lo hi) a b c d e->False) {r:Option O×ρ} {st:σ} (hS:S st) (init:Ex5 (fun a b c d e=>(none,g a b c d e)) (p lo) r) (sm:∀o z st',S st'->R o->wpS M A E s (K (some o,z)) Q st') (nn:∀a b c d e st',S st'->p' a b c d e->wpS M A E s (K (none,g a b c d e)) Q st'):wpS M A E s (forIn [lo:hi] r F >>= K) Q st:=by
 refine Ak (At (Aw (I:=fun x r st=>S st/\Ex5 (fun a b c d e=>(none,g a b c d e)) (p x) r) (Q:=fun r st=>S st/\(Ex2 (fun o z=>(some o,z)) (fun o _=>R o) r∨Ex5 (fun a b c d e=>(none,g a b c d e)) p' r)) ?_ ?_ ⟨hS,init⟩) ?_)
 ·rintro x r st _ _ ⟨h,a,b,c,d,e,z⟩;exact At (step x a b c d e st h z) fun r st' h=>by cases r<;>exact h
 ·rintro r st ⟨_,a,b,c,d,e,z⟩;exact(fin a b c d e z).elim
 ·rintro r st ⟨h,⟨o,z,h1⟩|⟨a,b,c,d,e,h1⟩⟩
  ·exact sm o z st h h1
  ·exact nn a b c d e st h h1
theorem GN {M:Model} {A:Around} {E:Value->Shared->Prop} {σ γ O ρ A0 A1 A2 A3 A4 A5:Type} {lo hi:Nat} {F:Nat->Option O×ρ->StateT σ Sem (ForInStep (Option O×ρ))} {K:Option O×ρ->StateT σ Sem γ} (S:σ->Prop) (R:O->Prop) (g:A0->A1->A2->A3->A4->A5->ρ) (p:Nat->A0->A1->A2->A3->A4->A5->Prop) (p':A0->A1->A2->A3->A4->A5->Prop) {Q:γ->σ->Prop}
  (step:∀x a b c d e f st,S st->p x a b c d e f->wpS M A E s (F x (none,g a b c d e f)) (fun r st'=>match r with|.done c'=>S st'/\(Ex2 (fun o z=>(some o,z)) (fun o _=>R o) c'∨Ex6 (fun a b c d e f=>(none,g a b c d e f)) p' c')|.yield c'=>S st'/\Ex6 (fun a b c d e f=>(none,g a b c d e f)) (p (x+1)) c') st)
  (fin:∀a b c d e f,p (max lo hi) a b c d e f->False) {r:Option O×ρ} {st:σ} (hS:S st) (init:Ex6 (fun a b c d e f=>(none,g a b c d e f)) (p lo) r) (sm:∀o z st',S st'->R o->wpS M A E s (K (some o,z)) Q st') (nn:∀a b c d e f st',S st'->p' a b c d e f->wpS M A E s (K (none,g a b c d e f)) Q st'):wpS M A E s (forIn [lo:hi] r F >>= K) Q st:=by
 refine Ak (At (Aw (I:=fun x r st=>S st/\Ex6 (fun a b c d e f=>(none,g a b c d e f)) (p x) r) (Q:=fun r st=>S st/\(Ex2 (fun o z=>(some o,z)) (fun o _=>R o) r∨Ex6 (fun a b c d e f=>(none,g a b c d e f)) p' r)) ?_ ?_ ⟨hS,init⟩) ?_)
 ·rintro x r st _ _ ⟨h,a,b,c,d,e,f,z⟩;exact At (step x a b c d e f st h z) fun r st' h=>by cases r<;>exact h
 ·rintro r st ⟨_,a,b,c,d,e,f,z⟩;exact(fin a b c d e f z).elim
 ·rintro r st ⟨h,⟨o,z,h1⟩|⟨a,b,c,d,e,f,h1⟩⟩
  ·exact sm o z st h h1
  ·exact nn a b c d e f st h h1
section
variable {prog:Program} {w:World} {A:Around} {E:Value->Shared->Prop} {s:Shared} {k:SortKind} {f:Nat->Keyed} {N:Nat} {c:Nat->Nat->Bool} {st:SortSt} {α β:List Nat}
theorem Sm.refl (a:SortSt):Sm a a:=⟨rfl,rfl,rfl,rfl⟩
theorem Sm.trans (x:Sm a b) (y:Sm b d):Sm a d:=⟨y.arr.trans x.arr,y.kind.trans x.kind,y.pend.trans x.pend,y.fine.trans x.fine⟩
structure Two (c:Nat->Nat->Bool) (N:Nat) (α β:List Nat):Prop where
 sa:α.Pairwise (Bf c)
 sb:β.Pairwise (Bf c)
 tag:∀g∈α,∀h∈β,g<h
 ba:∀g∈α,g<N
 bb:∀g∈β,g<N
 na:α≠[]
 nb:β≠[]
 first:∀x y,α[0]?=some x->β[0]?=some y->c y x=true
 last:∀x,α[α.length-1]?=some x->∀g∈β,c g x=true
theorem GO (e:l[i]?=some g) (q:Q (f g) st):wpS (model prog w) A E s (elem' (ar f l) i) Q st:=by
 rw[elem'_eq,GK e];exact Ai q
theorem wm (C:Cm prog w A s k f N c) {l:List Nat} (hs:l.Pairwise (Bf c)) (t base n:Nat):Mo c false t base n l.toArray:=by
 intro i j g h p1 p2 p3 e1 e2 z;have e1':l[i]?=some g:=by simpa using e1
 have e2':l[j]?=some h:=by simpa using e2
 obtain⟨hi,rfl⟩:=Xa.mp e1';obtain⟨hj,rfl⟩:=Xa.mp e2';have b:=C.le (Zk.mp hs i j hi hj p2);simp only[bb,Ze,if_false,Bx]at z ⊢;cases z2:c t l[i] with
 | false=>rfl
 | true =>
  rcases C.neg t l[j] l[i] z2 with q|q
  ·rw[z]at q;cases q
  ·rw[b]at q;cases q
theorem yE (C:Cm prog w A s k f N c) {l:List Nat} (hs:l.Pairwise (Bf c)) (t base n:Nat):Mo c true t base n l.toArray:=by
 intro i j g h p1 p2 p3 e1 e2 z;have e1':l[i]?=some g:=by simpa using e1
 have e2':l[j]?=some h:=by simpa using e2
 obtain⟨hi,rfl⟩:=Xa.mp e1';obtain⟨hj,rfl⟩:=Xa.mp e2';have b:=C.le (Zk.mp hs i j hi hj p2);simp only[bb,if_true]at z ⊢;rcases C.neg l[j] l[i] t z with q|q
 ·rw[b]at q;cases q
 ·exact q
theorem EH (C:Cm prog w A s k f N c) (hk:kindOf st=k) {l:List Nat} (hs:l.Pairwise (Bf c)) (hb:∀g∈l,g<N) (ht:t<N) (hz:base+n<=l.length) (hh:hint<n)
  (q:∀m,m<=n->(∀i g,base<=i->i<base+m->l[i]?=some g->bb c left t g=true)->(∀i g,base+m<=i->i<base+n->l[i]?=some g->bb c left t g=false)->Q (some m) st) :
  wpS (model prog w) A E s ((sortPriv% PySem.Builtin.gallop) left (f t) (ar f l) base n hint) Q st:=by
 show wpS (model prog w) A E s (gal left (f t) (ar f l) base n hint) Q st;have mo:Mo c left t base n l.toArray:=by
  cases left with
  | true=>exact yE C hs t base n
  | false=>exact wm C hs t base n
 refine wl C hk ht (δ:=l.toArray) (fun i g e=>hb g ?_) (by simpa using hz) hh mo fun m h1 h2 h3=>q m h1 (fun i g p1 p2 e=>h2 i g p1 p2 (by simpa using e)) fun i g p1 p2 e=>h3 i g p1 p2 (by simpa using e)
 exact Wa (by simpa using e)
theorem GP (q:∀st',Sm st st'->Q ⟨⟩ st'):wpS (model prog w) A E s ((sortPriv% PySem.Builtin.setMinGallop) g) Q st:=A7 (q _ ⟨rfl,rfl,rfl,rfl⟩)
theorem cP {M:Model} {σ γ:Type} {X Y:StateT σ Sem γ} {p:Prop} {d:Decidable p} {Q:γ->σ->Prop} {st:σ} (t:p->wpS M A E s X Q st) (e:¬ p->wpS M A E s Y Q st):wpS M A E s (@ite _ p d X Y) Q st:=by
 by_cases h:p
 ·exact cR h (t h)
 ·exact cA h (e h)
theorem bJ {M:Model} {σ γ:Type} {X Y:StateT σ Sem γ} {a b:Nat} {d:Decidable ((a == b)=true)} {Q:γ->σ->Prop} {st:σ} (t:a=b->wpS M A E s X Q st) (e:a≠b->wpS M A E s Y Q st):wpS M A E s (@ite _ ((a == b)=true) d X Y) Q st :=
 cP (fun h=>t (B1 h)) fun h=>e fun z=>h (z ▸ beq_self_eq_true _)
section
variable {γ:Type} {Q:γ->SortSt->Prop} {l:List Nat} {i:Nat} {K:Keyed->StateT SortSt Sem γ}
theorem elk (e:l[i]?=some g) (q:wpS (model prog w) A E s (K (f g)) Q st):wpS (model prog w) A E s (elem' (ar f l) i >>= K) Q st:=Ak (GO e q)
theorem elb (h:i<l.length) (q:∀g,l[i]?=some g->wpS (model prog w) A E s (K (f g)) Q st):wpS (model prog w) A E s (elem' (ar f l) i >>= K) Q st:=elk (Za h) (q _ (Za h))
theorem sgb {g:Nat} {K:Unit->StateT SortSt Sem γ} (q:∀st',Sm st st'->wpS (model prog w) A E s (K ⟨⟩) Q st'):wpS (model prog w) A E s ((sortPriv% PySem.Builtin.setMinGallop) g >>= K) Q st:=Ak (GP q)
theorem glob (C:Cm prog w A s k f N c) (hk:kindOf st=k) (hs:l.Pairwise (Bf c)) (hb:∀g∈l,g<N) {left:Bool} {t base n hint:Nat} (ht:t<N) (hz:base+n<=l.length) (hh:hint<n) {K:Option Nat->StateT SortSt Sem γ}
  (q:∀m,m<=n->(∀i g,base<=i->i<base+m->l[i]?=some g->bb c left t g=true)->(∀i g,base+m<=i->i<base+n->l[i]?=some g->bb c left t g=false)->wpS (model prog w) A E s (K (some m)) Q st) :
  wpS (model prog w) A E s ((sortPriv% PySem.Builtin.gallop) left (f t) (ar f l) base n hint >>= K) Q st:=Ak (EH C hk hs hb ht hz hh q)
end
theorem Ex4.of {r a b c d} (e:r=g a b c d) (h:p a b c d):Ex4 g p r:=e ▸ ⟨a,b,c,d,h⟩
theorem Lw.bv (C:Cm prog w A s k f N c) {o:Array Keyed} (L:Lw f c α β o i j) (hl:i<α.length) (hy:β[j]?=some y) (h:∀x,α[i]?=some x->c y x=true):Lw f c α β (o.push (f y)) i (j+1):=L.b C (Za hl) hy (h _ (Za hl))
theorem Lw.av (C:Cm prog w A s k f N c) {o:Array Keyed} (L:Lw f c α β o i j) (hl:j<β.length) (hx:α[i]?=some x) (h:∀y,β[j]?=some y->c y x=false):Lw f c α β (o.push (f x)) (i+1) j:=L.a C hx (Za hl) (h _ (Za hl))
theorem Lw.dq (L:Lw f c α β o i j) (h:j=(ar f β).size∨i=(ar f α).size):Rt f c α β (o++(ar f α).extract i (ar f α).size++(ar f β).extract j (ar f β).size):=L.dn (h.imp (·.trans (dC _)) (·.trans (dC _)))
theorem Lw.lq (C:Cm prog w A s k f N c) (T:Two c N α β) (L:Lw f c α β o i j) (h:i+1=(ar f α).size):Rt f c α β (o++(ar f β).extract j (ar f β).size++(ar f α).extract i (ar f α).size):=by
 rw[dC]at h;obtain⟨x,hx⟩:∃x,α[i]?=some x:=⟨_,Za (h ▸ BC i)⟩;exact L.la C hx h (T.last x (by rw[← h];exact hx))
set_option maxHeartbeats 1000000 in
theorem EI (C:Cm prog w A s k f N c) (hk:kindOf st=k) (T:Two c N α β) {Q:Array Keyed->SortSt->Prop} (q:∀o st',Sm st st'->Rt f c α β o->Q o st'):wpS (model prog w) A E s (mlo (ar f α) (ar f β)) Q st:=by
 have la:0<α.length:=Zl.mpr T.na;have lb:0<β.length:=Zl.mpr T.nb;obtain⟨x0,hx0⟩:∃x,α[0]?=some x:=⟨_,Za la⟩;obtain⟨y0,hy0⟩:∃y,β[0]?=some y:=⟨_,Za lb⟩;have M0:Mg c α β [] α β:=⟨List.Pairwise.nil,T.sa,T.sb,fun g hg=>by simp at hg,fun g hg=>by simp at hg,T.tag,List.Perm.refl _⟩
 have L0:Lw f c α β #[] 0 0:=⟨[],by simp[ar],by simpa using M0⟩
 have L1:Lw f c α β #[f y0] 0 1:=by have:=L0.b C hx0 hy0 (T.first _ _ hx0 hy0);simpa using this
 have za:(ar f α).size=α.length:=dC _;have zb:(ar f β).size=β.length:=dC _;refine Ak (BV (AU ⟨rfl,elk hy0 ?_⟩));refine bJ (fun h1=>Ai (q _ _ (Sm.refl _) (L1.dq (.inl h1)))) fun h1=>bJ (fun h2=>Ai (q _ _ (Sm.refl _) (L1.lq C T h2))) fun h2=>Ak (Bi ?_);refine GL (Sm st) (Rt f c α β) (fun o i j m=>(o,i,j,m)) (fun x o i j _=>Lw f c α β o i j/\i+1<α.length/\j<β.length/\x<i+j) (fun _ _ _ _=>False) ?step ?fin (Sm.refl _) ?init (fun o z st' sm R=>Ai (q _ _ sm R)) fun _ _ _ _ _ _ z=>z.elim
 case init=>exact⟨_,_,_,_,L1,by lia,by lia,Va _⟩
 case fin =>
  rintro o i j m ⟨L,b1,b2,b3⟩;lia
 case step =>
  intro x o i j m st' sm hI;have hk':kindOf st'=k:=sm.kind.trans hk;dsimp (config:={ zeta:=false,zetaHave:=false }) only;refine GM (fun st2=>st2=st') (Rt f c α β) (fun o' i' j' a b=>(o',i',j',a,b)) (fun y o' i' j' _ _=>Lw f c α β o' i' j'/\i'+1<α.length/\j'<β.length/\i'+j'=i+j+y)
   (fun o' i' j' _ _=>Lw f c α β o' i' j'/\i'+1<α.length/\j'<β.length/\i+j<i'+j') ?step1 ?fin1 rfl ?init1 (fun o' z st2 e R=>Ai ⟨e ▸ sm,.inl ⟨o',_,R⟩⟩) ?post1
  case init1=>exact⟨_,_,_,_,_,hI.1,hI.2.1,hI.2.2.1,rfl⟩
  case fin1 =>
   rintro o' i' j' a b ⟨L',c1,c2,c3⟩;lia
  case step1 =>
   intro y o' i' j' a b st2 e hI;subst e;have L':=hI.1;have c1:=hI.2.1;have c2:=hI.2.2.1;have c3:=hI.2.2.2;dsimp (config:={ zeta:=false,zetaHave:=false }) only;refine elb c2 fun yv hy=>elb (AX c1) fun xv hx=>Ak (pP C hk' (T.bb _ (Wa hy)) (T.ba _ (Wa hx)) ?_);dsimp (config:={ zeta:=false,zetaHave:=false }) only;refine cP (fun hc=>?_) fun hc=>?_
   ·have L2:=L'.b C hx hy hc;refine elk hy (bJ (fun e1=>Ai ⟨rfl,.inl ⟨_,_,L2.dq (.inl e1)⟩⟩) fun e1=>?_);have c2':j'+1<β.length:=Bm c2 (zb ▸ e1);exact cP (fun _=>Ai ⟨rfl,.inr ⟨_,_,_,_,_,L2,c1,c2',by lia⟩⟩) fun _=>Ai ⟨rfl,_,_,_,_,_,L2,c1,c2',congrArg Nat.succ c3⟩
   ·have L2:=L'.a C hx hy (Bool.eq_false_iff.mpr hc);refine elk hx (bJ (fun e1=>Ai ⟨rfl,.inl ⟨_,_,L2.lq C T e1⟩⟩) fun e1=>?_);have c1':i'+1+1<α.length:=Bm c1 (za ▸ e1);exact cP (fun _=>Ai ⟨rfl,.inr ⟨_,_,_,_,_,L2,c1',c2,by lia⟩⟩) fun _=>Ai ⟨rfl,_,_,_,_,_,L2,c1',c2,by lia⟩
  case post1 =>
   intro o' i' j' a b st2 e hI';subst e;dsimp (config:={ zeta:=false,zetaHave:=false }) only;refine Ak (BV (AU ⟨rfl,?_⟩));refine GN (Sm st) (Rt f c α β) (fun o2 i2 j2 m2 a2 b2=>(o2,i2,j2,m2,a2,b2)) (fun y o2 i2 j2 _ _ _=>Lw f c α β o2 i2 j2/\i2+1<α.length/\j2<β.length/\i'+j'+y<=i2+j2)
    (fun o2 i2 j2 _ _ _=>Lw f c α β o2 i2 j2/\i2+1<α.length/\j2<β.length/\i'+j'<=i2+j2) ?step2 ?fin2 sm ?init2 (fun o' z st2 sm R=>Ai ⟨sm,.inl ⟨o',_,R⟩⟩) ?post2
   case init2=>exact⟨_,_,_,_,_,_,hI'.1,hI'.2.1,hI'.2.2.1,Va _⟩
   case fin2 =>
    rintro o2 i2 j2 m2 a2 b2 ⟨L2,d1,d2,d3⟩;lia
   case post2 =>
    intro o2 i2 j2 m2 a2 b2 st3 sm3 hI2;dsimp only;exact sgb fun st4 sm4'=>Ai ⟨sm3.trans sm4',_,_,_,_,hI2.1,hI2.2.1,hI2.2.2.1,Wc (Zn (hI.2.2.2) hI'.2.2.2) hI2.2.2.2⟩
   case step2 =>
    intro y o2 i2 j2 m2 a2 b2 st3 sm3 hI2;have L2:=hI2.1;have d1:=hI2.2.1;have d2:=hI2.2.2.1;have d3:=hI2.2.2.2;dsimp only;generalize m2-1=m1;revert m1;apply lJ;intro m3;refine sgb fun st4 sm4'=>elb d2 fun yv hy=>?_;have sm4:Sm st st4:=sm3.trans sm4';have hk4:kindOf st4=k:=sm4.kind.trans hk;refine glob C hk4 T.sa T.ba (T.bb _ (Wa hy)) (left:=false) (base:=i2) (n:=(ar f α).size-i2) (hint:=0) (by lia) (by lia) fun u hu tr fs=>?_
    have L3:=L2.as C hy (u:=u) fun p g z1 z2 z3=>by simpa[bb]using tr p g z1 z2 z3
    dsimp only;apply kG (o:=o2) (i:=i2) (I:=fun o i=>Lw f c α β o i j2/\i=i2+u/\i+1<α.length)
    case g=>exact fun hu0=>⟨L2,by lia,d1⟩
    case h=>exact fun _ key=>bJ (fun e1=>Ai ⟨sm4,.inl ⟨_,_,L3.lq C T e1⟩⟩) fun e1=>bJ (fun e2=>Ai ⟨sm4,.inl ⟨_,_,L3.dq (.inr e2)⟩⟩) fun e2=>key _ _ ⟨L3,rfl,by lia⟩
    intro o i hJ;have L3:=hJ.1;have hi:=hJ.2.1;have hl:=AX hJ.2.2;have L4:=L3.bv C hl hy fun x hx=>by simpa[bb]using fs i x (by lia) (by lia) hx
    refine elk hy ?_;generalize hj4:j2+1=j4 at L4 ⊢;generalize o.push (f yv)=o4 at L4 ⊢;refine bJ (fun e3=>Ai ⟨sm4,.inl ⟨_,_,L4.dq (.inl e3)⟩⟩) fun e3=>elb hl fun xv hx=>?_;refine glob C hk4 T.sb T.bb (T.ba _ (Wa hx)) (left:=true) (base:=j4) (n:=(ar f β).size-j4) (hint:=0) (by lia) (by lia) fun v hv tr2 fs2=>?_
    have L5:=L4.bs C hx (u:=v) fun p g z1 z2 z3=>by simpa[bb]using tr2 p g z1 z2 z3
    dsimp only;apply kG (o:=o4) (i:=j4) (I:=fun o j=>Lw f c α β o i j/\j=j4+v/\j<β.length)
    case g=>exact fun hv0=>⟨L4,by lia,by lia⟩
    case h=>exact fun _ key=>bJ (fun e4=>Ai ⟨sm4,.inl ⟨_,_,L5.dq (.inl e4)⟩⟩) fun e4=>key _ _ ⟨L5,rfl,by lia⟩
    intro o5 j5 hJ5;have hj5:=hJ5.2.1;have hl5:=hJ5.2.2;have L6:=hJ5.1.av C hl5 hx fun y hy=>by simpa[bb]using fs2 j5 y (by lia) (by lia) hy
    refine elk hx (bJ (fun e5=>Ai ⟨sm4,.inl ⟨_,_,L6.lq C T e5⟩⟩) fun e5=>?_);have w1:i+1+1<α.length:=Bm hJ.2.2 (za ▸ e5);have w2:i'+j'+(y+1)<=i+1+j5:=by lia
    exact cP (fun _=>Ai ⟨sm4,.inr ⟨_,_,_,_,_,_,L6,w1,hl5,Qd (Qm _ _) w2⟩⟩) fun _=>Ai ⟨sm4,_,_,_,_,_,_,L6,w1,hl5,w2⟩
end
end TS
namespace TS
open PySem PyProof.Rows
structure Mh (c:Nat->Nat->Bool) (α β la lb ω:List Nat):Prop where
 so:ω.Pairwise (Bf c)
 sa:la.Pairwise (Bf c)
 sb:lb.Pairwise (Bf c)
 xa:∀g∈la,∀h∈ω,Bf c g h
 xb:∀g∈lb,∀h∈ω,Bf c g h
 tag:∀g∈la,∀h∈lb,g<h
 perm:(la++lb++ω).Perm (α++β)
section
variable {prog:Program} {w:World} {A:Around} {s:Shared} {k:SortKind} {f:Nat->Keyed} {N:Nat} {c:Nat->Nat->Bool} {α β ω la lb:List Nat} {x y:Nat}
theorem kH {l:List Nat} (h:(l++[x]).Pairwise (Bf c)):l.Pairwise (Bf c)/\∀g∈l,Bf c g x:=by
 have:=Zh.mp h;exact⟨this.1,fun g hg=>this.2.2 g hg x (Qc.mpr rfl)⟩
theorem Mh.takeA (C:Cm prog w A s k f N c) (J:Mh c α β (la++[x]) (lb++[y]) ω) (h:c y x=true):Mh c α β la (lb++[y]) (x::ω):=by
 have sa:=kH J.sa;have sb:=kH J.sb;refine⟨Wj.mpr ⟨fun g hg=>J.xa x (by simp) g hg,J.so⟩,sa.1,J.sb,fun g hg z hz=>?_,fun g hg z hz=>?_,fun g hg z hz=>J.tag g (by simp[hg]) z hz,?_⟩
 ·rcases Yd.mp hz with rfl|hz
  ·exact sa.2 g hg
  ·exact J.xa g (by simp[hg]) z hz
 ·rcases Yd.mp hz with rfl|hz
  ·rcases Zf.mp hg with hg|hg
   ·exact C.trans (sb.2 g hg) (.inl h)
   ·rw[Qc.mp hg];exact .inl h
  ·exact J.xb g hg z hz
 ·refine List.Perm.trans ?_ J.perm;have p:(la++(lb++[y])++x::ω).Perm (x::(la++(lb++[y])++ω)):=Cw;have q:(la++[x]++(lb++[y])++ω).Perm (x::(la++(lb++[y])++ω)):=by
   rw[Ve la,Ve la];exact Cw.trans (by rw[Ve la];exact List.Perm.refl _)
  exact p.trans q.symm
theorem Mh.takeB (C:Cm prog w A s k f N c) (J:Mh c α β (la++[x]) (lb++[y]) ω) (h:c y x=false):Mh c α β (la++[x]) lb (y::ω):=by
 have sa:=kH J.sa;have sb:=kH J.sb;have xy:Bf c x y:=.inr ⟨h,J.tag x (by simp) y (by simp)⟩
 refine⟨Wj.mpr ⟨fun g hg=>J.xb y (by simp) g hg,J.so⟩,J.sa,sb.1,fun g hg z hz=>?_,fun g hg z hz=>?_,fun g hg z hz=>J.tag g hg z (by simp[hz]),?_⟩
 ·rcases Yd.mp hz with rfl|hz
  ·rcases Zf.mp hg with hg|hg
   ·exact C.trans (sa.2 g hg) xy
   ·rw[Qc.mp hg];exact xy
  ·exact J.xa g hg z hz
 ·rcases Yd.mp hz with rfl|hz
  ·exact sb.2 g hg
  ·exact J.xb g (by simp[hg]) z hz
 ·refine List.Perm.trans ?_ J.perm;have e:la++[x]++lb++y::ω=la++[x]++(lb++[y])++ω:=by simp
  rw[e]
theorem Mh.takeAs (C:Cm prog w A s k f N c):∀(n:Nat) (l:List Nat),l.length=n->∀{ω la:List Nat},Mh c α β (la++l) (lb++[y]) ω->(∀g∈l,c y g=true)->Mh c α β la (lb++[y]) (l++ω)
 | 0,l,hn,ω,la,J,_=>by
  obtain rfl:=Yk hn;simpa using J
 | n+1,l,hn,ω,la,J,h=>by
  rcases Dh l with rfl|⟨l',x,rfl⟩
  ·simp at hn
  ·rw[Di]at J h hn ⊢;rw[← Ve]at J;have:=Mh.takeAs C n l' (by simpa using hn) (J.takeA C (h x (by simp))) fun g hg=>h g (by simp[hg])
   simpa using this
theorem Mh.takeBs (C:Cm prog w A s k f N c):∀(n:Nat) (l:List Nat),l.length=n->∀{ω lb:List Nat},Mh c α β (la++[x]) (lb++l) ω->(∀g∈l,c g x=false)->Mh c α β (la++[x]) lb (l++ω)
 | 0,l,hn,ω,lb,J,_=>by
  obtain rfl:=Yk hn;simpa using J
 | n+1,l,hn,ω,lb,J,h=>by
  rcases Dh l with rfl|⟨l',y,rfl⟩
  ·simp at hn
  ·rw[Di]at J h hn ⊢;rw[← Ve]at J;have:=Mh.takeBs C n l' (by simpa using hn) (J.takeB C (h y (by simp))) fun g hg=>h g (by simp[hg])
   simpa using this
theorem Mh.doneA (J:Mh c α β la [] ω):Gd c α β (la++ω):=by
 refine⟨Zh.mpr ⟨J.sa,J.so,J.xa⟩,?_⟩;have:=J.perm;rwa [Qe]at this
theorem Mh.doneB (J:Mh c α β [] lb ω):Gd c α β (lb++ω):=⟨Zh.mpr ⟨J.sb,J.so,J.xb⟩,by have:=J.perm;rwa [BS]at this⟩
theorem Mh.firstB (C:Cm prog w A s k f N c) (J:Mh c α β la [y] ω) (h:∀g∈la,c y g=true):Gd c α β ([y]++la++ω):=by
 have J':Mh c α β ([]++la) ([]++[y]) ω:=by simpa using J
 have:=(Mh.takeAs C la.length la rfl J' h).doneB;simpa using this
end
def Hw (f:Nat->Keyed) (c:Nat->Nat->Bool) (α β:List Nat) (o:Array Keyed) (i j:Nat):Prop:=∃ω,o=ar f ω.reverse/\Mh c α β (α.take i) (β.take j) ω
section
variable {prog:Program} {w:World} {A:Around} {E:Value->Shared->Prop} {s:Shared} {k:SortKind} {f:Nat->Keyed} {N:Nat} {c:Nat->Nat->Bool} {α β:List Nat} {o:Array Keyed} {i j x y:Nat} {st:SortSt}
theorem oj (l:List Nat):(ar f l).reverse=ar f l.reverse:=by simp[ar]
theorem sI (l:List Nat) (p:Nat):(ar f l).extract 0 p=ar f (l.take p):=by rw[iE];simp
theorem lK {l:List Nat} (e:l[p]?=some g):l.take (p+1)=l.take p++[g]:=by rw[BY,e];rfl
theorem Hw.a (C:Cm prog w A s k f N c) (L:Hw f c α β o (i+1) (j+1)) (hx:α[i]?=some x) (hy:β[j]?=some y) (h:c y x=true):Hw f c α β (o.push (f x)) i (j+1):=by
 obtain⟨ω,rfl,J⟩:=L;refine⟨x::ω,by rw[kF,List.reverse_cons],?_⟩
 rw[lK hx]at J;rw[lK hy]at J ⊢;exact J.takeA C h
theorem Hw.b (C:Cm prog w A s k f N c) (L:Hw f c α β o (i+1) (j+1)) (hx:α[i]?=some x) (hy:β[j]?=some y) (h:c y x=false):Hw f c α β (o.push (f y)) (i+1) j:=by
 obtain⟨ω,rfl,J⟩:=L;refine⟨y::ω,by rw[kF,List.reverse_cons],?_⟩
 rw[lK hy]at J;rw[lK hx]at J ⊢;exact J.takeB C h
theorem pS {l:List Nat} (h:u<=i):l.take i=l.take u++(l.drop u).take (i-u):=by
 rw[List.take_drop,show u+(i - u)=i by lia]
 have:=Zi u (l.take i);rw[List.take_take,Yn h]at this;exact this.symm
theorem ol {l:List Nat} (h:g∈(l.drop u).take n):∃p,u<=p/\p<u+n/\l[p]?=some g:=by
 obtain⟨p,hp⟩:=List.mem_iff_getElem?.mp h;rw[Wl]at hp;split at hp
 ·rw[Qf]at hp;exact⟨u+p,by lia,by lia,hp⟩
 ·cases hp
theorem Hw.as (C:Cm prog w A s k f N c) (L:Hw f c α β o i (j+1)) (hy:β[j]?=some y) (hu:u<=i) (h:∀p g,u<=p->p<i->α[p]?=some g->c y g=true):Hw f c α β (o++((ar f α).extract u i).reverse) u (j+1):=by
 obtain⟨ω,rfl,J⟩:=L;refine⟨(α.drop u).take (i-u)++ω,by rw[iE,oj,cZ,List.reverse_append],?_⟩
 rw[lK hy]at J ⊢;rw[pS hu]at J;exact Mh.takeAs C _ _ rfl J fun g hg=>by
  obtain⟨p,p1,p2,p3⟩:=ol hg;exact h p g p1 (by lia) p3
theorem Hw.bs (C:Cm prog w A s k f N c) (L:Hw f c α β o (i+1) j) (hx:α[i]?=some x) (hu:u<=j) (h:∀p g,u<=p->p<j->β[p]?=some g->c g x=false):Hw f c α β (o++((ar f β).extract u j).reverse) (i+1) u:=by
 obtain⟨ω,rfl,J⟩:=L;refine⟨(β.drop u).take (j-u)++ω,by rw[iE,oj,cZ,List.reverse_append],?_⟩
 rw[lK hx]at J ⊢;rw[pS hu]at J;exact Mh.takeBs C _ _ rfl J fun g hg=>by
  obtain⟨p,p1,p2,p3⟩:=ol hg;exact h p g p1 (by lia) p3
theorem Hw.dn (L:Hw f c α β o i j) (h:i=0∨j=0):Rt f c α β ((ar f α).extract 0 i++(ar f β).extract 0 j++o.reverse):=by
 obtain⟨ω,rfl,J⟩:=L;rw[sI,sI,oj,List.reverse_reverse,cZ,cZ];refine⟨_,rfl,?_⟩;rcases h with rfl|rfl
 ·rw[List.take_zero]at J ⊢;rw[BS];exact J.doneB
 ·rw[List.take_zero]at J ⊢;rw[Qe];exact J.doneA
theorem Hw.fb (C:Cm prog w A s k f N c) (T:Two c N α β) (L:Hw f c α β o i 1):Rt f c α β ((ar f β).extract 0 1++(ar f α).extract 0 i++o.reverse):=by
 have lb:0<β.length:=Zl.mpr T.nb;have la:0<α.length:=Zl.mpr T.na;obtain⟨y0,hy0⟩:∃y,β[0]?=some y:=⟨_,Za lb⟩;obtain⟨x0,hx0⟩:∃x,α[0]?=some x:=⟨_,Za la⟩;have hc:=T.first _ _ hx0 hy0
 obtain⟨ω,rfl,J⟩:=L;rw[sI,sI,oj,List.reverse_reverse,cZ,cZ];refine⟨_,rfl,?_⟩;have e:β.take 1=[y0]:=by have:=lK hy0;simpa using this
 rw[e]at J ⊢;refine J.firstB C fun g hg=>?_;obtain⟨p,hp⟩:=List.mem_iff_getElem?.mp (B0 hg);by_cases h0:p=0
 ·subst h0;rw[hx0]at hp;cases hp;exact hc
 ·obtain⟨hp1,rfl⟩:=Xa.mp hp;obtain⟨hx1,rfl⟩:=Xa.mp hx0;have b:=C.le (Zk.mp T.sa 0 p hx1 hp1 (by lia))
  rcases C.neg y0 α[p] α[0] hc with q|q
  ·exact q
  ·rw[b]at q;cases q
end
end TS
namespace TS
open PySem PyProof.Rows
def mhi:Array Keyed->Array Keyed->StateT SortSt Sem (Array Keyed):=sortPriv% PySem.Builtin.mergeHi
section
variable {prog:Program} {w:World} {A:Around} {E:Value->Shared->Prop} {s:Shared} {k:SortKind} {f:Nat->Keyed} {N:Nat} {c:Nat->Nat->Bool} {st:SortSt} {α β:List Nat}
theorem Hw.fc (C:Cm prog w A s k f N c) (T:Two c N α β) {o:Array Keyed} (L:Hw f c α β o i j) (h:j=1):Rt f c α β ((ar f β).extract 0 j++(ar f α).extract 0 i++o.reverse):=by subst h;exact L.fb C T
theorem Hw.bu (C:Cm prog w A s k f N c) {o:Array Keyed} (L:Hw f c α β o i j) (h0:0<i) (h1:j=j'+1) (hy:β[j']?=some y) (hl:i-1<α.length) (h:∀x,α[i-1]?=some x->c y x=false):Hw f c α β (o.push (f y)) i j':=by
 subst h1;obtain⟨i,rfl⟩:=We (Wk h0);have e:α[i]?=some α[i]:=Za hl;exact L.b C e hy (h _ e)
theorem Hw.au (C:Cm prog w A s k f N c) {o:Array Keyed} (L:Hw f c α β o i j) (h0:0<i) (h1:0<j) (hx:α[i-1]?=some x) (hl:j-1<β.length) (h:∀y,β[j-1]?=some y->c y x=true):Hw f c α β (o.push (f x)) (i-1) j:=by
 obtain⟨i,rfl⟩:=We (Wk h0);obtain⟨j,rfl⟩:=We (Wk h1);have e:β[j]?=some β[j]:=Za hl;exact L.a C hx e (h _ e)
theorem Hw.bt (C:Cm prog w A s k f N c) (L:Hw f c α β o i j) (h0:0<i) (hx:α[i-1]?=some x) (hu:u<=j) (h:∀p g,u<=p->p<j->β[p]?=some g->c g x=false):Hw f c α β (o++((ar f β).extract u j).reverse) i u:=by
 obtain⟨i,rfl⟩:=We (Wk h0);exact L.bs C hx hu h
set_option maxHeartbeats 1000000 in
theorem EJ (C:Cm prog w A s k f N c) (hk:kindOf st=k) (T:Two c N α β) (q:∀o st',Sm st st'->Rt f c α β o->Q o st'):wpS (model prog w) A E s (mhi (ar f α) (ar f β)) Q st:=by
 have la:0<α.length:=Zl.mpr T.na;have lb:0<β.length:=Zl.mpr T.nb;obtain⟨n,hn⟩:∃n,α.length=n+1:=We (Wk la);obtain⟨b,hb⟩:∃b,β.length=b+1:=We (Wk lb);obtain⟨xl,hxl⟩:∃x,α[n]?=some x:=⟨_,Za (hn ▸ BC n)⟩;obtain⟨yl,hyl⟩:∃y,β[b]?=some y:=⟨_,Za (hb ▸ BC b)⟩;have M0:Mh c α β α β []:=⟨List.Pairwise.nil,T.sa,T.sb,fun g hg h hh=>by simp at hh,fun g hg h hh=>by simp at hh,T.tag,by simp⟩
 have L0:Hw f c α β #[] (n+1) (b+1):=⟨[],by simp[ar],by rw[← hn,← hb,BE,BE];exact M0⟩
 have hcl:c yl xl=true:=T.last xl (by rw[hn];exact hxl) yl (Wa hyl)
 have sa:(ar f α).size-1=n:=by rw[dC,hn];rfl
 have sb:(ar f β).size=b+1:=by rw[dC,hb]
 have L1:Hw f c α β #[f xl] ((ar f α).size-1) (ar f β).size:=by rw[sa,sb];have:=L0.a C hxl hyl hcl;simpa using this
 refine Ak (BV (AU ⟨rfl,elk (by rw[sa];exact hxl) ?_⟩))
 refine bJ (fun h1=>Ai (q _ _ (Sm.refl _) (L1.dn (.inl h1)))) fun h1=>bJ (fun h2=>Ai (q _ _ (Sm.refl _) (L1.fc C T h2))) fun h2=>Ak (Bi ?_);have za:(ar f α).size=α.length:=dC _;refine GL (Sm st) (Rt f c α β) (fun o i j m=>(i+1,j+1+1,o,m)) (fun x o i j _=>Hw f c α β o (i+1) (j+1+1)/\i<α.length/\j+1<β.length/\x+i+j+3<α.length+β.length) (fun _ _ _ _=>False) ?step ?fin (Sm.refl _) ?init (fun o z st' sm R=>Ai (q _ _ sm R)) fun _ _ _ _ _ _ z=>z.elim
 case init =>
  rw[sa]at h1 L1;rw[sb]at h2 L1;obtain⟨n1,rfl⟩:=We h1;obtain⟨b1,rfl⟩:∃m,b=m+1:=We fun z=>h2 (by rw[z])
  exact Ex4.of (by rw[sa,sb]) ⟨L1,by lia,by lia,by lia⟩
 case fin =>
  rintro o i j m ⟨L,b1,b2,b3⟩;lia
 case step =>
  intro x o i j m st' sm hI;have hk':kindOf st'=k:=sm.kind.trans hk;dsimp (config:={ zeta:=false,zetaHave:=false }) only;refine GM (fun st2=>st2=st') (Rt f c α β) (fun o' i' j' a b=>(i'+1,j'+1+1,o',a,b)) (fun y o' i' j' _ _=>Hw f c α β o' (i'+1) (j'+1+1)/\i'<α.length/\j'+1<β.length/\y+i'+j'=i+j)
   (fun o' i' j' _ _=>Hw f c α β o' (i'+1) (j'+1+1)/\i'<α.length/\j'+1<β.length/\i'+j'<i+j) ?step1 ?fin1 rfl ?init1 (fun o' z st2 e R=>Ai ⟨e ▸ sm,.inl ⟨o',_,R⟩⟩) ?post1
  case init1=>exact⟨_,_,_,_,_,hI.1,hI.2.1,hI.2.2.1,C7 _ ▸ rfl⟩
  case fin1 =>
   rintro o' i' j' a b ⟨L',c1,c2,c3⟩;lia
  case step1 =>
   intro y o' i' j' a b st2 e hI;subst e;have L':=hI.1;have c1:=hI.2.1;have c2:=hI.2.2.1;have c3:=hI.2.2.2;dsimp (config:={ zeta:=false,zetaHave:=false }) only;refine elb c2 fun yv hy=>elb c1 fun xv hx=>Ak (pP C hk' (T.bb _ (Wa hy)) (T.ba _ (Wa hx)) ?_);dsimp (config:={ zeta:=false,zetaHave:=false }) only;refine cP (fun hc=>?_) fun hc=>?_
   ·have L2:=L'.a C hx hy hc;refine elk hx (bJ (fun e1=>Ai ⟨rfl,.inl ⟨_,_,L2.dn (.inl e1)⟩⟩) fun e1=>?_);obtain⟨i1,rfl⟩:=We e1;have c1':i1<α.length:=AX c1;exact cP (fun _=>Ai ⟨rfl,.inr ⟨_,i1,j',_,_,L2,c1',c2,by lia⟩⟩) fun _=>Ai ⟨rfl,_,i1,j',_,_,L2,c1',c2,by lia⟩
   ·have L2:=L'.b C hx hy (Bool.eq_false_iff.mpr hc);refine elk hy (bJ (fun e1=>Ai ⟨rfl,.inl ⟨_,_,L2.fc C T e1⟩⟩) fun e1=>?_);obtain⟨j1,rfl⟩:∃m,j'=m+1:=We fun z=>e1 (by rw[z])
    have c2':j1+1<β.length:=AX c2;exact cP (fun _=>Ai ⟨rfl,.inr ⟨_,i',j1,_,_,L2,c1,c2',by lia⟩⟩) fun _=>Ai ⟨rfl,_,i',j1,_,_,L2,c1,c2',by lia⟩
  case post1 =>
   intro o' i' j' a b st2 e hI';subst e;dsimp (config:={ zeta:=false,zetaHave:=false }) only;refine Ak (BV (AU ⟨rfl,?_⟩));refine GN (Sm st) (Rt f c α β) (fun o2 i2 j2 m2 a2 b2=>(i2,j2,o2,m2,a2,b2)) (fun y o2 i2 j2 _ _ _=>Hw f c α β o2 i2 j2/\0<i2/\i2<=α.length/\1<j2/\j2<=β.length/\i2+j2+y<=i'+1+(j'+1+1))
    (fun o2 i2 j2 _ _ _=>Hw f c α β o2 i2 j2/\0<i2/\i2<=α.length/\1<j2/\j2<=β.length/\i2+j2<=i'+1+(j'+1+1)) ?step2 ?fin2 sm ?init2 (fun o' z st2 sm R=>Ai ⟨sm,.inl ⟨o',_,R⟩⟩) ?post2
   case init2=>exact⟨_,_,_,_,_,_,hI'.1,Nat.succ_pos _,hI'.2.1,Nat.succ_lt_succ (Nat.succ_pos _),hI'.2.2.1,Va _⟩
   case fin2 =>
    rintro o2 i2 j2 m2 a2 b2 ⟨L2,d1,d2,d3,d4,d5⟩;have:=hI'.2.1;have:=hI'.2.2.1;lia
   case post2 =>
    intro o2 i2 j2 m2 a2 b2 st3 sm3 hI2;dsimp only;refine sgb fun st4 sm4'=>Ai ⟨sm3.trans sm4',?_⟩;obtain⟨L2,d1,d2,d3,d4,d5⟩:=hI2;obtain⟨i3,rfl⟩:=We (Wk d1);obtain⟨j3,rfl⟩:∃m,j2=m+1+1:=⟨j2-2,by lia⟩
    have:=hI.2.2.2;have:=hI'.2.2.2;exact⟨_,i3,j3,_,L2,d2,d4,by lia⟩
   case step2 =>
    intro y o2 i2 j2 m2 a2 b2 st3 sm3 hI2;have L2:=hI2.1;have d1:=hI2.2.1;have d2:=hI2.2.2.1;have d3:=hI2.2.2.2.1;have d4:=hI2.2.2.2.2.1;have d5:=hI2.2.2.2.2.2;dsimp only;generalize hj3:j2-1=j3;have ej:j2=j3+1:=by lia
    have hjl:j3<β.length:=by lia
    generalize m2-1=m1;revert m1;apply lJ;intro m3;refine sgb fun st4 sm4'=>elb hjl fun yv hy=>?_;have sm4:Sm st st4:=sm3.trans sm4';have hk4:kindOf st4=k:=sm4.kind.trans hk;refine glob C hk4 T.sa T.ba (T.bb _ (Wa hy)) (left:=false) (by lia) (Ci d1) fun u hu tr fs=>?_
    have L3:=(ej ▸ L2:Hw f c α β o2 i2 (j3+1)).as C hy hu fun p g z1 z2 z3=>by simpa[bb]using fs p g (by lia) (by lia) z3
    rw[← ej]at L3;dsimp only;generalize hk1:i2-u=k1;apply kG (o:=o2) (i:=i2) (I:=fun o i=>Hw f c α β o i j2/\i=u/\0<i)
    case g=>exact fun hu0=>⟨L2,by lia,d1⟩
    case h=>exact fun _ key=>bJ (fun e1=>Ai ⟨sm4,.inl ⟨_,_,L3.dn (.inl e1)⟩⟩) fun e1=>key _ u ⟨L3,rfl,Bl e1⟩
    rintro o i ⟨L3,hi,hl⟩;have hj0:0<j3:=by lia
    have hi2:i-1<i:=Ci hl;have hiu:i<=i2:=hi ▸ hu;have hia:i-1<α.length:=Wc hi2 (Qd hiu d2);have L4:=L3.bu C hl ej hy hia fun x hx=>by simpa[bb]using tr _ x (Wh _) (by lia) hx
    refine elk hy ?_;generalize o.push (f yv)=o4 at L4 ⊢;refine bJ (fun e3=>Ai ⟨sm4,.inl ⟨_,_,L4.fc C T e3⟩⟩) fun e3=>elb hia fun xv hx=>?_;refine glob C hk4 T.sb T.bb (T.ba _ (Wa hx)) (left:=true) (base:=0) (n:=j3) (by lia) (Ci hj0) fun v hv tr2 fs2=>?_
    have L5:=L4.bt C hl hx hv fun p g z1 z2 z3=>by simpa[bb]using fs2 p g (by lia) (by lia) z3
    dsimp only;generalize hk2:j3-v=k2;apply kG (o:=o4) (i:=j3) (I:=fun o j=>Hw f c α β o i j/\j=v/\1<j)
    case g=>exact fun hv0=>⟨L4,by lia,by lia⟩
    case h=>exact fun _ key=>bJ (fun e4=>Ai ⟨sm4,.inl ⟨_,_,L5.fc C T e4⟩⟩) fun e4=>bJ (fun e7=>Ai ⟨sm4,.inl ⟨_,_,L5.dn (.inr e7)⟩⟩) fun e7=>key _ v ⟨L5,rfl,by lia⟩
    rintro o5 j5 ⟨L5,hj5,hl5⟩;have hj7:0<j5:=AX hl5;have hj6:j5-1<β.length:=by lia
    have L6:=L5.au C hl hj7 hx hj6 fun y hy=>by simpa[bb]using tr2 _ y (Wh _) (by lia) hy
    refine elk hx (bJ (fun e5=>Ai ⟨sm4,.inl ⟨_,_,L6.dn (.inl e5)⟩⟩) fun e5=>?_);have w1:=Bl e5;have w3:j5<=β.length:=by lia
    have w2:i-1+j5+(y+1)<=i'+1+(j'+1+1):=by lia
    exact cP (fun _=>Ai ⟨sm4,.inr ⟨_,_,_,_,_,_,L6,w1,Xk hia,hl5,w3,Qd (Qm _ _) w2⟩⟩) fun _=>Ai ⟨sm4,_,_,_,_,_,_,L6,w1,Xk hia,hl5,w3,w2⟩
end
end TS
namespace TS
open PySem PyProof.Rows
theorem pT (sa:Nat):∀(ms:List α) (j:Nat) (x:Array α),sa+j+ms.length<=x.size ->
  ((ms.zipIdx j).foldl (fun a (p:α×Nat)=>a.setIfInBounds (sa+p.2) p.1) x).toList=x.toList.take (sa+j)++ms++x.toList.drop (sa+j+ms.length)
 | [],j,x,_=>by simp
 | m::ms,j,x,h=>by
  rw[Ye]at h;rw[Cu,CG,pT sa ms (j+1) _ (by rw[Array.size_setIfInBounds];lia)]
  have hl:sa+j<x.toList.length:=by rw[Xd];lia
  have e:(x.setIfInBounds (sa+j) m).toList=x.toList.set (sa+j) m:=by simp
  have e1:(x.toList.set (sa+j) m).take (sa+(j+1))=x.toList.take (sa+j)++[m]:=by
   rw[show sa+(j+1)=sa+j+1 by lia,BY,List.take_set_of_le (Va _),Yl hl];rfl
  have e2:(x.toList.set (sa+j) m).drop (sa+(j+1)+ms.length)=x.toList.drop (sa+j+(ms.length+1)):=by
   rw[List.drop_set_of_lt (by lia),show sa+(j+1)+ms.length=sa+j+(ms.length+1) by lia]
  rw[e,e1,e2,Ye];simp
def pc (γ:Array Nat) (lo n:Nat):List Nat:=(γ.toList.drop lo).take n
section
variable {prog:Program} {w:World} {A:Around} {E:Value->Shared->Prop} {s:Shared} {k:SortKind} {f:Nat->Keyed} {N:Nat} {c:Nat->Nat->Bool} {st:SortSt} {γ:Array Nat}
theorem iF {lo n:Nat} (h:lo+n<=γ.size):(pc γ lo n).length=n:=by
 unfold pc;rw[Xl,AN,Xd];lia
theorem sJ {lo n i:Nat} (h:i<n):(pc γ lo n)[i]?=γ[lo+i]?:=by
 unfold pc;rw[Wl,Af h,Qf];simp
theorem lL (lo:Nat) (n m:Nat):pc γ lo (n+m)=pc γ lo n++pc γ (lo+n) m:=by
 unfold pc;rw[List.take_add,Bq]
theorem sK {lo n:Nat} (sg:Sg c γ lo (lo+n)):(pc γ lo n).Pairwise (Bf c):=by
 rw[Zk];intro i j hi hj hij;have li:i<n:=by have:=List.length_take_le n (γ.toList.drop lo);unfold pc at hi;lia
 have lj:j<n:=by have:=List.length_take_le n (γ.toList.drop lo);unfold pc at hj;lia
 exact sg (lo+i) (lo+j) _ _ (by lia) (by lia) (by lia) (by rw[← sJ li];exact Za hi) (by rw[← sJ lj];exact Za hj)
theorem dP {lo n g:Nat} (h:g∈pc γ lo n):∃i,lo<=i/\i<lo+n/\γ[i]?=some g:=by
 obtain⟨p,h1,h2,h3⟩:=ol h;exact⟨p,h1,h2,by simpa using h3⟩
theorem zN (lo n:Nat):(γ.map f).extract lo (lo+n)=ar f (pc γ lo n):=by
 have e:γ.map f=ar f γ.toList:=by simp[ar]
 rw[e,iE,show lo+n - lo=n by lia];rfl
theorem GQ (C:Cm prog w A s k f N c) {lo n:Nat} (sg:Sg c γ lo (lo+n)) (left:Bool) (t:Nat):Mo c left t lo n γ:=by
 intro i j g h p1 p2 p3 e1 e2 z;have b:=C.le (sg i j g h p1 p2 p3 e1 e2);cases left with
 | false =>
  simp only[bb,Ze,if_false,Bx]at z ⊢;cases z2:c t g with
  | false=>rfl
  | true =>
   rcases C.neg t h g z2 with q|q
   ·rw[z]at q;cases q
   ·rw[b]at q;cases q
 | true =>
  simp only[bb,if_true]at z ⊢;rcases C.neg h g t z with q|q
  ·rw[b]at q;cases q
  ·exact q
theorem whole {lo n:Nat} (h:lo+n<=γ.size):γ.toList=γ.toList.take lo++pc γ lo n++γ.toList.drop (lo+n):=by
 unfold pc;rw[← Bq,Ve,Zi,Zi]
theorem ut {lo n:Nat} (h:lo+n<=γ.size) {X:List Nat} (p:X.Perm (pc γ lo n)) {γ':Array Nat} (e:γ'.toList=γ.toList.take lo++X++γ.toList.drop (lo+n)) :
  γ'.Perm γ/\Out γ γ' lo (lo+n)/\(∀i,i<n->γ'[lo+i]?=X[i]?):=by
 have hX:X.length=n:=by rw[p.length_eq,iF h]
 have hlo:(γ.toList.take lo).length=lo:=by rw[Xl,Xd];lia
 have hg:∀i:Nat,γ'[i]?=γ'.toList[i]?:=fun i=>Xh.symm;have hg2:∀i:Nat,γ[i]?=γ.toList[i]?:=fun i=>Xh.symm;refine⟨?_,fun i hi=>?_,fun i hi=>?_⟩
 ·rw[Array.perm_iff_toList_perm,e]
  conv=>rhs;rw[whole h]
  exact(p.append_left _).append_right _
 ·rw[hg,hg2,e];rcases hi with hi|hi
  ·rw[Ve,Qi (by lia),Wl,Af hi]
  ·rw[Xg (by rw[Yb];lia),Yb,hlo,hX,Qf]
   congr 1;lia
 ·rw[hg,e,Ve,Xg (by lia),hlo,Qi (by lia)]
  congr 1;lia
theorem EK {lo n:Nat} {X:List Nat} {γ':Array Nat} (hX:X.length=n) (at':∀i,i<n->γ'[lo+i]?=X[i]?) (pw:X.Pairwise (Bf c)):Sg c γ' lo (lo+n):=by
 intro i j g h p1 p2 p3 e1 e2;have e1':X[i - lo]?=some g:=by rw[← at' (i - lo) (by lia),show lo+(i - lo)=i by lia];exact e1
 have e2':X[j - lo]?=some h:=by rw[← at' (j - lo) (by lia),show lo+(j - lo)=j by lia];exact e2
 obtain⟨hi,rfl⟩:=Xa.mp e1';obtain⟨hj,rfl⟩:=Xa.mp e2';exact Zk.mp pw _ _ hi hj (by lia)
theorem EL {lo n:Nat} {X:List Nat} {γ':Array Nat} (at':∀i,i<n->γ'[lo+i]?=X[i]?) (ow:∀g∈X,lo<=g/\g<lo+n):Ow γ' lo (lo+n):=by
 intro i g p1 p2 e;refine ow g (Wa (i:=i-lo) ?_);rw[← at' (i - lo) (by lia),show lo+(i - lo)=i by lia];exact e
end
end TS
namespace TS
open PySem PyProof.Rows
def mat:Nat->StateT SortSt Sem Bool:=sortPriv% PySem.Builtin.mergeAt
section
variable {prog:Program} {w:World} {A:Around} {E:Value->Shared->Prop} {s:Shared} {k:SortKind} {f:Nat->Keyed} {N:Nat} {c:Nat->Nat->Bool} {st:SortSt} {γ:Array Nat}
theorem yF {σ:Type} {st' st0:σ} {Q:PUnit->σ->Prop} (h:Q ⟨⟩ st'):wpS (model prog w) A E s (set st':StateT σ Sem PUnit) Q st0:=by
 unfold wpS;rw[StateT.run_set];exact Ac ⟨rfl,h⟩
theorem wn (e:γ[i]?=some g) (q:Q (f g) st):wpS (model prog w) A E s (elem' (γ.map f) i) Q st:=by
 rw[elem'_eq,Br,e];exact Ai q
theorem wo (C:Cm prog w A s k f N c) (hk:kindOf st=k) (ht:t<N) (hb:∀(i g:Nat),γ[i]?=some g->g<N) (hs:base+n<=γ.size) (hh:hint<n) (sg:Sg c γ base (base+n))
  (q:∀m,m<=n->Tr c left t base γ m->Fs c left t base n γ m->Q (some m) st) :
  wpS (model prog w) A E s ((sortPriv% PySem.Builtin.gallop) left (f t) (γ.map f) base n hint) Q st:=wl C hk ht hb hs hh (GQ C sg left t) q
structure Mtd (k:SortKind) (f:Nat->Keyed) (N:Nat) (c:Nat->Nat->Bool) (γ:Array Nat) (lo n:Nat) (st':SortSt) (γ':Array Nat):Prop where
 rp:Rp k f N st' γ'
 sg:Sg c γ' lo (lo+n)
 ow:Ow γ' lo (lo+n)
 out:Out γ γ' lo (lo+n)
theorem EM (C:Cm prog w A s k f N c) (R:Rp k f N st γ) {i sa na p1 nb p2:Nat} (e1:(pendingOf st)[i]?=some (sa,na,p1)) (e2:(pendingOf st)[i+1]?=some (sa+na,nb,p2)) (ha:1<=na) (hb:1<=nb) (hN:sa+na+nb<=N)
  (ga:Sg c γ sa (sa+na)) (oa:Ow γ sa (sa+na)) (gb:Sg c γ (sa+na) (sa+na+nb)) (ob:Ow γ (sa+na) (sa+na+nb))
  {Q:Bool->SortSt->Prop} (q:∀st' γ',Mtd k f N c γ sa (na+nb) st' γ'->pendingOf st'=((pendingOf st).setIfInBounds i (sa,na+nb,p1)).eraseIdxIfInBounds (i+1)->Q true st') :
  wpS (model prog w) A E s (mat i) Q st:=by
 have hsz:=R.size;have bnd:∀(i g:Nat),γ[i]?=some g->g<N:=fun i g e=>R.bnd e;obtain⟨t,ht⟩:=gw (γ:=γ) (i:=sa+na) (by lia)
 obtain⟨x,hx⟩:=gw (γ:=γ) (i:=sa+na-1) (by lia)
 have tN:=bnd _ _ ht;have xN:=bnd _ _ hx;have tagab:∀i j g h,sa<=i->i<sa+na->sa+na<=j->j<sa+na+nb->γ[i]?=some g->γ[j]?=some h->g<h:=fun i j g h a1 a2 a3 a4 z1 z2=>by
  have:=oa i g a1 a2 z1;have:=ob j h a3 a4 z2;lia
 have tb:∀j h,sa+na<=j->j<sa+na+nb->γ[j]?=some h->c h t=false:=fun j h a3 a4 z=>by
  by_cases hj:j=sa+na
  ·subst hj;rw[ht]at z;cases z;exact C.irr _
  ·exact C.le (gb (sa+na) j t h (Va _) (by lia) a4 ht z)
 have ax:∀i g,sa<=i->i<sa+na->γ[i]?=some g->c x g=false:=fun i g a1 a2 z=>by
  by_cases hi:i=sa+na-1
  ·subst hi;rw[hx]at z;cases z;exact C.irr _
  ·exact C.le (ga i (sa+na-1) g x a1 (by lia) (by lia) z hx)
 have idle:(∀i j g h,sa<=i->i<sa+na->sa+na<=j->j<sa+na+nb->γ[i]?=some g->γ[j]?=some h->c h g=false)->∀st1,arrOf st1=arrOf st->kindOf st1=kindOf st->failedOf st1=failedOf st->Mtd k f N c γ sa (na+nb) st1 γ:=fun hc st1 a1 k1 f1=>by
  refine⟨⟨a1.trans R.arr,k1.trans R.kind,f1.trans R.fine,R.perm⟩,fun i j g h z1 z2 z3 z4 z5=>?_,fun i g z1 z2 z3=>?_,Out.refl _ _ _⟩
  ·by_cases hi:i<sa+na
   ·by_cases hj:j<sa+na
    ·exact ga i j g h z1 z2 hj z4 z5
    ·exact .inr ⟨hc i j g h z1 hi (by lia) (by lia) z4 z5,tagab i j g h z1 hi (by lia) (by lia) z4 z5⟩
   ·exact gb i j g h (by lia) z2 (by lia) z4 z5
  ·by_cases hi:i<sa+na
   ·have:=oa i g z1 hi z3;lia
   ·have:=ob i g (by lia) (by lia) z3;lia
 have ra:(sortPriv% PySem.Builtin.SortState.a) st=γ.map f:=R.arr;refine Ak (Bi ?_);dsimp only;rw[e1,e2];dsimp only;refine Ak (At (Q:=fun _ st1=>arrOf st1=arrOf st/\kindOf st1=kindOf st/\failedOf st1=failedOf st/\pendingOf st1=((pendingOf st).setIfInBounds i (sa,na+nb,p1)).eraseIdxIfInBounds (i+1)) (yF ⟨rfl,rfl,rfl,rfl⟩) ?_);rintro _ st1 ⟨a1,k1,f1,pd1⟩;have hk1:kindOf st1=k:=k1.trans R.kind;rw[ra];refine Ak (wn ht ?_);refine Ak (wo C hk1 tN bnd (left:=false) (base:=sa) (n:=na) (hint:=0) (by lia) (by lia) ga fun u hu tr fs=>?_)
 dsimp only;have tr':∀i g,sa<=i->i<sa+u->γ[i]?=some g->c t g=false:=fun i g z1 z2 z3=>by simpa[bb]using tr i g z1 z2 z3
 have fs':∀i g,sa+u<=i->i<sa+na->γ[i]?=some g->c t g=true:=fun i g z1 z2 z3=>by simpa[bb]using fs i g z1 z2 z3
 by_cases e3:(na-u == 0)=true
 ·refine cR e3 ?_;have e3':na-u=0:=B1 e3;refine Ai (q st1 γ (idle (fun i j g h z1 z2 z3 z4 z5 z6=>?_) st1 a1 k1 f1) pd1);exact C.letr (tr' i g z1 (by lia) z5) (tb j h z3 z4 z6)
 refine cA e3 ?_;have e3':na-u≠0:=fun z=>e3 (by rw[z];rfl)
 have eu:sa+u+(na-u)=sa+na:=by rw[Ba,Xm hu]
 rw[eu];refine Ak (wn hx ?_);refine Ak (wo C hk1 xN bnd (left:=true) (base:=sa+na) (n:=nb) (hint:=nb-1) (by lia) (by lia) gb fun v hv tr2 fs2=>?_)
 dsimp only;have tr2':∀i g,sa+na<=i->i<sa+na+v->γ[i]?=some g->c g x=true:=fun i g z1 z2 z3=>by simpa[bb]using tr2 i g z1 z2 z3
 have fs2':∀i g,sa+na+v<=i->i<sa+na+nb->γ[i]?=some g->c g x=false:=fun i g z1 z2 z3=>by simpa[bb]using fs2 i g z1 z2 z3
 by_cases e4:(v == 0)=true
 ·refine cR e4 ?_;have e4':v=0:=B1 e4;refine Ai (q st1 γ (idle (fun i j g h z1 z2 z3 z4 z5 z6=>?_) st1 a1 k1 f1) pd1);exact C.letr (ax i g z1 z2 z5) (fs2' j h (by lia) z4 z6)
 refine cA e4 ?_;have e4':v≠0:=fun z=>e4 (by rw[z];rfl)
 have ex:(γ.map f).extract (sa+u) (sa+na)=ar f (pc γ (sa+u) (na-u)):=by
  have:=zN (γ:=γ) (f:=f) (sa+u) (na-u);rwa [eu]at this
 have ey:(γ.map f).extract (sa+na) (sa+na+v)=ar f (pc γ (sa+na) v):=zN _ _;rw[ex,ey];have T:Two c N (pc γ (sa+u) (na-u)) (pc γ (sa+na) v):=by
  refine⟨sK fun i j g h z1 z2 z3=>ga i j g h (by lia) z2 (by lia),sK fun i j g h z1 z2 z3=>gb i j g h z1 z2 (by lia),fun g hg h hh=>?_,fun g hg=>?_,fun g hg=>?_,fun z=>?_,fun z=>?_,fun x' y' z1 z2=>?_,fun x' z1 g hg=>?_⟩
  ·obtain⟨i,y1,y2,y3⟩:=dP hg;obtain⟨j,y4,y5,y6⟩:=dP hh;exact tagab i j g h (by lia) (by lia) y4 (by lia) y3 y6
  ·obtain⟨i,y1,y2,y3⟩:=dP hg;exact bnd i g y3
  ·obtain⟨i,y1,y2,y3⟩:=dP hg;exact bnd i g y3
  ·have:=iF (γ:=γ) (lo:=sa+u) (n:=na-u) (by lia)
   rw[z]at this;simp at this;lia
  ·have:=iF (γ:=γ) (lo:=sa+na) (n:=v) (by lia)
   rw[z]at this;simp at this;lia
  ·rw[sJ (by lia)]at z1 z2
   rw[C9]at z1 z2;rw[ht]at z2;cases z2;exact fs' (sa+u) x' (Va _) (by lia) z1
  ·rw[iF (by lia),sJ (Nat.sub_lt (Bl e3') Nat.one_pos),show sa+u+(na - u - 1)=sa+na - 1 by rw[← Nat.add_sub_assoc (Bl e3'),eu],hx]at z1
   cases z1;obtain⟨i,y1,y2,y3⟩:=dP hg;exact tr2' i g y1 y2 y3
 have fin:∀(o:Array Keyed) (st2:SortSt),Sm st1 st2->Rt f c (pc γ (sa+u) (na-u)) (pc γ (sa+na) v) o->∀st3:SortSt,arrOf st3=o.toList.zipIdx.foldl (fun a (p:Keyed×Nat)=>a.setIfInBounds (sa+u+p.2) p.1) (arrOf st2)->kindOf st3=kindOf st2->pendingOf st3=pendingOf st2->failedOf st3=failedOf st2 ->
   ∃γ',Mtd k f N c γ sa (na+nb) st3 γ':=fun o st2 sm2 rt st3 a3 k3 _ f3=>by
  obtain⟨l,rfl,gd⟩:=rt;have hl:l.length=na-u+v:=by rw[gd.2.length_eq,Yb,iF (by lia),iF (by lia)]
  have sp:pc γ sa (na+nb)=pc γ sa u++(pc γ (sa+u) (na-u)++pc γ (sa+na) v)++pc γ (sa+na+v) (nb-v):=by
   have h1:na+nb=u+((na-u)+(v+(nb-v))):=by rw[Xm hv,← Ba,Xm hu]
   rw[h1,lL,lL (sa+u),lL (sa+u+(na - u)),eu];simp
  have pX:(pc γ sa u++l++pc γ (sa+na+v) (nb-v)).Perm (pc γ sa (na+nb)):=by
   rw[sp];exact(gd.2.append_left _).append_right _
  have hX:(pc γ sa u++l++pc γ (sa+na+v) (nb-v)).length=na+nb:=by rw[pX.length_eq,iF (by lia)]
  let γ':Array Nat:=(γ.toList.take sa++(pc γ sa u++l++pc γ (sa+na+v) (nb-v))++γ.toList.drop (sa+(na+nb))).toArray
  have eγ:γ'.toList=γ.toList.take sa++(pc γ sa u++l++pc γ (sa+na+v) (nb-v))++γ.toList.drop (sa+(na+nb)):=rfl;obtain⟨n1,n2,n3⟩:=ut (γ:=γ) (lo:=sa) (n:=na+nb) (by lia) pX eγ
  have pw:(pc γ sa u++l++pc γ (sa+na+v) (nb-v)).Pairwise (Bf c):=by
   have inl:∀h∈l,(∃i,sa+u<=i/\i<sa+na/\γ[i]?=some h)∨∃j,sa+na<=j/\j<sa+na+v/\γ[j]?=some h:=fun h hh=>by
    rcases Zf.mp (gd.2.mem_iff.mp hh) with hh|hh
    ·obtain⟨i,y1,y2,y3⟩:=dP hh;exact .inl ⟨i,y1,by lia,y3⟩
    ·obtain⟨i,y1,y2,y3⟩:=dP hh;exact .inr ⟨i,y1,y2,y3⟩
   rw[Zh,Zh];refine⟨⟨sK fun i j g h z1 z2 z3=>ga i j g h z1 z2 (by lia),gd.1,fun g hg h hh=>?_⟩,sK fun i j g h z1 z2 z3=>gb i j g h (by lia) z2 (by lia),fun g hg h hh=>?_⟩
   ·obtain⟨i,y1,y2,y3⟩:=dP hg;rcases inl h hh with⟨j,y4,y5,y6⟩|⟨j,y4,y5,y6⟩
    ·exact ga i j g h y1 (by lia) y5 y3 y6
    ·exact .inr ⟨C.letr (tr' i g y1 y2 y3) (tb j h y4 (by lia) y6),tagab i j g h y1 (by lia) y4 (by lia) y3 y6⟩
   ·obtain⟨j,y4,y5,y6⟩:=dP hh;rcases Zf.mp hg with hg|hg
    ·obtain⟨i,y1,y2,y3⟩:=dP hg;exact .inr ⟨C.letr (ax i g y1 (by lia) y3) (fs2' j h y4 (by lia) y6),tagab i j g h y1 (by lia) (by lia) (by lia) y3 y6⟩
    ·rcases inl g hg with⟨i,y1,y2,y3⟩|⟨i,y1,y2,y3⟩
     ·exact .inr ⟨C.letr (ax i g (by lia) y2 y3) (fs2' j h y4 (by lia) y6),tagab i j g h (by lia) y2 (by lia) (by lia) y3 y6⟩
     ·exact gb i j g h y1 (by lia) (by lia) y3 y6
  refine⟨γ',⟨?_,(k3.trans sm2.kind).trans hk1,(f3.trans sm2.fine).trans (f1.trans R.fine),n1.trans R.perm⟩,EK hX n3 pw,EL n3 fun g hg=>?_,n2⟩
  ·have ar1:arrOf st2=γ.map f:=(sm2.arr.trans a1).trans R.arr;rw[a3,ar1];apply Array.toList_inj.mp;have:=pT (sa+u) (ar f l).toList 0 (γ.map f) (by rw[CP,hsz];simp[ar,hl];lia)
   rw[C9]at this;rw[this];have el:(ar f l).toList=l.map f:=by simp[ar]
   rw[el,Ya,hl,Array.toList_map,Array.toList_map,eγ];rw[← CW,← CY,← Yf,← Yf];congr 1;have t1:γ.toList.take (sa+u)=γ.toList.take sa++pc γ sa u:=by
    unfold pc;rw[List.take_add]
   have t2:γ.toList.drop (sa+u+(na-u+v))=pc γ (sa+na+v) (nb-v)++γ.toList.drop (sa+(na+nb)):=by
    unfold pc;have h:=Zi (nb-v) (γ.toList.drop (sa+na+v));rw[Bq,show sa+na+v+(nb - v)=sa+(na+nb) by rw[Ba,Xm hv,Ba]]at h
    rw[show sa+u+(na - u+v)=sa+na+v by rw[← Ba,eu],h]
   rw[t1,t2];simp
  ·have hg':=pX.mem_iff.mp hg;obtain⟨i,y1,y2,y3⟩:=dP hg';by_cases hi:i<sa+na
   ·have:=oa i g y1 hi y3;lia
   ·have:=ob i g (by lia) (by lia) y3;lia
 by_cases e5:na-u<=v
 ·refine cR e5 ?_;refine Ak (EI C hk1 T fun o st2 sm2 rt=>?_);refine Ak (At (Q:=fun _ st3=>arrOf st3=o.toList.zipIdx.foldl (fun a (p:Keyed×Nat)=>a.setIfInBounds (sa+u+p.2) p.1) (arrOf st2)/\kindOf st3=kindOf st2/\pendingOf st3=pendingOf st2/\failedOf st3=failedOf st2) (A7 ⟨rfl,rfl,rfl,rfl⟩) ?_);rintro _ st3 ⟨a3,k3,p3,f3⟩;obtain⟨γ',M⟩:=fin o st2 sm2 rt st3 a3 k3 p3 f3;refine Ak (Bi ?_);have hf:failedOf st3=none:=M.rp.fine;have:=q st3 γ' M (p3.trans (sm2.pend.trans pd1));refine Ai ?_;rw[show((sortPriv% PySem.Builtin.SortState.failed) st3).isNone=true by rw[show(sortPriv% PySem.Builtin.SortState.failed) st3=none from hf];rfl]
  exact this
 ·refine cA e5 ?_;refine Ak (EJ C hk1 T fun o st2 sm2 rt=>?_);refine Ak (At (Q:=fun _ st3=>arrOf st3=o.toList.zipIdx.foldl (fun a (p:Keyed×Nat)=>a.setIfInBounds (sa+u+p.2) p.1) (arrOf st2)/\kindOf st3=kindOf st2/\pendingOf st3=pendingOf st2/\failedOf st3=failedOf st2) (A7 ⟨rfl,rfl,rfl,rfl⟩) ?_);rintro _ st3 ⟨a3,k3,p3,f3⟩;obtain⟨γ',M⟩:=fin o st2 sm2 rt st3 a3 k3 p3 f3;refine Ak (Bi ?_);have hf:failedOf st3=none:=M.rp.fine;have:=q st3 γ' M (p3.trans (sm2.pend.trans pd1));refine Ai ?_;rw[show((sortPriv% PySem.Builtin.SortState.failed) st3).isNone=true by rw[show(sortPriv% PySem.Builtin.SortState.failed) st3=none from hf];rfl]
  exact this
end
end TS
namespace TS
open PySem PyProof.Rows
def G9:StateT SortSt Sem Unit:=sortPriv% PySem.Builtin.sortRuns
abbrev Run:=Nat×Nat×Nat
def Cv (c:Nat->Nat->Bool) (γ:Array Nat):Nat->List Run->Nat->Prop
 | a,[],b=>a=b
 | a,r::l,b=>r.1=a/\1<=r.2.1/\Sg c γ a (a+r.2.1)/\Ow γ a (a+r.2.1)/\Cv c γ (a+r.2.1) l b
section
variable {prog:Program} {w:World} {A:Around} {E:Value->Shared->Prop} {s:Shared} {k:SortKind} {f:Nat->Keyed} {N:Nat} {c:Nat->Nat->Bool} {st:SortSt} {γ γ':Array Nat}
theorem Cv.le:∀{l:List Run} {a b:Nat},Cv c γ a l b->a+l.length<=b
 | [],a,b,h=>by cases h;simp
 | r::l,a,b,h=>by
  have:=Cv.le h.2.2.2.2;have:=h.2.1;rw[Ye];lia
theorem Cv.congr:∀{l:List Run} {a b:Nat},Cv c γ a l b->(∀i,a<=i->i<b->γ'[i]?=γ[i]?)->Cv c γ' a l b
 | [],a,b,h,_=>h
 | r::l,a,b,⟨h1,h2,h3,h4,h5⟩,e=>by
  have hb:=Cv.le h5;refine⟨h1,h2,fun i j g h z1 z2 z3 z4 z5=>h3 i j g h z1 z2 z3 (by rw[← e i z1 (by lia)];exact z4) (by rw[← e j (by lia) (by lia)];exact z5),fun i g z1 z2 z3=>h4 i g z1 z2 (by rw[← e i z1 (by lia)];exact z3),Cv.congr h5 fun i z1 z2=>e i (by lia) z2⟩
theorem Cv.app:∀{l m:List Run} {a b:Nat},Cv c γ a (l++m) b↔∃d,Cv c γ a l d/\Cv c γ d m b
 | [],m,a,b=>⟨fun h=>⟨a,rfl,h⟩,fun⟨d,h1,h2⟩=>by cases h1;exact h2⟩
 | r::l,m,a,b=>by
  constructor
  ·rintro⟨h1,h2,h3,h4,h5⟩;obtain⟨d,h6,h7⟩:=Cv.app.mp h5;exact⟨d,⟨h1,h2,h3,h4,h6⟩,h7⟩
  ·rintro⟨d,⟨h1,h2,h3,h4,h6⟩,h7⟩;exact⟨h1,h2,h3,h4,Cv.app.mpr ⟨d,h6,h7⟩⟩
structure Sr (k:SortKind) (f:Nat->Keyed) (N:Nat) (c:Nat->Nat->Bool) (lo:Nat) (δ:Array Nat) (st:SortSt) (γ:Array Nat):Prop where
 rp:Rp k f N st γ
 cv:Cv c γ 0 (pendingOf st).toList lo
 tl:∀i,lo<=i->γ[i]?=δ[i]?
 le:lo<=N
theorem EN {l:List Run} (h:i+1<l.length):∃l1 r1 r2 l2,l=l1++r1::r2::l2/\l1.length=i:=by
 refine⟨l.take i,l[i],l[i+1],l.drop (i+2),?_,by rw[Xl];lia⟩
 have h1:=Zi i l;rw[Zj (by lia:i<l.length),Zj (by lia:i+1<l.length)]at h1
 exact h1.symm
theorem uu (l1 l2:List Run) (r1 r2 r:Run):((l1++r1::r2::l2).set l1.length r).eraseIdx (l1.length+1)=l1++r::l2:=by
 rw[List.set_append_right _ _ (Va _),Ch,List.set_cons_zero,List.eraseIdx_append_of_length_le (by lia)]
 congr 1;rw[show l1.length+1 - l1.length=1 by lia];rfl
theorem pU (C:Cm prog w A s k f N c) {lo i:Nat} {δ:Array Nat} (S:Sr k f N c lo δ st γ) (hi:i+1<(pendingOf st).size) {Q:Bool->SortSt->Prop}
  (q:∀st' γ',Sr k f N c lo δ st' γ'->(pendingOf st').size+1=(pendingOf st).size->Q true st'):wpS (model prog w) A E s ((sortPriv% PySem.Builtin.mergeAt) i) Q st:=by
 obtain⟨l1,⟨sa,na,p1⟩,⟨sb,nb,p2⟩,l2,hl,hl1⟩:=EN (l:=(pendingOf st).toList) (i:=i) (by rw[Xd];exact hi)
 have cv:=S.cv;rw[hl]at cv;obtain⟨d,c1,c2⟩:=Cv.app.mp cv;obtain⟨h1,h2,h3,h4,h5,h6,h7,h8,h9⟩:=c2;dsimp only at h1 h2 h3 h4 h5 h6 h7 h8 h9;subst h1 h5;have hle:=Cv.le h9;have hN:=S.le;have e1:(pendingOf st)[i]?=some (sa,na,p1):=by rw[← Xh,hl,← hl1,Xg (Va _),Ch];rfl
 have e2:(pendingOf st)[i+1]?=some (sa+na,nb,p2):=by rw[← Xh,hl,← hl1,Xg (by lia),show l1.length+1 - l1.length=1 by lia];rfl
 refine EM C S.rp e1 e2 h2 h6 (by lia) h3 h4 h7 h8 fun st' γ' M pd=>?_
 have out:∀i,i<sa∨sa+(na+nb)<=i->γ'[i]?=γ[i]?:=M.out;have hp:(pendingOf st').toList=l1++(sa,na+nb,p1)::l2:=by
  rw[pd,Array.toList_eraseIdxIfInBounds,Array.toList_setIfInBounds,hl,← hl1,uu]
 refine q st' γ' ⟨M.rp,?_,fun i z1=>?_,S.le⟩ ?_
 ·rw[hp];refine Cv.app.mpr ⟨sa,c1.congr fun i z1 z2=>out i (.inl z2),rfl,by show 1<=na+nb;lia,M.sg,M.ow,?_⟩
  show Cv c γ' (sa+(na+nb)) l2 lo;rw[← Ba];exact h9.congr fun i z1 z2=>out i (.inr (by lia))
 ·rw[out i (.inr (by lia))];exact S.tl i z1
 ·have a1:(pendingOf st').size=(l1++(sa,na+nb,p1)::l2).length:=by rw[← hp,Xd]
  have a2:(pendingOf st).size=(l1++(sa,na,p1)::(sa+na,nb,p2)::l2).length:=by rw[← hl,Xd]
  rw[a1,a2];simp only[Yb,Ye];lia
theorem Cv.modify (hg:∀r,(g r).1=r.1/\(g r).2.1=r.2.1):∀{l:List Run} {i a b:Nat},Cv c γ a l b->Cv c γ a (l.modify i g) b
 | [],i,a,b,h=>by simpa using h
 | r::l,0,a,b,⟨h1,h2,h3,h4,h5⟩=>by
  rw[List.modify_zero_cons];have:=hg r;exact⟨this.1.trans h1,by rw[this.2];exact h2,by rw[this.2];exact h3,by rw[this.2];exact h4,by rw[this.2];exact h5⟩
 | r::l,i+1,a,b,⟨h1,h2,h3,h4,h5⟩=>by
  rw[List.modify_succ_cons];exact⟨h1,h2,h3,h4,Cv.modify hg h5⟩
theorem EO (C:Cm prog w A s k f N c) (R:Rp k f N st γ) {lo n ok:Nat} (hn:lo+n<=N) (h1:1<=ok) (hok:ok<=n) (sg:Sg c γ lo (lo+ok)) (ow:Ow γ lo (lo+ok)) (raw:Raw γ (lo+ok) N)
  {Q:Bool->SortSt->Prop} (q:∀(x:Array Keyed) (γ':Array Nat),Rp k f N (setArr st x) γ'->Sg c γ' lo (lo+n)->Ow γ' lo (lo+n)->Raw γ' (lo+n) N->Out γ γ' lo (lo+n)->Q true (setArr st x)) :
  wpS (model prog w) A E s ((sortPriv% PySem.Builtin.binarySort) lo n ok) Q st:=yD C R hn h1 hok sg ow raw q
theorem EQ (C:Cm prog w A s k f N c) (R:Rp k f N st γ) {lo:Nat} (hl:lo<N) (raw:Raw γ lo N)
  {Q:Option Nat->SortSt->Prop} (q:∀n st',1<=n->lo+n<=N->Rn k f N c lo st γ n st'->Q (some n) st'):wpS (model prog w) A E s ((sortPriv% PySem.Builtin.countRun) lo (N-lo)) Q st:=EG C R hl raw q
theorem wp {M:Model} {σ γ:Type} {X:StateT σ Sem γ} {B:Nat->StateT σ Sem γ} {p:Prop} {d:Decidable p} {n:Nat} {Q:γ->σ->Prop} {st:σ} (I:Nat->σ->Prop)
  (h:p->(∀n st,I n st->wpS M A E s (B n) Q st)->wpS M A E s X Q st) (g:¬ p->I n st) (hB:∀n st,I n st->wpS M A E s (B n) Q st):wpS M A E s (@ite _ p d X (B n)) Q st:=cP (fun z=>h z hB) fun z=>hB _ _ (g z)
theorem yG (C:Cm prog w A s k f N c) (R:Rp k f N st γ) (hp:pendingOf st=#[]) (raw:Raw γ 0 N) {Q:Unit->SortSt->Prop} (q:∀st' γ',Rp k f N st' γ'->Sg c γ' 0 N->Q ⟨⟩ st'):wpS (model prog w) A E s G9 Q st:=by
 have hsz:((sortPriv% PySem.Builtin.SortState.a) st).size=N:=by
  have:=congrArg Array.size R.arr;rw[CP,R.size]at this;exact this
 refine Ak (Bi ?_);dsimp only;rw[hsz];refine Ak (At (Aw (I:=fun x r st'=>∃lo,r=(none,lo)/\x<=lo/\∃γ',Sr k f N c lo γ' st' γ'/\Raw γ' lo N) (Q:=fun r st'=>r=(none,N)/\∃γ',Sr k f N c N γ' st' γ') ?step ?fin ?init) ?post)
 case init=>exact⟨0,rfl,Va _,γ,⟨R,by rw[hp];rfl,fun _ _=>rfl,Wh _⟩,raw⟩
 case fin =>
  rintro r st' ⟨lo,rfl,hx,γ',S,rw'⟩;have:=S.le;obtain rfl:lo=N:=by lia
  exact⟨rfl,γ',S⟩
 case step =>
  rintro x r st' _ hxN ⟨lo,rfl,hx,γ',S,raw'⟩;dsimp only;by_cases hl:lo ≥ N
  ·refine cR hl ?_;have:=S.le;obtain rfl:lo=N:=by lia
   exact Ai ⟨rfl,γ',S⟩
  refine cA hl ?_;refine Ak (EQ C S.rp (by lia) raw' fun n st1 hn1 hn2 rn=>?_)
  dsimp only;apply wp (n:=n) (I:=fun n st1=>∃γ1,Rp k f N st1 γ1/\pendingOf st1=pendingOf st'/\1<=n/\lo+n<=N/\Sg c γ1 lo (lo+n)/\Ow γ1 lo (lo+n)/\Raw γ1 (lo+n) N/\Out γ' γ1 lo (lo+n))
  case g =>
   obtain⟨xa,γ1,hst1,R1,sg1,ow1,raw1,out1⟩:=rn;exact fun _=>⟨γ1,R1,by rw[hst1],hn1,hn2,sg1,ow1,raw1,out1⟩
  case h =>
   intro hm key;obtain⟨xa,γ1,hst1,R1,sg1,ow1,raw1,out1⟩:=rn;refine Ak (BV (AU ⟨rfl,?_⟩));generalize hm2:min (N-lo) ((sortPriv% PySem.Builtin.minRun) N N 0)=n2;have hn3:n<=n2:=by rw[← hm2];lia
   have hn4:lo+n2<=N:=by rw[← hm2];lia
   exact Ak (EO C R1 hn4 hn1 hn3 sg1 ow1 raw1 fun xb γ2b R2 sg2 ow2 raw2 out2=>cA (by decide) (key n2 _ ⟨γ2b,R2,by rw[hst1],Qd hn1 hn3,hn4,sg2,ow2,raw2,fun i hi=>(out2 i hi).trans (out1 i (by lia))⟩))
  clear rn hn1 hn2;intro n st1 hJ;obtain⟨γ1,hJ⟩:=hJ;have R1:=hJ.1;have pd1:=hJ.2.1;have hn1:=hJ.2.2.1;have hn2:=hJ.2.2.2.1;have sg1:=hJ.2.2.2.2.1;have ow1:=hJ.2.2.2.2.2.1;have raw1:=hJ.2.2.2.2.2.2.1;have out1:=hJ.2.2.2.2.2.2.2;refine Ak (Bi ?_);have cv1:Cv c γ1 0 (pendingOf st1).toList lo:=by rw[pd1];exact S.cv.congr fun i _ z2=>out1 i (.inl z2)
  have S1:Sr k f N c lo γ1 st1 γ1:=⟨R1,cv1,fun _ _=>rfl,S.le⟩;have push:∀(st2:SortSt) (γ2:Array Nat),Sr k f N c lo γ1 st2 γ2->∀st3:SortSt,arrOf st3=arrOf st2->kindOf st3=kindOf st2->failedOf st3=failedOf st2->pendingOf st3=(pendingOf st2).push (lo,n,0)->∃γ',Sr k f N c (lo+n) γ' st3 γ'/\Raw γ' (lo+n) N:=fun st2 γ2 S2 st3 a3 k3 f3 p3=>by
   refine⟨γ2,⟨⟨a3.trans S2.rp.arr,k3.trans S2.rp.kind,f3.trans S2.rp.fine,S2.rp.perm⟩,?_,fun _ _=>rfl,hn2⟩,fun i z1 z2=>?_⟩
   ·rw[p3,Array.toList_push];refine Cv.app.mpr ⟨lo,S2.cv,rfl,hn1,fun i j g h z1 z2 z3 z4 z5=>?_,fun i g z1 z2 z3=>?_,rfl⟩
    ·exact sg1 i j g h z1 z2 z3 (by rw[← S2.tl i z1];exact z4) (by rw[← S2.tl j (by lia)];exact z5)
    ·exact ow1 i g z1 z2 (by rw[← S2.tl i z1];exact z3)
   ·rw[S2.tl i (by lia)];exact raw1 i z1 z2
  split
  ·rename_i s1 n1 sd hback
   refine Ak (At (Aw (I:=fun _ r st2=>r=(none,())/\∃γ2,Sr k f N c lo γ1 st2 γ2) (Q:=fun r st2=>r=(none,())/\∃γ2,Sr k f N c lo γ1 st2 γ2) ?step2 ?fin2 ?init2) ?post2)
   case init2=>exact⟨rfl,γ1,S1⟩
   case fin2=>exact fun r st2 h=>h
   case step2 =>
    rintro y r st2 _ _ ⟨rfl,γ2,S2⟩;refine Ak (Bi ?_);split
    ·rename_i o1 o2 older hold
     have hsz2:(pendingOf st2).size > 1:=by
      by_cases hz:(pendingOf st2).size > 1
      ·exact hz
      ·rw[Ah hz]at hold;cases hold
     by_cases ho:older<=(sortPriv% PySem.Builtin.power) N (2*s1+n1) (2*s1+n1+n1+n) N
     ·refine cR ho ?_;exact Ai ⟨rfl,γ2,S2⟩
     ·refine cA ho ?_;refine Ak (pU C S2 (i:=(pendingOf st2).size-2) (by lia) fun st3 γ3 S3 _=>?_)
      exact Ai ⟨rfl,γ3,S3⟩
    ·exact Ai ⟨rfl,γ2,S2⟩
   case post2 =>
    rintro r st2 ⟨rfl,γ2,S2⟩;dsimp only;refine Ak (At (Q:=fun _ st3=>∃γ3,Sr k f N c lo γ1 st3 γ3) (A7 ⟨γ2,⟨S2.rp.arr,S2.rp.kind,S2.rp.fine,S2.rp.perm⟩,?_,S2.tl,S2.le⟩) ?_)
    ·show Cv c γ2 0 ((pendingOf st2).modify ((pendingOf st2).size-1) _).toList lo;rw[Array.toList_modify];refine Cv.modify (g:=fun x=>(x.1,x.2.1,_)) (fun r=>?_) S2.cv;exact⟨rfl,rfl⟩
    rintro _ st3 ⟨γ3,S3⟩;refine Ak (At (Q:=fun _ st4=>∃γ',Sr k f N c (lo+n) γ' st4 γ'/\Raw γ' (lo+n) N) (A7 (push st3 γ3 S3 _ rfl rfl rfl rfl)) ?_);rintro _ st4 ⟨γ4,S4,raw4⟩;exact Ai ⟨_,rfl,by lia,γ4,S4,raw4⟩
  ·refine Ak (At (Q:=fun _ st4=>∃γ',Sr k f N c (lo+n) γ' st4 γ'/\Raw γ' (lo+n) N) (A7 (push st1 γ1 S1 _ rfl rfl rfl rfl)) ?_);rintro _ st4 ⟨γ4,S4,raw4⟩;exact Ai ⟨_,rfl,by lia,γ4,S4,raw4⟩
 case post =>
  rintro r st' ⟨rfl,γ',S⟩;dsimp only;refine Ak (At (Aw (I:=fun x r st2=>r=(none,())/\∃γ2,Sr k f N c N γ' st2 γ2/\(pendingOf st2).size+x<=N) (Q:=fun r st2=>r=(none,())/\∃γ2,Sr k f N c N γ' st2 γ2/\(pendingOf st2).size<=1) ?step3 ?fin3 ?init3) ?post3)
  case init3 =>
   refine⟨rfl,γ',S,?_⟩;have:=S.cv.le;rw[Xd]at this;lia
  case fin3 =>
   rintro r st2 ⟨rfl,γ2,S2,hz⟩;exact⟨rfl,γ2,S2,by lia⟩
  case step3 =>
   rintro y r st2 _ _ ⟨rfl,γ2,S2,hz⟩;refine Ak (Bi ?_);by_cases h1:((sortPriv% PySem.Builtin.SortState.pending) st2).size<=1
   ·refine cR h1 ?_;exact Ai ⟨rfl,γ2,S2,h1⟩
   refine cA h1 ?_;have h1':¬ (pendingOf st2).size<=1:=h1;refine Ak (pU C S2 ?_ fun st3 γ3 S3 hs3=>Ai ⟨rfl,γ3,S3,by lia⟩)
   have pick:∀(p:Prop) [Decidable p],(if p then(pendingOf st2).size-2-1 else(pendingOf st2).size-2)+1<(pendingOf st2).size:=fun p _=>by
    split<;>lia
   exact pick _
  case post3 =>
   rintro r st2 ⟨rfl,γ2,S2,hz⟩;dsimp only;refine Ai (q st2 γ2 S2.rp ?_);have cv:=S2.cv;rw[← Xd]at hz;generalize (pendingOf st2).toList=l at cv hz;cases l with
   | nil =>
    have:0=N:=cv;subst this;exact fun i j g h z1 z2 z3=>by lia
   | cons r l =>
    cases l with
    | cons _ _=>simp at hz
    | nil =>
     obtain⟨h1,h2,h3,h4,h5⟩:=cv;have e:0+r.2.1=N:=h5;rw[e]at h3;exact h3
end
end TS
namespace VF
open PySem L2
open Classical in
noncomputable def ltL (lt:D->D->Bool):List D->List D->Bool
 | [],[]=>false
 | [],_::_=>true
 | _::_,[]=>false
 | x::xs,y::ys=>if x=y then ltL lt xs ys else lt x y
noncomputable def ltN:Nat->D->D->Bool
 | 0,_,_=>false
 | _+1,.int i,.int j=>decide (i<j)
 | _+1,.str x,.str y=>decide (x.cps.toList<y.cps.toList)
 | n+1,.tup xs,.tup ys=>ltL (ltN n) xs ys
 | _+1,_,_=>false
def Cp:Nat->D->D->Prop
 | 0,_,_=>False
 | _+1,.int _,.int _=>True
 | _+1,.str _,.str _=>True
 | n+1,.tup xs,.tup ys=>∀(i:Nat) x y,xs[i]?=some x->ys[i]?=some y->Cp n x y
 | _+1,_,_=>False
theorem sL:∀(xs:List D),ltL lt xs xs=false
 | []=>rfl
 | x::xs=>by
  unfold ltL;rw[Af rfl];exact sL xs
theorem kI:∀(n:Nat) (a:D),ltN n a a=false
 | 0,_=>rfl
 | n+1,a=>by
  cases a with
  | int i=>exact Ae (Int.lt_irrefl i)
  | str x=>exact Ae (List.lt_irrefl _)
  | tup xs=>exact sL xs
  | _=>rfl
structure Or (n:Nat):Prop where
 tri:∀{a b:D},Cp n a b->a=b∨ltN n a b=true∨ltN n b a=true
 tra:∀{a b c:D},Cp n a b->Cp n b c->Cp n a c->ltN n a b=true->ltN n b c=true->ltN n a c=true
abbrev Cl (n:Nat) (xs ys:List D):Prop:=∀(i:Nat) x y,xs[i]?=some x->ys[i]?=some y->Cp n x y
theorem Cl.tail (h:Cl n (x::xs) (y::ys)):Cl n xs ys:=fun i a b e1 e2=>h (i+1) a b (by simpa using e1) (by simpa using e2)
theorem Cl.head (h:Cl n (x::xs) (y::ys)):Cp n x y:=h 0 x y rfl rfl
open Classical in
theorem bR:ltL lt (x::xs) (x::ys)=ltL lt xs ys:=by
 show(if x=x then ltL lt xs ys else lt x x)=_;rw[Af rfl]
open Classical in
theorem bi (h:x≠y):ltL lt (x::xs) (y::ys)=lt x y:=by
 show(if x=y then ltL lt xs ys else lt x y)=_;rw[Ah h]
theorem sM (O:Or n):∀{xs ys:List D},Cl n xs ys->xs=ys∨ltL (ltN n) xs ys=true∨ltL (ltN n) ys xs=true
 | [],[],_=>.inl rfl
 | [],_::_,_=>.inr (.inl rfl)
 | _::_,[],_=>.inr (.inr rfl)
 | x::xs,y::ys,h=>by
  by_cases e:x=y
  ·subst e;rw[bR,bR];rcases sM O h.tail with q|q
   ·exact .inl (by rw[q])
   ·exact .inr q
  ·rw[bi e,bi (AF e)];rcases O.tri h.head with q|q
   ·exact absurd q e
   ·exact .inr q
theorem sO (O:Or n):∀{xs ys zs:List D},Cl n xs ys->Cl n ys zs->Cl n xs zs->ltL (ltN n) xs ys=true->ltL (ltN n) ys zs=true->ltL (ltN n) xs zs=true
 | [],[],[],_,_,_,h1,_=>h1
 | [],_::_,[],_,_,_,_,h2=>h2
 | [],_,_::_,_,_,_,_,_=>rfl
 | _::_,[],_,_,_,_,h1,_=>by cases h1
 | _::_,_::_,[],_,_,_,_,h2=>by cases h2
 | x::xs,y::ys,z::zs,c1,c2,c3,h1,h2=>by
  by_cases e1:x=y
  ·subst e1;rw[bR]at h1;by_cases e2:x=z
   ·subst e2;rw[bR]at h2 ⊢;exact sO O c1.tail c2.tail c3.tail h1 h2
   ·rw[bi e2]at h2 ⊢;exact h2
  ·rw[bi e1]at h1;by_cases e2:y=z
   ·subst e2;rw[bi e1];exact h1
   ·rw[bi e2]at h2;have h3:=O.tra c1.head c2.head c3.head h1 h2;have e3:x≠z:=fun e=>by subst e;rw[kI]at h3;cases h3
    rw[bi e3];exact h3
theorem lM:∀n,Or n
 | 0=>⟨fun h=>h.elim,fun h=>h.elim⟩
 | n+1=>by
  have O:=lM n;refine⟨fun {a b} h=>?_,fun {a b c} h1 h2 h3 l1 l2=>?_⟩
  ·cases a with
   | int i =>
    cases b with
    | int j =>
     rcases Int.lt_trichotomy i j with q|q|q
     ·exact .inr (.inl (Ag q))
     ·exact .inl (by rw[q])
     ·exact .inr (.inr (Ag q))
    | _=>exact h.elim
   | str x =>
    cases b with
    | str y =>
     by_cases q:x.cps.toList<y.cps.toList
     ·exact .inr (.inl (Ag q))
     ·by_cases q':y.cps.toList<x.cps.toList
      ·exact .inr (.inr (Ag q'))
      ·refine .inl ?_;have:=vV (a:=x) (b:=y) q' q;rw[this]
    | _=>exact h.elim
   | tup xs =>
    cases b with
    | tup ys =>
     rcases sM O h with q|q
     ·exact .inl (by rw[q])
     ·exact .inr q
    | _=>exact h.elim
   | _=>exact h.elim
  ·cases a with
   | int i =>
    cases b with
    | int j =>
     cases c with
     | int k =>
      have q1:=Am l1;have q2:=Am l2;exact Ag (Int.lt_trans q1 q2)
     | _=>exact h2.elim
    | _=>exact h1.elim
   | str x =>
    cases b with
    | str y =>
     cases c with
     | str z =>
      have q1:=Am l1;have q2:=Am l2;exact Ag (List.lt_trans q1 q2)
     | _=>exact h2.elim
    | _=>exact h1.elim
   | tup xs =>
    cases b with
    | tup ys =>
     cases c with
     | tup zs=>exact sO O h1 h2 h3 l1 l2
     | _=>exact h2.elim
    | _=>exact h1.elim
   | _=>exact h1.elim
theorem sP (h:∀a b,lt a b=true->lt b a=false):∀(xs ys:List D),ltL lt xs ys=true->ltL lt ys xs=false
 | [],[],l=>by cases l
 | [],_::_,_=>rfl
 | _::_,[],l=>by cases l
 | x::xs,y::ys,l=>by
  by_cases e:x=y
  ·subst e;rw[bR]at l ⊢;exact sP h xs ys l
  ·rw[bi e]at l;rw[bi (AF e)];exact h x y l
theorem om:∀(n:Nat) (a b:D),ltN n a b=true->ltN n b a=false
 | 0,_,_,l=>by cases l
 | n+1,a,b,l=>by
  cases a with
  | int i =>
   cases b with
   | int j =>
    have q:=Am l;exact Ae (by lia)
   | _=>cases l
  | str x =>
   cases b with
   | str y =>
    have q:=Am l;exact Ae (List.lt_asymm q)
   | _=>cases l
  | tup xs =>
   cases b with
   | tup ys=>exact sP (om n) xs ys l
   | _=>cases l
  | _=>cases l
def Srt (n:Nat) (es:List D):Prop:=es.Pairwise fun a b=>ltN n b a=false
open Classical in
noncomputable def gx (n:Nat) (ds:List D):List D:=if h:∃es:List D,es.Perm ds/\Srt n es then h.choose else ds
def CA (n:Nat) (ds:List D):Prop:=∀a∈ds,∀b∈ds,Cp n a b
theorem CA.neg (h:CA n ds) (ha:a∈ds) (hb:b∈ds) (hc:c∈ds) (l:ltN n a c=true):ltN n a b=true∨ltN n b c=true:=by
 rcases(lM n).tri (h a ha b hb) with q|q|q
 ·subst q;exact .inr l
 ·exact .inl q
 ·exact .inr ((lM n).tra (h b hb a ha) (h a ha c hc) (h b hb c hc) q l)
theorem iG {ds es:List D} (h:CA n ds) (p:es.Perm ds) (s:Srt n es):es=gx n ds:=by
 have ex:∃es:List D,es.Perm ds/\Srt n es:=⟨es,p,s⟩;have e:gx n ds=ex.choose:=by unfold gx;rw[dif_pos ex]
 obtain⟨p2,s2⟩:=ex.choose_spec;rw[e];refine(p.trans p2.symm).eq_of_pairwise (fun a b ha hb h1 h2=>?_) s s2;rcases(lM n).tri (h a (p.mem_iff.mp ha) b (p2.mem_iff.mp hb)) with q|q|q
 ·exact q
 ·rw[h2]at q;cases q
 ·rw[h1]at q;cases q
end VF
namespace VF
open PySem L2 PySem.SeqAt
open PySem.AutoSeq1 (wpAny_loadPart')
open PySem.MeetsSeq PySem.MeetsSeq2 PySem.MeetsSeq3
def LtAt (A:Around) (s:Shared) (u v:Value) (b:Bool):Prop:=∀(prog:Program) (w:World) (E:Value->Shared->Prop) (Q:Value->Shared->Prop),Q (.bool b) s->wpAny (model prog w) A (richCompare .Lt u v) Q E s
open Classical in
inductive IL (A:Around) (s:Shared) (lt:D->D->Bool):List Value->List Value->List D->List D->Prop where
 | left {ws:List Value} {es:List D}:ws.length=es.length->IL A s lt [] ws [] es
 | right {vs:List Value} {ds:List D}:vs.length=ds.length->IL A s lt vs [] ds []
 | cons {v w:Value} {vs ws:List Value} {d e:D} {ds es:List D}:EqAt A.in1 s v w (decide (d=e))->(d≠e->LtAt A.in1 s v w (lt d e))->IL A s lt vs ws ds es->IL A s lt (v::vs) (w::ws) (d::ds) (e::es)
open Classical in
inductive KL (A:Around) (s:Shared) (lt:D->D->Bool) (n m:Nat) (R:Result->Shared->Prop) {α β:Type} (rest:List (Value×Value)) (b:Option α×β) (s':Shared):Prop
 | mk (vs ws:List Value) (ds' es':List D) (e1:b.1=none) (e2:s'=s) (hz:rest=vs.zip ws) (hi:IL A s lt vs ws ds' es') (hlen:vs.length+m=ws.length+n) (hR:R (.ok (.ret (.bool (ltL lt ds' es')))) s)
open Classical in
theorem mK (l b:Addr) (items items2:Array Value) (n n2:Nat) (dd dd2:Option Addr) (sl sl2:Array (Option Value)) (lt:D->D->Bool) (ds es:List D) :
  Meets (Builtin.«tuple.__lt__» ⟨[.ref l,.ref b],[]⟩)
   (fun A R s=>s.heap.get? l=some { cls:=.type "tuple",dict:=dd,data:=.seq items n,slots:=sl }/\s.heap.get? b=some { cls:=.type "tuple",dict:=dd2,data:=.seq items2 n2,slots:=sl2 } /\
    IL A s lt items.toList items2.toList ds es/\R (.ok (.ret (.bool (ltL lt ds es)))) s) :=
 .of_wp fun prog w A R s h=>by
  obtain⟨hp,g,d,tk,os⟩:=s;obtain⟨hl,hb,hI,h⟩:=h;have f2:=AutoSeq1.sub_tuple_tuple
  wp_walk using BP hl,BP hb,Cq _ (KL A ⟨hp,g,d,tk,os⟩ lt items.size items2.size R) _
  case turn =>
   rintro⟨y,x⟩ rest b s' ⟨vs,ws,ds',es',hb',rfl,hz,hi,hlen,hR⟩;cases hi with
   | left _=>rw[List.zip_nil_left]at hz;cases hz
   | right _=>rw[List.zip_nil_right]at hz;cases hz
   | @cons v w' vs' ws' d' e' ds2 es2 he hlt hi' =>
    rw[Bo]at hz;injection hz with hyx hrest;injection hyx with hy hx;subst hy hx;simp only[Ye]at hlen;refine Aa (he prog w _ _ ?_);by_cases hde:d'=e'
    ·subst hde;rw[Ag rfl];rw[bR]at hR
     wp_walk
     exact⟨_,_,_,_,rfl,rfl,hrest,hi',by lia,hR⟩
    ·rw[Ae hde];rw[bi hde]at hR;have hri:=hlt hde prog w
     wp_walk using hri
     exact⟨_,rfl,by simpa using hR⟩
  case fin =>
   rintro⟨b1,b2⟩ s' ⟨vs,ws,ds',es',hb',rfl,hz,hi,hlen,hR⟩;simp only at hb';subst hb';have hv:ltL lt ds' es'=decide (items.size<items2.size):=by
    cases hi with
    | left hl2 =>
     cases es' with
     | nil =>
      simp only[Wi]at hlen hl2;exact(Ae (by lia)).symm
     | cons e0 e1 =>
      simp only[Wi,Ye]at hlen hl2;exact(Ag (by lia)).symm
    | right hl2 =>
     cases ds' with
     | nil =>
      simp only[Wi]at hlen hl2;exact(Ae (by lia)).symm
     | cons e0 e1 =>
      simp only[Wi,Ye]at hlen hl2;exact(Ae (by lia)).symm
    | cons _ _ _ =>
     rw[Bo]at hz;cases hz
   rw[hv]at hR
   wp_walk
   exact⟨_,rfl,by simpa[Builtin.Tuple.tupleCompareSizes]using hR⟩
  case h =>
   exact⟨items.toList,items2.toList,ds,es,rfl,rfl,rfl,hI,by rw[Xd,Xd,Nat.add_comm],h⟩
theorem LtAt.tuples {A:Around} {s:Shared} {items items2:Array Value} (hl:s.heap.IsTuple l items) (hb:s.heap.IsTuple b items2) (hu:A.units<cLine) (hI:IL A s lt items.toList items2.toList ds es) :
  LtAt A s (.ref l) (.ref b) (ltL lt ds es):=fun prog w E Q h=>by
 obtain⟨⟨cls,dd,data,sl⟩,ho,hc,n,hd⟩:=id hl;obtain⟨⟨cls2,dd2,data2,sl2⟩,ho2,hc2,n2,hd2⟩:=id hb;simp only at hc hd hc2 hd2;subst hc hd hc2 hd2;exact richCompare_meets_room (op:=.Lt) ⟨_,ho,rfl⟩ ⟨_,ho2,rfl⟩ PySem.F.slot_tuple_lt PySem.F.entry_tuple_lt (PySem.F.args_tuple_lt_2 _ _) (mK l b items items2 n n2 dd dd2 sl sl2 lt ds es)
  ⟨ho,ho2,hI,show Value.bool (ltL lt ds es)≠Value.notImplemented/\Q (.bool (ltL lt ds es)) s from⟨(fun x=>nomatch x),h⟩⟩ hu
theorem zO {A:Around}:∀{vs ws:List Value} {ds es:List D},vs.length=ds.length->ws.length=es.length ->
  (∀(i:Nat) v w d e,vs[i]?=some v->ws[i]?=some w->ds[i]?=some d->es[i]?=some e->(∀b,(b=true↔d=e)->EqAt A.in1 s v w b)/\(d≠e->LtAt A.in1 s v w (lt d e)))->IL A s lt vs ws ds es
 | [],_,[],_,_,h2,_=>.left h2
 | _::_,[],_::_,[],h1,_,_=>.right h1
 | v::vs,w::ws,d::ds,e::es,h1,h2,h=>by
  obtain⟨a1,a2⟩:=h 0 v w d e rfl rfl rfl rfl;exact .cons (a1 _ (by simp)) a2 (zO (by simpa using h1) (by simpa using h2) fun i v' w' d' e' z1 z2 z3 z4=>h (i+1) v' w' d' e' (by simpa using z1) (by simpa using z2) (by simpa using z3) (by simpa using z4))
 | [],_,_::_,_,h1,_,_=>by simp at h1
 | _::_,_,[],_,h1,_,_=>by simp at h1
 | _::_,[],_::_,_::_,_,h2,_=>by simp at h2
 | _::_,_::_,_::_,[],_,h2,_=>by simp at h2
open Classical in
theorem pV {A:Around} {u v:Value} {d e:D} (h:EqAt A s u v (decide (d=e))) (b:Bool) (hb:b=true↔d=e):EqAt A s u v b:=by
 have:b=decide (d=e):=by rw[Vf,hb,decide_eq_true_eq]
 rw[this];exact h
theorem RH.ltAt:∀(n:Nat) {s:Shared} {d1 d2:D} {u1 u2:Value} {A:Around},Pl n d1->Pl n d2->Cp n d1 d2->RH s.heap u1 d1->RH s.heap u2 d2->A.units+n<cLine->LtAt A s u1 u2 (ltN n d1 d2):=by
 intro n;induction n with
 | zero=>intro s d1 d2 u1 u2 A p;cases p
 | succ n ih =>
  intro s d1 d2 u1 u2 A p1 p2 cp r1 r2 hu;cases r1 with
  | non=>exact cp.elim
  | int i t =>
   cases r2 with
   | int j t'=>exact fun prog w E Q h=>HT.rcLt_int A s i t j t' prog w E Q h
   | _=>exact cp.elim
  | str x t =>
   cases r2 with
   | str y t'=>exact fun prog w E Q h=>(PyProof.Rows.lt_str h:wpAny (model prog w) A (compareOp .Lt (.str x t) (.str y t')) Q E s)
   | _=>exact cp.elim
  | lst _ _ _=>exact cp.elim
  | @tup a its ds t hl f =>
   cases r2 with
   | @tup b its' ds' t' hl' f' =>
    cases p1 with
    | tup p1 =>
    cases p2 with
    | tup p2 =>
    refine LtAt.tuples t t' (by lia) (zO (by simpa using hl) (by simpa using hl') fun i v w d e z1 z2 z3 z4=>?_)
    have z1':its[i]?=some v:=by simpa using z1
    have z2':its'[i]?=some w:=by simpa using z2
    have m1:=p1 d (Wa z3);have m2:=p2 e (Wa z4);have hu':A.in1.units+n<cLine:=by show A.units+1+n<cLine;lia
    exact⟨pV (RH.eqAt n m1 m2 (f i v d z1' z3) (f' i w e z2' z4) hu').1,fun _=>ih m1 m2 (cp i d e z3 z4) (f i v d z1' z3) (f' i w e z2' z4) hu'⟩
   | _=>exact cp.elim
end VF
namespace VF
open PySem L2 PyProof.Rows PySem.SeqAt
def pW (A:Around) (s:Shared) (fl:Bool) (u v:Value) (c:Bool):Prop:=∀(prog:Program) (w:World) (E:Value->Shared->Prop) (Q:Bool->Shared->Prop),Q c s->wpAny (model prog w) A (oneLt' fl u v) Q E s
open Classical in
inductive IK (A:Around) (s:Shared) (b:Bool) (lt:D->D->Bool):Nat->List Value->List Value->List D->List D->Prop where
 | left {i:Nat} {ws:List Value} {es:List D}:ws.length=es.length->IK A s b lt i [] ws [] es
 | right {i:Nat} {vs:List Value} {ds:List D}:vs.length=ds.length->IK A s b lt i vs [] ds []
 | cons {i:Nat} {v w:Value} {vs ws:List Value} {d e:D} {ds es:List D}:EqAt A s v w (decide (d=e))->(d≠e->pW A s (b&&i == 0) v w (lt d e))->IK A s b lt (i+1) vs ws ds es->IK A s b lt i (v::vs) (w::ws) (d::ds) (e::es)
section
variable {prog:Program} {w:World} {A:Around} {E:Value->Shared->Prop} {s:Shared}
theorem wq (h:LtAt A s u v c):pW A s false u v c:=fun prog w E Q q=>by
 rw[oneLt'_eq];dsimp only;rw[Ah Bool.noConfusion];exact Aa (h prog w _ _ (AG q))
theorem sQ (fl:Bool):pW A s fl (.int a t) (.int b u) (decide (a<b)):=fun prog w E Q q=>by
 cases fl with
 | true=>exact oneLt_int q
 | false=>exact wq (fun prog w E Q h=>HT.rcLt_int A s a t b u prog w E Q h) prog w E Q q
theorem sR {a b:Str} (fl:Bool):pW A s fl (.str a t) (.str b u) (decide (a.cps.toList<b.cps.toList)):=fun prog w E Q q=>by
 cases fl with
 | true=>exact oneLt_str q
 | false=>exact wq (fun prog w E Q h=>(PyProof.Rows.lt_str h:wpAny (model prog w) A (compareOp .Lt (.str a t) (.str b u)) Q E s)) prog w E Q q
inductive KI (A:Around) (s:Shared) (b:Bool) (lt:D->D->Bool) (n m:Nat) (Q:Bool->Shared->Prop) (rest:List ((Value×Value)×Nat)) (r:Option Bool×Unit) (s':Shared):Prop
 | mk (i:Nat) (vs ws:List Value) (ds' es':List D) (e1:s'=s) (e2:r=(none,())) (hz:rest=(vs.zip ws).zipIdx i) (hi:IK A s b lt i vs ws ds' es') (hlen:vs.length+m=ws.length+n) (hR:Q (ltL lt ds' es') s)
open Classical in
theorem yH {xs ys:Array Value} (hl:s.heap.IsTuple l xs) (hr:s.heap.IsTuple r ys) (hI:IK A s b lt 0 xs.toList ys.toList ds es) (q:Q (ltL lt ds es) s) :
  wpAny (model prog w) A (keyLt' (tuples' b) (.ref l) (.ref r)) Q E s:=by
 obtain⟨o1,g1,_,n1,d1⟩:=hl;obtain⟨o2,g2,_,n2,d2⟩:=hr;refine Aa (AL g1 d1 ?_);refine Aa (AL g2 d2 ?_);refine Aa (Cq _ (KI A s b lt xs.size ys.size Q) _ ?_ ?_ _ _ ?_)
 ·rintro⟨⟨y,x⟩,j⟩ rest r s' ⟨i,vs,ws,ds',es',rfl,rfl,hz,hi,hlen,hR⟩;cases hi with
  | left _=>rw[List.zip_nil_left]at hz;cases hz
  | right _=>rw[List.zip_nil_right]at hz;cases hz
  | @cons _ v w' vs' ws' d' e' ds2 es2 he hlt hi' =>
   rw[Bo,Cu]at hz;injection hz with hyx hrest;injection hyx with hy hj;injection hy with hy hx;subst hy hx hj;simp only[Ye]at hlen;dsimp only;refine Aa (he prog w _ _ ?_);by_cases hde:d'=e'
   ·subst hde;rw[Ag rfl];rw[bR]at hR;exact Ac ⟨_,_,_,_,_,rfl,rfl,hrest,hi',by lia,hR⟩
   ·rw[Ae hde];rw[bi hde]at hR;exact Aa (hlt hde prog w _ _ (Ac (Ac hR)))
 ·rintro r s' ⟨i,vs,ws,ds',es',rfl,rfl,hz,hi,hlen,hR⟩;have hv:ltL lt ds' es'=decide (xs.size<ys.size):=by
   cases hi with
   | left hl2 =>
    cases es' with
    | nil =>
     simp only[Wi]at hlen hl2;exact(Ae (by lia)).symm
    | cons e0 e1 =>
     simp only[Wi,Ye]at hlen hl2;exact(Ag (by lia)).symm
   | right hl2 =>
    cases ds' with
    | nil =>
     simp only[Wi]at hlen hl2;exact(Ae (by lia)).symm
    | cons e0 e1 =>
     simp only[Wi,Ye]at hlen hl2;exact(Ae (by lia)).symm
   | cons _ _ _ =>
    rw[Bo,Cu]at hz;cases hz
  rw[hv]at hR;exact Ac hR
 ·exact⟨0,xs.toList,ys.toList,ds,es,rfl,rfl,rfl,hI,by rw[Xd,Xd,Nat.add_comm],q⟩
theorem zP:∀{i:Nat} {vs ws:List Value} {ds es:List D},vs.length=ds.length->ws.length=es.length ->
  (∀(j:Nat) v w d e,vs[j]?=some v->ws[j]?=some w->ds[j]?=some d->es[j]?=some e->(∀c,(c=true↔d=e)->EqAt A s v w c)/\(d≠e->pW A s (b&&(i+j) == 0) v w (lt d e)))->IK A s b lt i vs ws ds es
 | _,[],_,[],_,_,h2,_=>.left h2
 | _,_::_,[],_::_,[],h1,_,_=>.right h1
 | i,v::vs,w::ws,d::ds,e::es,h1,h2,h=>by
  obtain⟨a1,a2⟩:=h 0 v w d e rfl rfl rfl rfl;refine .cons (a1 _ (by simp)) a2 (zP (by simpa using h1) (by simpa using h2) fun j v' w' d' e' z1 z2 z3 z4=>?_)
  have:=h (j+1) v' w' d' e' (by simpa using z1) (by simpa using z2) (by simpa using z3) (by simpa using z4)
  rwa [show i+(j+1)=i+1+j by lia]at this
 | _,[],_,_::_,_,h1,_,_=>by simp at h1
 | _,_::_,_,[],_,h1,_,_=>by simp at h1
 | _,_::_,[],_::_,_::_,_,h2,_=>by simp at h2
 | _,_::_,_::_,_::_,[],_,h2,_=>by simp at h2
def ES (d:D):Prop:=match d with
 | .tup (.int _::_)=>True
 | _=>False
def ET (d:D):Prop:=match d with
 | .tup (.str _::_)=>True
 | _=>False
theorem sS (h:ES d):∃i r,d=.tup (.int i::r):=by
 cases d with
 | tup l =>
  cases l with
  | nil=>exact h.elim
  | cons x r =>
   cases x with
   | int i=>exact⟨_,_,rfl⟩
   | _=>exact h.elim
 | _=>exact h.elim
theorem sT (h:ET d):∃i r,d=.tup (.str i::r):=by
 cases d with
 | tup l =>
  cases l with
  | nil=>exact h.elim
  | cons x r =>
   cases x with
   | str i=>exact⟨_,_,rfl⟩
   | _=>exact h.elim
 | _=>exact h.elim
theorem wt (p1:Pl (n+1) d1) (p2:Pl (n+1) d2) (cp:Cp (n+1) d1 d2) (r1:RH s.heap u1 d1) (r2:RH s.heap u2 d2) (hu:A.units+(n+1)<cLine)
  (ht:∃xs,d1=.tup xs) (hb:b=true->(ES d1/\ES d2)∨(ET d1/\ET d2)) (q:Q (ltN (n+1) d1 d2) s):wpAny (model prog w) A (keyLt' (tuples' b) u1 u2) Q E s:=by
 obtain⟨xs,rfl⟩:=ht;cases r1 with
 | @tup a its ds t hl f =>
  cases r2 with
  | @tup a2 its' ds' t' hl' f' =>
   cases p1 with
   | tup p1 =>
   cases p2 with
   | tup p2 =>
   refine yH (lt:=ltN n) (ds:=xs) (es:=ds') t t' (zP (by simpa using hl) (by simpa using hl') fun j v w' d e z1 z2 z3 z4=>?_) q
   have z1':its[j]?=some v:=by simpa using z1
   have z2':its'[j]?=some w':=by simpa using z2
   have m1:=p1 d (Wa z3);have m2:=p2 e (Wa z4);have k1:=f j v d z1' z3;have k2:=f' j w' e z2' z4;have c1:=cp j d e z3 z4;refine⟨pV (RH.eqAt n m1 m2 k1 k2 (by lia)).1,fun _=>?_⟩
   cases hfl:(b&&(0+j) == 0) with
   | false=>exact wq (RH.ltAt n m1 m2 c1 k1 k2 (by lia))
   | true =>
    rw[Wg]at hfl;have hj:j=0:=by have:=B1 hfl.2;lia
    subst hj;rcases hb hfl.1 with⟨g1,g2⟩|⟨g1,g2⟩
    ·obtain⟨i,r,e1⟩:=sS g1;obtain⟨i2,r2,e2⟩:=sS g2;cases e1;cases e2;cases z3;cases z4;cases k1;cases k2;cases n with
     | zero=>cases m1
     | succ n=>exact sQ true
    ·obtain⟨i,r,e1⟩:=sT g1;obtain⟨i2,r2,e2⟩:=sT g2;cases e1;cases e2;cases z3;cases z4;cases k1;cases k2;cases n with
     | zero=>cases m1
     | succ n=>exact sR true
  | _=>exact cp.elim
end
end VF
namespace VF
open PySem L2 PyProof.Rows
section
variable {M:Model} {prog:Program} {w:World} {A:Around} {E:Value->Shared->Prop} {s:Shared}
theorem sU:∀(l:List α),(∀v∈l,∀Q:β->Shared->Prop,Q (g v) s->wpAny M A (f v) Q E s)->∀Q:List β->Shared->Prop,Q (l.map g) s->wpAny M A (l.mapM f) Q E s
 | [],_,Q,q=>by rw[List.mapM_nil];exact Ac q
 | v::l,h,Q,q=>by
  rw[List.mapM_cons];exact Aa (h v Xb _ (Aa (sU l (fun u hu=>h u (Vb _ hu)) _ (Ac q))))
theorem sV {l:List α} (h:∀v∈l,∀Q:β->Shared->Prop,Q (g v) s->wpAny M A (f v) Q E s) (q:Q (l.map g).toArray s):wpAny M A (l.toArray.mapM f) Q E s:=by
 rw[List.mapM_toArray,map_eq_pure_bind];exact Aa (sU l h _ (Ac q))
def tyD:D->String
 | .int _=>"int"
 | .str _=>"str"
 | .tup _=>"tuple"
 | _=>"list"
theorem RH.ty (r:RH s.heap u d) (h:d≠.non):s.TypeIs u (tyD d):=by
 cases r with
 | non=>exact absurd rfl h
 | int i t=>exact typeIs_int s i t
 | str x t=>exact CK s x t
 | tup t _ _=>obtain⟨o,h1,h2,_⟩:=t;exact⟨o,h1,h2⟩
 | lst t _ _=>obtain⟨o,h1,h2,_⟩:=t;exact⟨o,h1,h2⟩
theorem wu {us:List Value} {ds:List D} (hne:us≠[]) (hl:us.length=ds.length) (r:∀(i:Nat) u d,us[i]?=some u->ds[i]?=some d->RH s.heap u d/\d≠.non/\tyD d=T) (q:Q (some (.type T)) s) :
  wpAny M A (oneTypeOnly' us.toArray) Q E s:=by
 rw[oneTypeOnly'_eq];refine Aa (sV (g:=fun _=>Value.type T) (fun v hv Q q=>?_) ?_)
 ·obtain⟨i,hi,rfl⟩:=Vi.mp hv;obtain⟨r1,r2,r3⟩:=r i us[i] ds[i] (Za hi) (Za (by lia))
  exact AJ (r3 ▸ r1.ty r2) q
 ·cases us with
  | nil=>exact absurd rfl hne
  | cons u us =>
   have h0:(List.map (fun _=>Value.type T) (u::us)).toArray[0]?=some (Value.type T):=by simp
   rw[h0];have hall:((List.map (fun _=>Value.type T) (u::us)).toArray.all fun x=>x == Value.type T)=true:=by
    simp only[List.all_toArray,List.all_map,BI];intro _ _;exact beq_self_eq_true _
   dsimp only;rw[hall,Af rfl];exact Ac q
theorem wv (r:RH s.heap u d) (h:d≠.non) (ht:tyD d≠"tuple") (q:Q none s):wpAny M A (firstOfTuple' u) Q E s:=by
 refine Aa (AJ (r.ty h) ?_);rw[Af (by rw[bne_iff_ne];intro e;injection e with e;exact ht e)]
 exact Ac q
theorem uv {its:List Value} (t:s.heap.IsTuple a its.toArray) (e:its=u::us) (q:Q (some u) s):wpAny M A (firstOfTuple' (.ref a)) Q E s:=by
 obtain⟨o,h1,h2,n,h3⟩:=t;refine Aa (AJ (T:="tuple") ⟨o,h1,h2⟩ ?_);rw[Ah (by rw[bne_iff_ne];intro z;exact z rfl)]
 refine Aa (AL h1 h3 ?_);subst e;exact Ac q
inductive Kd:List D->SortKind->Prop where
 | sc {ds:List D} {T:String}:T≠"tuple"->(∀d∈ds,d≠.non/\tyD d=T)->Kd ds oneType'
 | tp {ds:List D} {T:String}:(∀d∈ds,∃x xs,d=.tup (x::xs)/\x≠.non/\tyD x=T)->Kd ds (tuples' (T != "tuple"))
theorem GR {us:List Value} {ds:List D} (hne:us≠[]) (hl:us.length=ds.length) (r:∀(i:Nat) u d,us[i]?=some u->ds[i]?=some d->RH s.heap u d) (hk:Kd ds κ) (q:Q κ s) :
  wpAny M A (keyKind' us.toArray) Q E s:=by
 rw[keyKind'_eq];cases hk with
 | @sc T hT h =>
  refine Aa (sV (g:=fun _=>none) (fun v hv Q q=>?_) ?_)
  ·obtain⟨i,hi,rfl⟩:=Vi.mp hv;have hd:=h ds[i] (Qh _);exact wv (r i _ _ (Za hi) (Za (by lia))) hd.1 (by rw[hd.2];exact hT) q
  ·cases us with
   | nil=>exact absurd rfl hne
   | cons u us =>
    rw[Ah (by simp),Ah (by simp)]
    refine Aa (wu (T:=T) hne hl (fun i u d e1 e2=>⟨r i u d e1 e2,h d (Wa e2)⟩) ?_);exact Ac q
 | @tp T h =>
  have hx:∀(i:Nat) (hi:i<us.length),∃u0 x xs,(∀Q:Option Value->Shared->Prop,Q (some u0) s->wpAny M A (firstOfTuple' us[i]) Q E s)/\ds[i]?=some (.tup (x::xs))/\RH s.heap u0 x/\x≠.non/\tyD x=T:=fun i hi=>by
   have hd:i<ds.length:=by lia
   obtain⟨x,xs,e,h1,h2⟩:=h ds[i] (Qh _);have rr:=r i us[i] ds[i] (Za hi) (Za hd);rw[e]at rr;generalize us[i]=v at rr;cases rr with
   | @tup a its _ t hl f =>
    cases its with
    | nil=>simp at hl
    | cons u0 ur=>exact⟨u0,x,xs,fun Q q=>uv t rfl q,by rw[Za hd,e],f 0 u0 x rfl rfl,h1,h2⟩
  have hf:∃fs:List Value,fs.length=us.length/\(∀Q:Array (Option Value)->Shared->Prop,Q (fs.map some).toArray s->wpAny M A (us.toArray.mapM firstOfTuple') Q E s)/\∀(i:Nat) u,fs[i]?=some u->∃x,RH s.heap u x/\x≠.non/\tyD x=T:=by
   have:∀l:List Value,(∀v∈l,∃u0 x,(∀Q:Option Value->Shared->Prop,Q (some u0) s->wpAny M A (firstOfTuple' v) Q E s)/\RH s.heap u0 x/\x≠.non/\tyD x=T) ->
     ∃fs:List Value,fs.length=l.length/\(∀Q:List (Option Value)->Shared->Prop,Q (fs.map some) s->wpAny M A (l.mapM firstOfTuple') Q E s)/\∀(i:Nat) u,fs[i]?=some u->∃x,RH s.heap u x/\x≠.non/\tyD x=T:=fun l=>by
    induction l with
    | nil=>exact fun _=>⟨[],rfl,fun Q q=>by rw[List.mapM_nil];exact Ac q,fun i u e=>by simp at e⟩
    | cons v l ih =>
     intro hv;obtain⟨fs,f1,f2,f3⟩:=ih fun u hu=>hv u (Vb _ hu);obtain⟨u0,x,g1,g2⟩:=hv v Xb;refine⟨u0::fs,by simp[f1],fun Q q=>?_,fun i u e=>?_⟩
     ·rw[List.mapM_cons];exact Aa (g1 _ (Aa (f2 _ (Ac q))))
     ·cases i with
      | zero =>
       have:u0=u:=by simpa using e
       subst this;exact⟨x,g2⟩
      | succ i=>exact f3 i u (by simpa using e)
   obtain⟨fs,f1,f2,f3⟩:=this us fun v hv=>by
    obtain⟨i,hi,rfl⟩:=Vi.mp hv;obtain⟨u0,x,xs,a1,_,a2⟩:=hx i hi;exact⟨u0,x,a1,a2⟩
   refine⟨fs,f1,fun Q q=>?_,f3⟩;rw[List.mapM_toArray,map_eq_pure_bind];exact Aa (f2 _ (Ac q))
  obtain⟨fs,f1,f2,f3⟩:=hf;refine Aa (f2 _ ?_);rw[Af (by simp)]
  refine Aa (AU ?_);have e1:(fs.map some).toArray.filterMap id=fs.toArray:=by simp
  rw[e1];have hne':fs≠[]:=fun z=>by
   rw[z]at f1;exact hne (Yk f1.symm)
  obtain⟨xs,hxs,hxx⟩:∃xs:List D,fs.length=xs.length/\∀(i:Nat) u d,fs[i]?=some u->xs[i]?=some d->RH s.heap u d/\d≠.non/\tyD d=T:=by
   have:∀l:List Value,(∀(i:Nat) u,l[i]?=some u->∃x,RH s.heap u x/\x≠.non/\tyD x=T)->∃xs:List D,l.length=xs.length/\∀(i:Nat) u d,l[i]?=some u->xs[i]?=some d->RH s.heap u d/\d≠.non/\tyD d=T:=fun l=>by
    induction l with
    | nil=>exact fun _=>⟨[],rfl,fun i u d e=>by simp at e⟩
    | cons v l ih =>
     intro hv;obtain⟨xs,x1,x2⟩:=ih fun i u e=>hv (i+1) u (by simpa using e)
     obtain⟨x,hx⟩:=hv 0 v rfl;refine⟨x::xs,by simp[x1],fun i u d e1 e2=>?_⟩
     cases i with
     | zero =>
      have a1:v=u:=by simpa using e1
      have a2:x=d:=by simpa using e2
      subst a1 a2;exact hx
     | succ i=>exact x2 i u d (by simpa using e1) (by simpa using e2)
   exact this fs f3
  refine Aa (wu (T:=T) hne' hxs hxx ?_);have e2:(Option.any (fun x=>x != Value.type "tuple") (some (Value.type T)))=(T != "tuple"):=by
   show(Value.type T != Value.type "tuple")=_;rw[Vf,bne_iff_ne,bne_iff_ne];constructor
   ·exact fun h e=>h (by rw[e])
   ·exact fun h e=>h (by injection e)
  rw[e2];exact Ac q
end
end VF
namespace VF
open PySem L2 PyProof.Rows TS
section
variable {prog:Program} {w:World} {A:Around} {E:Value->Shared->Prop} {s:Shared}
theorem RH.kept {h h':Heap} (k:∀b o,h.get? b=some o->h'.get? b=some o) (r:RH h u d):RH h' u d:=by
 induction r with
 | non=>exact .non
 | int i t=>exact .int i t
 | str x t=>exact .str x t
 | tup t hl _ ih=>obtain⟨o,h1,h2⟩:=t;exact .tup ⟨o,k _ o h1,h2⟩ hl ih
 | lst t hl _ ih=>obtain⟨o,h1,h2⟩:=t;exact .lst ⟨o,k _ o h1,h2⟩ hl ih
def dk (ds:List D) (g:Nat):D:=ds.getD g (ds.headD .non)
theorem nq (h:ds[g]?=some d):dk ds g=d:=by
 unfold dk;rw[Xc,h];rfl
theorem fO (h:ds≠[]) (g:Nat):dk ds g∈ds:=by
 cases e:ds[g]? with
 | some d=>rw[nq e];exact Wa e
 | none =>
  cases ds with
  | nil=>exact absurd rfl h
  | cons x xs =>
   unfold dk;rw[Xc,e];simp
noncomputable def cD (ds:List D) (g h:Nat):Bool:=ltN 40 (dk ds g) (dk ds h)
theorem ww (h:Cp n d e) (ht:tyD d≠"tuple"):(∃i j,d=.int i/\e=.int j)∨∃x y,d=.str x/\e=.str y:=by
 cases n with
 | zero=>exact h.elim
 | succ n =>
  cases d with
  | int i =>
   cases e with
   | int j=>exact .inl ⟨i,j,rfl,rfl⟩
   | _=>exact h.elim
  | str x =>
   cases e with
   | str y=>exact .inr ⟨x,y,rfl,rfl⟩
   | _=>exact h.elim
  | tup xs=>exact absurd rfl ht
  | _=>exact h.elim
theorem yI {us vs:List Value} {ds:List D} (hl:us.length=ds.length) (r:∀(i:Nat) u d,us[i]?=some u->ds[i]?=some d->RH s.heap u d) (pl:∀d∈ds,Pl 40 d) (ca:CA 40 ds) (hk:Kd ds κ) (hu:A.units+40<cLine) :
  Cm prog w A s κ (fun g=>(us.getD g .none,vs.getD g .none)) us.length (cD ds):=by
 refine⟨fun E Q g h hg hh q=>?_,fun g=>kI _ _,fun g h i h1 h2=>?_,fun g h i h1=>?_⟩
 ·have eg:us[g]?=some us[g]:=Za hg;have eh:us[h]?=some us[h]:=Za hh;have dg:ds[g]?=some ds[g]:=Za (by lia)
  have dh:ds[h]?=some ds[h]:=Za (by lia)
  have q':Q (ltN 40 ds[g] ds[h]) s:=by unfold cD at q;rw[nq dg,nq dh]at q;exact q
  have rg:=r g _ _ eg dg;have rh:=r h _ _ eh dh;have mg:=Wa dg;have mh:=Wa dh;have cp:=ca _ mg _ mh;show wpAny (model prog w) A (keyLt' κ (us.getD g .none) (us.getD h .none)) Q E s;rw[Xc,Xc,eg,eh];show wpAny (model prog w) A (keyLt' κ us[g] us[h]) Q E s;generalize us[g]=ug at rg;generalize us[h]=uh at rh;generalize ds[g]=a at *;generalize ds[h]=b at *;cases hk with
  | @sc T hT hd =>
   rw[keyLt'_oneType];rcases ww cp (by rw[(hd a mg).2];exact hT) with⟨i,j,rfl,rfl⟩|⟨x,y,rfl,rfl⟩
   ·cases rg;cases rh;exact sQ true prog w E Q q'
   ·cases rg;cases rh;exact sR true prog w E Q q'
  | @tp T hd =>
   obtain⟨x,xs,rfl,nx,tx⟩:=hd a mg;obtain⟨y,ys,rfl,ny,ty⟩:=hd b mh;refine wt (n:=39) (pl _ mg) (pl _ mh) cp rg rh (by lia) ⟨_,rfl⟩ (fun hb=>?_) q'
   have hT:T≠"tuple":=by rwa [bne_iff_ne]at hb
   rcases ww (cp 0 x y rfl rfl) (by rw[tx];exact hT) with⟨i,j,rfl,rfl⟩|⟨x,y,rfl,rfl⟩
   ·exact .inl ⟨trivial,trivial⟩
   ·exact .inr ⟨trivial,trivial⟩
 ·by_cases hne:ds=[]
  ·subst hne;have:cD [] g h=false:=kI 40 .non;rw[this]at h1;cases h1
  ·exact(lM 40).tra (ca _ (fO hne g) _ (fO hne h)) (ca _ (fO hne h) _ (fO hne i)) (ca _ (fO hne g) _ (fO hne i)) h1 h2
 ·by_cases hne:ds=[]
  ·subst hne;have:cD [] g i=false:=kI 40 .non;rw[this]at h1;cases h1
  ·exact ca.neg (fO hne g) (fO hne h) (fO hne i) h1
def bW (vs:List Value) (γ:Array Nat):Array Value:=γ.map fun g=>vs.getD g .none
theorem nr {vs : List Value} {ds : List D} (ho : s.heap.get? a = some (seqObj "list" vs.toArray n)) (hz : vs.length ≤ sizeLine)
    (hl : vs.length = ds.length) (r : ∀ (i : Nat) u d, vs[i]? = some u → ds[i]? = some d → RH (((s.heap.update a (Obj.mapSeq fun _ => #[])).push (seqObj "tuple" vs.toArray 0)).push (seqObj "list" #[] 0)) u d)
    (pl : ∀ d ∈ ds, Pl 40 d) (ca : CA 40 ds) (hk : Kd ds κ) (hu : A.units + 40 < cLine)
    (fin : ∀ γ : Array Nat, γ.Perm (Array.range vs.length) → Sg (cD ds) γ 0 vs.length → P (.done (.ret .none)) { s with heap := sortedHeap s.heap a vs (bW vs γ) }) :
    wpAny (model prog w) A (Builtin.«list.sort» ⟨[.ref a], []⟩) P E s := by
  rw [list_sort_plain];have small := Aj ho;refine Aa (AL ho rfl (Aa (Bz ho rfl ?_)));obtain ⟨ep, hE⟩ : ∃ ep, (s.heap.update a (Obj.mapSeq fun _ => #[])).get? a = some (seqObj "list" #[] ep) := ⟨_, get?_update_seq ho (fun _ => #[])⟩;refine Aa (seqEpoch_at hE rfl (Aa (wpAny_newTuple (Aa (B6 (Aq ?_))))));have hE2 : (((s.heap.update a (Obj.mapSeq fun _ => #[])).push (seqObj "tuple" vs.toArray 0)).push (seqObj "list" #[] 0)).get? a = some (seqObj "list" #[] ep) :=
    Ad _ (Ad _ hE)
  generalize hH : ((s.heap.update a (Obj.mapSeq fun _ => #[])).push (seqObj "tuple" vs.toArray 0)).push (seqObj "list" #[] 0) = h6 at r hE2;show wpAny (model prog w) A _ P E { s with heap := h6 };dsimp only;have hsz : vs.toArray.size = vs.length := by simp
  have zs : ∀ γ : Array Nat, γ.Perm (Array.range vs.length) → (bW vs γ).size ≤ sizeLine + 1 := fun γ p => by
    unfold bW;rw [CP, p.size_eq, A9]; lia
  have done : ∀ γ : Array Nat, γ.Perm (Array.range vs.length) → Sg (cD ds) γ 0 vs.length → P (.done (.ret .none)) { s with heap := h6.update a (Obj.mapSeq fun _ => bW vs γ) } := fun γ p g => by
    have := fin γ p g;unfold sortedHeap at this;rw [← hH]; exact this
  have e0 : vs.toArray.zip vs.toArray = (Array.range vs.length).map fun g => (vs.getD g .none, vs.getD g .none) := by
    apply Array.ext_getElem?
    intro i;rw [Br, Array.getElem?_range];by_cases hi : i < vs.length
    · rw [Af hi]; simp [hi]
    · rw [Ah hi]; simp [hi]
  by_cases few : vs.toArray.size < 2
  · rw [Af few, Af few]
    refine Aa (Ac ?_);rw [StateT.run_pure];refine Aa (Ac ?_);dsimp only;have em : (vs.toArray.zip vs.toArray).map (fun x => x.2) = bW vs (Array.range vs.length) := by
      rw [e0, Array.map_map]; rfl
    refine Aa (seqEpoch_at hE2 rfl (Aa (Bz hE2 rfl ?_ (hsz2 := ?_))))
    · simp only [bne_self_eq_false, Cc, if_false]
      refine Ac ?_;rw [em];exact done _ (Array.Perm.refl _) fun i j g h z1 z2 z3 => by lia
    · rw [em]; exact zs _ (Array.Perm.refl _)
  · rw [Ah few, Ah few]
    have hne : vs ≠ [] := fun z => few (by rw [z]; decide)
    refine Aa (GR (s := { s with heap := h6 }) hne hl r hk ?_);have C : Cm prog w A { s with heap := h6 } κ (fun g => (vs.getD g .none, vs.getD g .none)) vs.length (cD ds) := yI (s := { s with heap := h6 }) hl r pl ca hk hu
    refine Aa (AC (yG (st := SortSt.mk' κ (vs.toArray.zip vs.toArray) #[] 7 none) C (γ := Array.range vs.length) ⟨e0, rfl, rfl, Array.Perm.refl _⟩ rfl (fun i _ z => by rw [Array.getElem?_range, Af z])
      (Q := fun _ st' => ∃ γ, Rp κ (fun g => (vs.getD g .none, vs.getD g .none)) vs.length st' γ ∧ Sg (cD ds) γ 0 vs.length) fun st' γ' R g => ⟨γ', R, g⟩) ?_ fun _ _ e => e)
    rintro ⟨⟨⟩, st'⟩ s' ⟨rfl, γ, R, g⟩;dsimp only;have em : (arrOf st').map (fun x => x.2) = bW vs γ := by
      rw [R.arr, Array.map_map]; rfl
    refine Aa (seqEpoch_at hE2 rfl (Aa (Bz hE2 rfl ?_ (hsz2 := ?_))))
    · rw [show failedOf st' = none from R.fine]
      simp only [bne_self_eq_false, Cc, if_false];refine Ac ?_;show P (.done (.ret .none)) { s with heap := h6.update a (Obj.mapSeq fun _ => (arrOf st').map (fun x => x.2)) };rw [em];exact done γ R.perm g
    · show ((arrOf st').map (fun x => x.2)).size ≤ sizeLine + 1
      rw [em]; exact zs γ R.perm
end
end VF
namespace VF
open PySem L2 PyProof.Rows TS
section
variable {prog:Program} {w:World} {A:Around} {E:Value->Shared->Prop} {s:Shared}
theorem pY {vs:List Value} (hl:s.heap.IsList l vs.toArray∨s.heap.IsTuple l vs.toArray) (hz:vs.length<=sizeLine)
  (q:Q vs { s with heap:=(s.heap.push (seqObj "list" #[] 0)).update s.heap.objs.size (Obj.mapSeq (·++vs.toArray)) }):wpAny (model prog w) A (collect (.ref l)) Q E s:=by
 rcases hl with hl|hl
 ·exact collect_list hl q hz
 obtain⟨o,ho,hc,m,hd⟩:=id hl;have kept:=Ad (seqObj "list" #[] 0) ho;have new:(s.heap.push (seqObj "list" #[] 0)).get? s.heap.objs.size=some (seqObj "list" #[] 0):=Al _ rfl;unfold collect;refine Aa (wpAny_runValue (BR entry_proto_collect' ?_));refine Aa (B6 (Ac ⟨Code.quiet_builtin _ (by decide +kernel),BR entry_list_iadd' ?_⟩))
 show wpAny _ _ (Builtin.List.listExtendWith (.ref s.heap.objs.size) (.ref l) (.ref s.heap.objs.size)) _ _ { s with heap:=s.heap.push (seqObj "list" #[] 0) };unfold Builtin.List.listExtendWith;refine Aa (AJ (T:="tuple") ⟨o,kept,hc⟩ ?_);rw[Af (by rw[show(Value.type "tuple" == Value.type "tuple")=true from rfl,Bool.or_true])]
 refine Aa (AL kept hd (Aa (AL new rfl ?_)));rw[Ah (by simp)]
 have room:((#[]:Array Value)++vs.toArray).size<=sizeLine+1:=by
  rw[Array.size_append,Wb];simp;lia
 refine Aa (Bz new rfl ?_ (Wh _) room);refine Ac ?_;have at':=get?_update_seq new (fun x=>x++vs.toArray);refine Aa (wpAny_load at' ?_);show wpAny _ _ (pure ((#[]:Array Value)++vs.toArray).toList) Q E _;have e:((#[]:Array Value)++vs.toArray).toList=vs:=by simp
 rw[e];exact Ac q
theorem pZ {vs:List Value} {ds:List D} (hl:s.heap.IsList l vs.toArray∨s.heap.IsTuple l vs.toArray) (hz:vs.length<=sizeLine)
  (hn:vs.length=ds.length) (r:∀(i:Nat) u d,vs[i]?=some u->ds[i]?=some d->RH s.heap u d) (pl:∀d∈ds,Pl 40 d) (ca:CA 40 ds) (hk:Kd ds κ) (hu:A.units+64<cLine)
  (fin:∀γ:Array Nat,γ.Perm (Array.range vs.length)->Sg (cD ds) γ 0 vs.length->Q (.ref (s.heap.objs.size+1)) { s with heap:=sortedAll s.heap vs (bW vs γ) }) :
  wpAny (model prog w) A (call (.builtin "sorted") [.ref l]) Q E s:=by
 refine CQ kind_sorted plain_sorted entry_sorted (args_sorted1 _) ?_;refine Aa (m:=checkCount "sorted" 1 1 _) (Ac (Aa (pY hl hz (Aa (B6 ?_)))));generalize hg:(s.heap.push (seqObj "list" #[] 0)).update s.heap.objs.size (Obj.mapSeq (·++vs.toArray))=h1;have z1:h1.objs.size=s.heap.objs.size+1:=by rw[← hg,Heap.size_update,size_push']
 have old:∀b o,s.heap.get? b=some o->h1.get? b=some o:=fun b o e=>by
  rw[← hg];exact(B4 _ _ _ _ (Yg (Aj e))).trans (Ad _ e)
 have mine:(h1.push (seqObj "list" vs.toArray 0)).get? (s.heap.objs.size+1)=some (seqObj "list" vs.toArray 0):=by rw[← z1];exact Al _ rfl
 show wpAny _ _ _ _ _ { s with heap:=h1.push (seqObj "list" vs.toArray 0) };rw[z1];refine Aa (Aq (Az slot_list_sort ⟨_,mine,rfl⟩ entry_list_sort ?_ (args_list_sort _)));refine nr (s:={ s with heap:=h1.push (seqObj "list" vs.toArray 0) }) mine hz hn (fun i u d e1 e2=>(r i u d e1 e2).kept fun b o e=>?_) pl ca hk (by show A.units+1+1+40<cLine;lia) fun γ p g=>?_
 ·have hb:=Aj e;refine Ad _ (Ad _ ?_);have hne:b≠s.heap.objs.size+1:=Yg (Bv hb);exact(B4 _ _ _ _ hne).trans (Ad _ (old b o e))
 ·refine⟨_,rfl,Ac ⟨_,rfl,?_⟩⟩;have:=fin γ p g;unfold sortedAll at this;rw[hg]at this;exact this
end
theorem wx {ds:List D} {γ:Array Nat} (ca:CA 40 ds) (p:γ.Perm (Array.range ds.length)) (g:Sg (cD ds) γ 0 ds.length):(γ.toList.map (dk ds))=gx 40 ds:=by
 have hsz:γ.size=ds.length:=by rw[p.size_eq,A9]
 refine iG ca ?_ ?_
 ·have p1:(γ.toList.map (dk ds)).Perm ((List.range ds.length).map (dk ds)):=by
   have:=Array.perm_iff_toList_perm.mp p;rw[Cd]at this;exact this.map _
  have e:(List.range ds.length).map (dk ds)=ds:=by
   refine BH (by simp) fun i h1 h2=>?_
   rw[AO,List.getElem_range,nq (Za h2)]
  rwa [e]at p1
 ·unfold Srt;rw[Vh,Zk];intro i j hi hj hij;rw[Xd]at hi hj;have b:=g i j γ.toList[i] γ.toList[j] (Wh _) hij (by lia) (by rw[← Xh];exact Za _) (by rw[← Xh];exact Za _)
  rcases b with b|b
  ·exact om _ _ _ b
  ·exact b.1
section
variable {X:Cx} {K:Ab} {Y:AS} {H:Hp}
def wy (K:Ab):List V->Hp->VK->Prop:=fun xs H Q=>∃(Y:AS) (v:V) (d:D) (ds:List D) (κ:SortKind),xs=[v]/\BA K Y H v d/\d.seq=some ds/\(∀x∈ds,Pl 40 x)/\CA 40 ds/\Kd ds κ /\
 ∀(p:Addr) (vs:List V),H p=none->El K Y H vs (gx 40 ds)->Q (.ref p) (upd H p (.lst vs))
theorem lN (h:X.K=K) (hr:Room n X.A):CallR X (.builtin "sorted") (wy K):=by
 intro pins s σ H xs us Q I rv hh;obtain⟨Y,v,d,ds,κ,rfl,ba,hs,pl,ca,hk,q⟩:=hh;obtain⟨u,rfl,ru⟩:=vals1 rv;obtain⟨a,vs,rfl,sq,el⟩:=lA ba hs;cases ru;have main:∀its:List Value,Vals vs its->(s.heap.IsList a its.toArray∨s.heap.IsTuple a its.toArray)->vs.length<=sizeLine->wpAny (model X.prog X.w) X.A (call (.builtin "sorted") [.ref a]) (EP X pins σ Q) X.xe s:=fun its r t hz=>by
  have hn:its.length=ds.length:=r.length.symm.trans el.1;have rr:∀(i:Nat) u d,its[i]?=some u->ds[i]?=some d->RH s.heap u d:=fun i u d e1 e2=>by
   obtain⟨v,e3,rv⟩:=eB r i u e1;exact(el.2 i v d e3 e2).rh (pl d (Wa e2)) I h rv
  have hz':its.length<=sizeLine:=by rw[← r.length];exact hz
  refine pZ t hz' hn rr pl ca hk hr.units fun γ p g=>?_;rw[hn]at p g;obtain⟨e,he⟩:=sortedAll_at s.heap its (bW its γ);have hγ:∀g∈γ.toList,g<ds.length:=fun g hg=>by
   have:=(Array.perm_iff_toList_perm.mp p).mem_iff.mp hg;rw[Cd]at this;exact Vd.mp this
  have eo:=wx ca p g
  let ws:List V:=γ.toList.map fun g=>vs.getD g .non
  have vw:Vals ws (bW its γ).toList:=by
   have e2:(bW its γ).toList=γ.toList.map fun g=>its.getD g .none:=by unfold bW;simp
   rw[e2];have:∀l:List Nat,(∀g∈l,g<ds.length)->Vals (l.map fun g=>vs.getD g .non) (l.map fun g=>its.getD g .none):=fun l=>by
    induction l with
    | nil=>exact fun _=>.nil
    | cons g l ih =>
     intro hl;have hg:g<ds.length:=hl g Xb;have a1:its[g]?=some its[g]:=Za (by lia)
     obtain⟨v,e3,rv⟩:=eB r g _ a1;refine .cons ?_ (ih fun x hx=>hl x (Vb _ hx));show RelV (vs.getD g .non) (its.getD g .none);rw[Xc,Xc,e3,a1];exact rv
   exact this _ hγ
  have elw:El K Y H ws (gx 40 ds):=by
   rw[← eo];refine⟨by simp[ws],fun i v d h1 h2=>?_⟩
   rw[Qb]at h1 h2;obtain⟨g1,k1,k2⟩:=Zd.mp h1;obtain⟨g2,k3,k4⟩:=Zd.mp h2;rw[k1]at k3;cases k3;have hg:g1<ds.length:=hγ g1 (Wa k1);have d1:ds[g1]?=some ds[g1]:=Za hg;obtain⟨v',e3,da⟩:=el.at d1;rw[nq d1]at k4;rw[Xc,e3]at k2;subst k4;have:v'=v:=k2;subst this;exact da
  have hlw:ws.length=ds.length:=by
   show(γ.toList.map _).length=_;rw[Ya,Xd,p.size_eq,A9]
  refine⟨.ref (s.heap.objs.size+1),upd H (s.heap.objs.size+1) (.lst ws),I.laid (t':=s.toks) (fun b o z=>sortedAll_old z) (Nat.le_succ _) ⟨by lia,(bW its γ).toList,e,vw,by simpa using he⟩,rfl,q _ ws (I.hok.fresh (Nat.le_succ _)) elw⟩
 rcases sq with sq|sq
 ·obtain⟨its,r,t,hz⟩:=I.list (h ▸ sq);exact main its r (.inl t.isList) hz
 ·obtain⟨its,r,t,hz⟩:=I.tuple (h ▸ sq);exact main its r (.inr t) hz
open Classical in
noncomputable def fP:List D->Option Rz
 | [d]=>match d.seq with
  | some ds=>if (∀x∈ds,Pl 40 x)/\CA 40 ds/\∃κ,Kd ds κ then some (.lst (gx 40 ds),true) else none
  | none=>none
 | _=>none
theorem p6:RdCB K (wy K) fP:=by
 intro Y H xs ds z Q lv bs e q;cases bs with
 | nil=>cases e
 | @cons v vs d ds b1 bs =>
  cases bs with
  | cons _ _=>cases e
  | nil =>
   unfold fP at e;dsimp only at e;split at e
   ·rename_i xs hs
    obtain⟨c,e⟩:=aD e;cases e;obtain⟨c1,c2,κ,c3⟩:=c;exact⟨Y,v,d,xs,κ,rfl,b1,hs,c1,c2,c3,fun p ws hp el=>q _ _ (aR hp _) (fI el hp)⟩
   ·cases e
end
end VF
namespace VF22
open PySem PySem.Spec PyProof.Rows L2 VF
def uw:D->Option Key
 | .int i=>some (.inl i)
 | .str x=>some (.inr x)
 | _=>none
def j7:List D->Option (List Key)
 | []=>some []
 | d::r=>(uw d).bind fun k=>(j7 r).bind fun ks=>some (k::ks)
section
variable {κ:Type} [DecidableEq κ]
def cb (kvs:List (κ×D)) (k:κ):Option D:=(kvs.find? fun kv=>decide (kv.1=k)).map (·.2)
def mL (kvs:List (κ×D)) (k:κ) (d:D):List (κ×D):=if (kvs.any fun kv=>decide (kv.1=k))=true then kvs.map (fun kv=>if kv.1=k then(kv.1,d) else kv) else kvs++[(k,d)]
def Go (R:V->D->Prop) (kvs:List (κ×V)) (ds:List (κ×D)):Prop:=kvs.map (·.1)=ds.map (·.1)/\∀(i:Nat) v d,kvs[i]?=some v->ds[i]?=some d->R v.2 d.2
theorem Go.nil:Go R ([]:List (κ×V)) []:=⟨rfl,fun i v d h _=>by simp at h⟩
theorem Go.cons (h1:p.1=q.1) (h2:R p.2 q.2) (t:Go R kvs ds):Go R (p::kvs) (q::ds):=by grind [Go]
theorem Go.un (h:Go R (p::kvs) (q::ds)):p.1=q.1/\R p.2 q.2/\Go R kvs ds:=by
 obtain⟨h1,h2⟩:=h;rw[Wd,Wd]at h1;injection h1 with a b;exact⟨a,h2 0 p q rfl rfl,b,fun i v d x y=>h2 (i+1) v d x y⟩
theorem Go.look:∀{kvs:List (κ×V)} {ds:List (κ×D)} (k:κ),Go R kvs ds->(gk kvs k=none/\cb ds k=none)∨∃v d,gk kvs k=some v/\cb ds k=some d/\R v d
 | [],[],_,_=>.inl ⟨rfl,rfl⟩
 | [],_::_,_,h=>by have:=h.1;simp at this
 | _::_,[],_,h=>by have:=h.1;simp at this
 | p::ps,q::qs,k,h=>by
  obtain⟨h1,h2,h3⟩:=h.un;by_cases e:p.1=k
  ·refine .inr ⟨p.2,q.2,gl e,?_,h2⟩;simp[cb,Yh,h1.symm.trans e]
  ·have e':¬ q.1=k:=fun z=>e (h1.trans z);rw[gm e,show cb (q::qs) k=cb qs k by simp[cb,Yh,e']]
   exact h3.look k
theorem Go.any {kvs:List (κ×V)} {ds:List (κ×D)} (h:Go R kvs ds) (k:κ):(kvs.any fun kv=>decide (kv.1=k))=ds.any fun kv=>decide (kv.1=k):=by
 have a:∀l:List (κ×V),(l.any fun kv=>decide (kv.1=k))=(l.map (·.1)).any fun x=>decide (x=k):=fun l=>by rw[Ck];rfl
 rw[a,h.1,Ck];rfl
theorem Go.repl (k:κ) (r:R y d):∀{kvs:List (κ×V)} {ds:List (κ×D)},Go R kvs ds->Go R (kvs.map fun kv=>if kv.1=k then(kv.1,y) else kv) (ds.map fun kv=>if kv.1=k then(kv.1,d) else kv)
 | [],[],_=>Go.nil
 | [],_::_,h=>by have:=h.1;simp at this
 | _::_,[],h=>by have:=h.1;simp at this
 | p::ps,q::qs,h=>by
  obtain⟨h1,h2,h3⟩:=h.un;rw[Wd,Wd];by_cases e:p.1=k
  ·rw[Af e,Af (h1.symm.trans e)];exact Go.cons h1 r (h3.repl k r)
  ·rw[Ah e,Ah fun z=>e (h1.trans z)];exact Go.cons h1 h2 (h3.repl k r)
theorem Go.snoc (k:κ) (r:R y d):∀{kvs:List (κ×V)} {ds:List (κ×D)},Go R kvs ds->Go R (kvs++[(k,y)]) (ds++[(k,d)])
 | [],[],_=>Go.cons rfl r Go.nil
 | [],_::_,h=>by have:=h.1;simp at this
 | _::_,[],h=>by have:=h.1;simp at this
 | p::ps,q::qs,h=>by
  obtain⟨h1,h2,h3⟩:=h.un;exact Go.cons h1 h2 (h3.snoc k r)
theorem Go.put (k:κ) (h:Go R kvs ds) (r:R y d):Go R (putK kvs k y) (mL ds k d):=by
 unfold putK mL;rw[h.any k];split
 ·exact h.repl k r
 ·exact h.snoc k r
theorem Go.len {kvs:List (κ×V)} {ds:List (κ×D)} (h:Go R kvs ds):kvs.length=ds.length:=by
 have:=congrArg List.length h.1;rwa [Ya,Ya]at this
theorem Go.map (h:Go R kvs ds) (f:∀v d,R v d->S v d):Go S kvs ds:=⟨h.1,fun i v d a b=>f _ _ (h.2 i v d a b)⟩
end
section
variable {K:Ab} {Y:AS} {H:Hp}
theorem GS (h:DA K Y H v d) (e:uw d=some k):v=kV k:=by
 cases d with
 | int i=>cases e;cases h;rfl
 | str x=>cases e;cases h;rfl
 | _=>cases e
theorem zQ (h:BA K Y H v d) (e:uw d=some k):v=kV k:=by
 cases d with
 | int i=>cases e;exact h
 | str x=>cases e;exact h
 | _=>cases e
theorem lO:∀{ds:List D} {vs:List V} {ks:List Key},El K Y H vs ds->j7 ds=some ks->vs=ks.map kV
 | [],vs,ks,h,e=>by
  cases e;obtain rfl:=h.unnil;rfl
 | d::r,vs,ks,h,e=>by
  refine bsO e fun k e1 e=>?_;refine bsO e fun ks' e2 e=>?_;cases e;obtain⟨v,vr,rfl,da,el⟩:=h.uncons;rw[GS da e1,lO el e2];rfl
def atD:D->D->Option (Option D)
 | .dt kvs,.tup ds=>(j7 ds).bind fun ks=>some (cb kvs ks)
 | .dk kvs,d=>(uw d).bind fun k=>some (cb kvs k)
 | _,_=>none
theorem GT (b1:BA K Y H x d1) (b2:BA K Y H y d2) (e:atD d1 d2=some o):∃(a:Addr) (r:Option V),x=.ref a/\DGet H a y r/\((r=none/\o=none)∨∃v d,r=some v/\o=some d/\DA K Y H v d):=by
 cases d1 with
 | dt kvs =>
  cases d2 with
  | tup ds =>
   refine bsO e fun ks e1 e=>?_;cases e;obtain⟨a,ep,kv,rfl,_,h1,h2,h3⟩:=b1;obtain⟨b,vs,rfl,t,el⟩:=b2;have:=lO el e1;subst this;exact⟨a,_,rfl,DGet.t h1 t.1,Go.look ks ⟨h2,h3⟩⟩
  | _=>cases e
 | dk kvs =>
  refine bsO e fun k e1 e=>?_;cases e;obtain⟨a,kv,rfl,h1,h2,h3⟩:=b1;have:=zQ b2 e1;subst this;exact⟨a,_,rfl,DGet.k h1,Go.look k ⟨h2,h3⟩⟩
 | _=>cases e
def rDG:R2:=fun x y H Q=>∃a v,x=.ref a/\DGet H a y (some v)/\Q v H
def p7:D->D->Option Rz:=fun d1 d2=>(atD d1 d2).bind fun o=>o.bind fun d=>some (d,false)
theorem on:RdOp K rDG p7:=by
 intro Y H x y d1 d2 z Q lv b1 b2 e q;refine bsO e fun o e1 e=>?_;obtain⟨d,rfl,e⟩:=Option.bind_eq_some_iff.mp e;cases e;obtain⟨a,r,rfl,g,h|⟨v,d',rfl,h2,da⟩⟩:=GT b1 b2 e1
 ·cases h.2
 ·cases h2;exact⟨a,v,rfl,g,q v H (Same.refl H) da⟩
def EU (neg:Bool):R2:=fun y x H Q=>∃(a:Addr) (o:Option V),x=.ref a/\DGet H a y o/\Q (.bl (if neg then !o.isSome else o.isSome)) H
def p8 (neg:Bool):D->D->Option Rz:=fun d2 d1=>(atD d1 d2).bind fun o=>some (.bl (if neg then !o.isSome else o.isSome),false)
theorem lP (neg:Bool):RdOp K (EU neg) (p8 neg):=by
 intro Y H y x d2 d1 z Q lv b2 b1 e q;refine bsO e fun o e1 e=>?_;cases e;obtain⟨a,r,rfl,g,h⟩:=GT b1 b2 e1;refine⟨a,r,rfl,g,?_⟩;have:r.isSome=o.isSome:=by
  rcases h with⟨rfl,rfl⟩|⟨v,d,rfl,rfl,_⟩<;>rfl
 rw[this];exact q _ H (Same.refl H) (.bl _)
def zR:xR:=fun x k v H Q=>∃a,x=.ref a/\Ga H a k v Q
def jb:D->D->D->Option D
 | .dt kvs,.tup ds,v=>(j7 ds).bind fun ks=>if kvs.length<100000 then some (.dt (mL kvs ks v)) else none
 | .dk kvs,d,v=>(uw d).bind fun k=>if kvs.length<100000 then some (.dk (mL kvs k v)) else none
 | _,_,_=>none
theorem ft:vt K zR jb:=by
 intro Y H p x k v dk dv x' Q hp ho bk da e q;have lim:(100000:Nat)<=sizeLine:=by rw[BW];decide
 cases x with
 | dt kvs =>
  cases dk with
  | tup ds =>
   refine bsO e fun ks e1 e=>?_;by_cases c:kvs.length<100000
   ·rw[Af c]at e;cases e;obtain⟨ep,kv,ka,h1,h2,h3⟩:=ho;obtain⟨b,vs,rfl,t,el⟩:=bk;have:=lO el e1;subst this;have g:Go (DA K Y H) kv kvs:=⟨h2,h3⟩;refine⟨p,rfl,.inr ⟨ep,kv,ks,b,h1,rfl,t.1,by have:=g.len;lia,fun n=>q _ ?_⟩⟩
    have g':=(g.put ks da).map (S:=DA K Y (upd H p (.dT (n,tU ep.2 kv ks b) (putK kv ks v)))) fun v d h=>h.upd hp;refine⟨(n,tU ep.2 kv ks b),_,KA.go (Y:=Y) (H:=H) (fun c hc=>?_) (fun c o e n=>by rw[aF fun z=>n (by rw[z];exact hp)];exact e) (fun c z=>.inl z),aM,g'.1,g'.2⟩
    unfold tU at hc;split at hc
    ·exact ka c hc
    ·rcases Zf.mp hc with hc|hc
     ·exact ka c hc
     ·rw[Qc.mp hc];exact⟨t.2,by rw[t.1];simp⟩
   ·rw[Ah c]at e;cases e
  | _=>cases e
 | dk kvs =>
  refine bsO e fun kk e1 e=>?_;by_cases c:kvs.length<100000
  ·rw[Af c]at e;cases e;obtain⟨kv,h1,h2,h3⟩:=ho;have:=zQ bk e1;subst this;have g:Go (DA K Y H) kv kvs:=⟨h2,h3⟩;refine⟨p,rfl,.inl ⟨kv,kk,h1,rfl,by have:=g.len;lia,q _ ?_⟩⟩
   have g':=(g.put kk da).map (S:=DA K Y (upd H p (.dK (putK kv kk v)))) fun v d h=>h.upd hp;exact⟨_,aM,g'.1,g'.2⟩
  ·rw[Ah c]at e;cases e
 | _=>cases e
def lQ (d:D):FE:=fun st=>some (.f d,st)
theorem jc:RdE K vb (lQ (.dt [])):=by
 intro st σ H O Z Q E r st' h q;cases h;intro p hp;have hres:RES K (U O Z) H (upd H p (.dT (0,[]) [])) (.ref p) (.dt [],true):=⟨p,rfl,hp,(0,[]),[],(fun _ z=>nomatch z),aM,rfl,fun i v d a _=>by simp at a⟩
 obtain⟨E3,rv⟩:=hres.rv E (aR hp _);exact q _ _ O (Same.ext (aR hp _)) (Kp.refl _) E3 rv fun p' e=>by cases e;exact hp
theorem wz:RdE K va (lQ (.dk [])):=by
 intro st σ H O Z Q E r st' h q;cases h;intro p hp;have hres:RES K (U O Z) H (upd H p (.dK [])) (.ref p) (.dk [],true):=⟨p,rfl,hp,[],aM,rfl,fun i v d a _=>by simp at a⟩
 obtain⟨E3,rv⟩:=hres.rv E (aR hp _);exact q _ _ O (Same.ext (aR hp _)) (Kp.refl _) E3 rv fun p' e=>by cases e;exact hp
end
section
variable {X:Cx}
theorem jd (hu:X.A.units+1<cLine) (ho:PE X o td) (hi:PE X i ty) (hs:DG i):PE X (.Subscript o i pos) (tOp rDG td ty):=xZ hu ho hi hs
theorem oq (hu:X.A.units+1<cLine):OpR X (compareOp .In) (EU false):=by
 intro pins s σ H y x v u Q I ry rx h;obtain⟨a,o,rfl,g,q⟩:=h;cases rx;exact G5 hu I g ry fun s' I'=>⟨.bl o.isSome,H,I',rfl,q⟩
theorem ux (hu:X.A.units+1<cLine):OpR X (compareOp .NotIn) (EU true):=by
 intro pins s σ H y x v u Q I ry rx h;obtain⟨a,o,rfl,g,q⟩:=h;cases rx;exact xX hu I g ry fun s' I'=>⟨.bl (!o.isSome),H,I',rfl,q⟩
theorem fu (hu:X.A.units+1<cLine):Du X zR:=by
 intro pins s σ H o i v ov iv u Q I ro ri rv h;obtain⟨a,rfl,g⟩:=h;cases ro;exact tW hu I g ri rv fun s' H' I' q=>⟨H',I',q⟩
end
end VF22
namespace VF22
open PySem PySem.Spec PyProof.Rows L2 VF
section
variable {prog:Program} {w:World} {A:Around} {E:Value->Shared->Prop} {s:Shared}
def RawD (h:Heap) (d:Addr) (es:Array DictEntry) (ep:Nat):Prop:=∃o,h.get? d=some o/\o.ExactDict/\o.data=.dict es ep
theorem RawD.at {h h':Heap} (x:RawD h d es ep) (e:∀o,h.get? d=some o->h'.get? d=some o):RawD h' d es ep:=let ⟨o,ho,r⟩:=x;⟨o,e _ ho,r⟩
theorem RawD.typeIs (x:RawD s.heap d es ep):s.TypeIs (.ref d) "dict":=let ⟨o,ho,c,_⟩:=x;⟨o,ho,c.1⟩
theorem p9 {es:Array DictEntry} (hd:(d == sysModules)=false) (hm:RawD s.heap d es ep)
  (q:Q (.ref s.heap.objs.size) { s with heap:=s.heap.push { cls:=.type "dict_keyiterator",data:=.fields #[.ref d,.int 0 0,.int es.size 0,.int ep 0] } }) :
  wpAny (model prog w) A (pyIter (.ref d)) Q E s:=by
 have ty:=hm.typeIs;obtain⟨o,ho,hc,dat⟩:=hm;refine wpAny_pyIter_slot ty F.slot_dict_iter (Az F.slot_dict_iter ty F.entry_dict_iter ?_ (F.args_dict_iter_1 _));unfold Builtin.«dict.__iter__»;refine Aa ?_;unfold Builtin.Dict.dictSlotNone;refine Aa (AZ ty ?_);show wpAny _ _ (pure (Value.ref d)) _ _ s;refine Ac ?_;show wpAny _ _ (Builtin.Dict.showsAll d >>= _) _ _ s;unfold Builtin.Dict.showsAll;rw[Ah (by rw[hd];exact Vc)]
 refine Aa (Ac (Aa (AB ho dat (Aa (Bd ho dat ?_)))));refine Aa (AA (Ac ⟨_,rfl,"dict_keyiterator",_,⟨_,Al _ rfl,rfl⟩,F.slot_dict_keyiterator_next.lookup,?_⟩));simpa[rawInt]using q
theorem qa {es:Array DictEntry} {x:DictEntry} (hit:s.heap.IsKeyIter it d i es.size ep) (hm:RawD s.heap d es ep) (hx:es[i]?=some x)
  (q:∀h',h'.IsKeyIter it d (i+1) es.size ep->Heap.SameBut it s.heap h'->Q (some x.key) { s with heap:=h' }):wpAny (model prog w) A (pyNext (.ref it)) Q E s:=by
 obtain⟨o,ho,hc,hd⟩:=id hit;obtain⟨od,hod,hcd,hdd⟩:=hm;unfold pyNext;refine Aa (wpAny_attempt (AW (name:=Str.ofString "__next__") hit.typeIs F.slot_dict_keyiterator_next (Az F.slot_dict_keyiterator_next hit.typeIs F.entry_dict_keyiterator_next ?_ (F.args_dict_keyiterator_next_1 _))));refine Aa (Ac (Aa (Aa ?_)));refine Aa (AI hit.typeIs (Ac (Aa (wpAny_fieldsOf ho hd ?_))));have own:Builtin.Dict_items.ownsTuple "dict_keyiterator"=false:=by decide
 simp only[own,Ze,if_false];show wpAny _ _ (if (Value.ref d == Value.none)=true then _ else _) _ _ s;rw[Ah (show ¬ ((Value.ref d == Value.none)=true) from Vc)];refine Aa (Ac (Aa (AB hod hdd ?_)));rw[Ah (by simp)];refine Aa (Ac (Aa (Bd hod hdd ?_)))
 rw[Ah (by simp)];refine Ac ?_
 have hlt:i<es.size:=(Array.getElem?_eq_some_iff.mp hx).1;have ex:es[i]=x:=(Array.getElem?_eq_some_iff.mp hx).2;simp only[show ¬ ((i:Int)<0) from by lia,if_false,Bw,hx]
 refine Aa (Aa (AI hit.typeIs (Ac (Aa (wpAny_isOneOf_keyiter hit.typeIs ?_)))));show wpAny _ _ (setField (.ref it) 1 (rawInt ((i:Int)+1)) >>= _) _ _ s;refine Aa (wpAny_setField ho hd (by simp) ?_)
 have hit':(s.heap.update it (Obj.mapFields (·.setIfInBounds 1 (rawInt ((i:Int)+1))))).IsKeyIter it d (i+1) es.size ep:=⟨_,BU _ ho (Obj.isFreed_of_fields (Obj.data_mapFields hd _)),(Obj.cls_mapFields ..).trans hc,by rw[Obj.data_mapFields hd];simp[rawInt]⟩
 refine Aa (Aq (Aa (wpAny_isOneOf_keyiter (s:={ s with heap:=s.heap.update it (Obj.mapFields (·.setIfInBounds 1 (rawInt ((i:Int)+1)))) }) hit'.typeIs ?_)));show wpAny _ _ (pure x.key) _ _ _;exact Ac (Ac ⟨_,rfl,Ac (q _ hit' (Bh ..))⟩)
theorem sW {es:Array DictEntry} (hh:A.handled=none) (hit:s.heap.IsKeyIter it d i es.size ep) (hm:RawD s.heap d es ep) (hx:es.size<=i)
  (q:∀h',Heap.ExtBut it s.heap h'->Q none { s with heap:=h' }):wpAny (model prog w) A (pyNext (.ref it)) Q E s:=by
 obtain⟨o,ho,hc,hd⟩:=id hit;obtain⟨od,hod,hcd,hdd⟩:=hm;unfold pyNext;refine Aa (wpAny_attempt (AW (name:=Str.ofString "__next__") hit.typeIs F.slot_dict_keyiterator_next (Az F.slot_dict_keyiterator_next hit.typeIs F.entry_dict_keyiterator_next ?_ (F.args_dict_keyiterator_next_1 _))));refine Aa (Ac (Aa (Aa ?_)));refine Aa (AI hit.typeIs (Ac (Aa (wpAny_fieldsOf ho hd ?_))));have own:Builtin.Dict_items.ownsTuple "dict_keyiterator"=false:=by decide
 simp only[own,Ze,if_false];show wpAny _ _ (if (Value.ref d == Value.none)=true then _ else _) _ _ s;rw[Ah (show ¬ ((Value.ref d == Value.none)=true) from Vc)];refine Aa (Ac (Aa (AB hod hdd ?_)));rw[Ah (by simp)];refine Aa (Ac (Aa (Bd hod hdd ?_)))
 rw[Ah (by simp)];refine Ac ?_
 simp only[show ¬ ((i:Int)<0) from by lia,if_false,Bw,Array.getElem?_eq_none hx]
 refine Aa (Aa (AI hit.typeIs (Ac ?_)));show wpAny _ _ (setField (.ref it) 0 .none >>= _) _ _ s;refine Aa (wpAny_setField ho hd (by simp) ?_)
 show wpAny _ _ (newExc (.type "StopIteration") [] >>= _) _ _ _;refine Aa ?_;simp only[newExc,newTuple];refine Aa (AA ?_ (by size_fits))
 refine Aa (m:=firstArgMember _ _) (wpAny_of_eq (a:=Value.none) (by first|rfl|(simp only[firstArgMember];rfl)) (AA ?_ (by size_fits)))
 simp only[raiseNew];refine Aa (wpAny_handled ?_);rw[show A.in1.handled=none from hh];refine Aa (Ac (wpAny_throw ?_));refine Aa (Co (T:="StopIteration") (b:=true) ⟨_,Al _ rfl,rfl⟩ isSubtype_stop (Ac (q _ ?_)));exact((Bh ..).extBut.push _).push _
theorem uz (hh:A.handled=none) (I d:Addr) (hne:d≠I) (es:Array DictEntry) (ep:Nat) :
  Walks prog w A I [I,d] [I] es.size (fun i v=>(es[i]?).map (·.key)=some v) (fun i h=>h.IsKeyIter I d i es.size ep/\RawD h d es ep) where
 sub:=fun b hb=>by simp at hb;simp[hb]
 frame:=fun _ _ _ st hk=>⟨st.1.at fun o e=>hk I (by simp) o e,st.2.at fun o e=>hk d (by simp) o e⟩
 item:=fun i s Q E hi st hQ=>by
  have hx:es[i]?=some es[i]:=Qj hi;refine qa st.1 st.2 hx fun h' hit' hs'=>hQ _ h' s.toks (by rw[hx];rfl) ⟨hit',st.2.at fun o e=>hs'.extBut d o hne e⟩ fun b o hb e=>hs'.extBut b o (fun z=>hb (by simp[z])) e
 done:=fun s Q E st hQ=>sW hh st.1 st.2 (Va _) fun h' he'=>hQ h' s.toks fun b o hb e=>he' b o (fun z=>hb (by simp[z])) e
 self:=fun _ _ _ _ st hQ=>wpAny_pyIter_keyiter st.1 hQ
end
end VF22
namespace VF22
open PySem PySem.Spec PyProof.Rows L2 VF
def Itd (a:Addr) (ep:Nat×List Addr) (kvs:List (List Key×V)):It :=
 ⟨fun i H=>H a=some (.dT ep kvs)/\i<kvs.length,fun i H x H'=>H'=H/\∃k v b,kvs[i]?=some (k,v)/\x=.ref b/\ep.2[i]?=some b/\H b=some (.tup (k.map kV)),fun i H=>H a=some (.dT ep kvs)/\kvs.length<=i⟩
section
variable {P:Program} {w:World} {H:Hp} {h:Heap} {a:Addr} {ep:Nat×List Addr} {kvs:List (List Key×V)}
theorem ot (ok:HOk P w H h) (e:H a=some (.dT ep kvs)):kvs.length<=sizeLine/\(a == sysModules)=false/\∃(xs:List (List Key×Addr×Value)) (es:Array DictEntry),KT H kvs xs/\xs.map (·.2.1)=ep.2/\es.toList=xs.map (entryOfKey (tupleKind (bE P w)))/\RawD h a es ep.1/\es.size=kvs.length:=by
 obtain⟨z,y,xs,r,ra,o,es,h1,h2,h3,h4,h5⟩:=(show ObjOk P w H h a (.dT ep kvs) from ok a _ e);refine⟨z,y,xs,es,r,ra,h4,⟨o,h1,h2,h3⟩,?_⟩;have:=congrArg List.length h4;rw[Ya,Xd]at this;rw[this,← Paired.length r]
theorem wA {xs:List (List Key×Addr×Value)} {es:Array DictEntry} (r:KT H kvs xs) (ra:xs.map (·.2.1)=ep.2) (he:es.toList=xs.map (entryOfKey (tupleKind (bE P w)))) {i:Nat} {x:DictEntry} (hx:es[i]?=some x) :
  ∃k v b,kvs[i]?=some (k,v)/\ep.2[i]?=some b/\x.key=.ref b/\H b=some (.tup (k.map kV)):=by
 rw[← Xh,he,Qb]at hx;obtain⟨q,e1,e2⟩:=Zd.mp hx;have hb:ep.2[i]?=some q.2.1:=by rw[← ra,Qb,e1];rfl
 have hl:=Paired.length r;have hi:i<kvs.length:=by rw[hl];exact(Xa.mp e1).1
 have go:∀{l:List (List Key×V)} {m:List (List Key×Addr×Value)},KT H l m->∀{j:Nat} {p:List Key×V} {q:List Key×Addr×Value},l[j]?=some p->m[j]?=some q->H q.2.1=some (.tup (p.1.map kV)):=fun {l m} t=>by
  induction t with
  | nil=>intro j p q h1;simp at h1
  | cons hq t ih =>
   intro j p q h1 h2;cases j with
   | zero =>
    cases h1;cases h2;exact hq.2.1
   | succ j=>exact ih (by simpa using h1) (by simpa using h2)
 have ek:kvs[i]?=some (kvs[i].1,kvs[i].2):=Za hi;refine⟨kvs[i].1,kvs[i].2,q.2.1,ek,hb,by rw[← e2];rfl,go r ek e1⟩
end
section
variable {X:Cx} {K:Ab} {O O' Z:AS} {H H':Hp} {tg:Expr}
theorem uA (a it:Addr) (ep:Nat×List Addr) (kvs:List (List Key×V)):Turn P w K tg (Itd a ep kvs) [it] it (fun i h=>h.IsKeyIter it a i kvs.length ep.1) where
 mem:=by simp
 obj:=fun i h st b hb=>by
  have e:b=it:=by simpa using hb
  subst e;obtain⟨o,e,c,d⟩:=st;exact⟨o,e,fun v z=>by rw[d]at z;cases z⟩
 keep:=fun i h h' st k=>st.at fun o e=>k it (by simp) o e
 item:=by
  intro X hP hw hK hc i pins s σ H E I hf st hg;subst hP hw hK;obtain⟨ha,hi⟩:=hg;obtain⟨_,_,xs,es,r,ra,he,rw',hz⟩:=ot I.hok ha;obtain⟨f0,f1,f2,f3,f4,f5⟩:=hf it (by simp)
  have hx:es[i]?=some (es[i]'(by lia)):=Qj (by lia)
  obtain⟨k,v,b,g1,g2,g3,g4⟩:=wA r ra he hx;refine qa (by rw[hz];exact st) rw' hx fun h' st' sb=>?_
  rw[hz]at st';have I1:L2.Inv X pins σ H { s with heap:=h' }:=I.turned (t':=s.toks) (fun b o hb e=>(sb.2 b hb).trans e) f0 f1 f3 f4 f5;obtain⟨o,e,c,d⟩:=id st';exact⟨_,rfl,kW (s:={ s with heap:=h' }) e c d (by decide) ⟨.ref b,H,I1,g3,⟨rfl,k,v,b,g1,rfl,g2,g4⟩,st',fun b hb=>(hf b hb).1⟩⟩
 done:=by
  intro X hP hw hK hc i pins s σ H E I hf st hg;subst hP hw hK;obtain⟨ha,hi⟩:=hg;obtain⟨_,_,xs,es,r,ra,he,rw',hz⟩:=ot I.hok ha;obtain⟨f0,f1,f2,f3,f4,f5⟩:=hf it (by simp)
  exact sW (I.ok.hd hc) (by rw[hz];exact st) rw' (by lia) fun h' eb=>⟨rfl,I.turned (t':=s.toks) (fun b o hb e=>eb b o hb e) f0 f1 f3 f4 f5⟩
 self:=fun _ _ _ _ _ st h=>wpAny_pyIter_keyiter st h
def uB (tl:TE):TI:=fun σ H R=>tl σ H fun x H1=>∃a ep kvs,x=.ref a/\H1 a=some (.dT ep kvs)/\R (Itd a ep kvs) H1
theorem ou (hl:PE X l tl):PI X tg l (uB tl):=by
 intro pins s σ H R I h;refine thn (hl pins s σ H _ I h) fun v s1 zz9=>?_;obtain⟨x,H1,I1,r1,q1⟩:=zz9;obtain⟨a,ep,kvs,rfl,ha,q⟩:=q1;cases r1;obtain⟨_,hd,xs,es,r,ra,he,rw',hz⟩:=ot I1.hok ha;refine p9 hd rw' ?_;rw[hz];refine⟨s1.heap.objs.size,[s1.heap.objs.size],_,_,H1,rfl,I1.kept (t':=s1.toks) fun b o e=>Ad _ e,uA a _ ep kvs,⟨_,Al _ rfl,rfl,rfl⟩,fun b hb=>?_,q⟩;have e:b=s1.heap.objs.size:=by simpa using hb
 subst e;exact I1.fpOk (Va _) (I1.hok.fresh (Va _))
def b8:Key->D
 | .inl i=>.int i
 | .inr x=>.str x
theorem EV (k:Key):DA K Y H (kV k) (b8 k):=by
 cases k with
 | inl i=>exact .int i
 | inr x=>exact .str x
theorem ox:∀ks:List Key,El K Y H (ks.map kV) (ks.map b8)
 | []=>El.nil
 | k::r=>El.cons (EV k) (ox r)
theorem je {k:List Key} (h:H b=some (.tup (k.map kV))) (n:¬ Y b):DA K Y H (.ref b) (.tup (k.map b8)):=.tup ⟨h,n⟩ (ox (K:=K) (H:=H) (Y:=Y) k).1 (ox k).2
def kJ:D->Option (List D)
 | .dt kvs=>some (kvs.map fun kv=>.tup (kv.1.map b8))
 | _=>none
def fID (fe:FE):FI:=fun st=>(fe st).bind fun x=>(esc x.1 x.2).bind fun y=>(kJ y.1).bind fun ds=>some (ds,y.2)
theorem yJ (h:RdE K te fe):RdI K (uB te) (fID fe):=by
 intro st σ H O Z R E items st' e q;refine bsP e fun r st1 e1 e=>?_;refine bsP e fun d st2 e2 e=>?_;refine bsO e fun ds e3 e=>?_;cases e;refine h st σ H O Z _ E r st1 e1 fun v H1 O1 x1 k1 E1 rv w1=>?_;obtain⟨O2,x2,k2,E2,da⟩:=rv.esc E1 e2;cases d with
 | dt ds' =>
  cases e3;cases da with
  | @dt a ep kvs _ h0 ka h1 h2 h3 =>
   have hl:kvs.length=ds'.length:=by have:=congrArg List.length h2;rwa [Ya,Ya]at this
   refine⟨a,ep,kvs,rfl,h1,q _ H1 O2 (x1.trans x2) (k1.trans k2) E2 fun H' O' ex _=>?_⟩;have g1:H' a=some (.dT ep kvs):=ex.kp a _ h1 fun z=>h0 (.inl z);refine⟨fun i hi=>⟨g1,by rw[Ya]at hi;lia⟩,fun i d hd=>?_⟩
   rw[Qb]at hd;obtain⟨kd,f1,f2⟩:=Zd.mp hd;have hi:i<kvs.length:=by rw[hl];exact(Xa.mp f1).1
   refine⟨⟨g1,hi⟩,fun x H'' hx=>?_⟩;obtain⟨rfl,k,v,b,f3,rfl,f5,f4⟩:=hx;have ek:k=kd.1:=by
    have:=congrArg (fun l=>l[i]?) h2;simp only[Qb,f1,f3,CC]at this;exact Option.some.inj this
   subst ek f2;obtain⟨n1,n2⟩:=ka b (Wa f5);refine⟨Same.refl _,je f4 fun z=>?_⟩;rcases z with z|z
   ·rcases ex.nw b z with y|y
    ·exact n1 (.inl y)
    ·exact n2 y
   ·exact n1 (.inr z)
 | _=>cases e3
end
end VF22
namespace VF22
open PySem PySem.Spec PyProof.Rows L2 VF TS
section
variable {prog:Program} {w:World} {A:Around} {E:Value->Shared->Prop} {s:Shared}
theorem RawD.lt {h:Heap} (x:RawD h d es ep):d<h.objs.size:=let ⟨_,ho,_⟩:=x;Aj ho
theorem yK {es:Array DictEntry} (lo:(d == sysModules)=false):PySem.W.KdlSrc prog w "dict" d d es.size (fun i v=>(es[i]?).map (·.key)=some v) (fun h=>RawD h d es ep) where
 type:=fun _ m=>m.typeIs
 there:=fun _ m=>⟨m.lt,m.lt⟩
 keep:=fun _ _ m k=>m.at fun o e=>k d (.inl rfl) o e
 notList:=by decide
 notTuple:=by decide
 hint:=fun _ _ _ _ m q=>PySem.W.kdl_hint_dict m.typeIs q
 iter:=fun _ _ hh m=>⟨_,_,(fun _ _ q=>p9 lo m q),uz hh _ d (Yg m.lt) es ep,⟨⟨_,Al _ rfl,rfl,rfl⟩,m.at fun o e=>Ad _ e⟩⟩
theorem qb {es:Array DictEntry} (hh:A.handled=none) (lo:(d == sysModules)=false) (hm:RawD s.heap d es ep) (hz:es.size<=sizeLine)
  (q:∀h' tk,(∀b o,s.heap.get? b=some o->h'.get? b=some o)->Q (es.toList.map (·.key)) { s with heap:=h',toks:=tk }):wpAny (model prog w) A (collect (.ref d)) Q E s:=by
 refine PySem.W.kdu_collect (yK lo) hh hm hz fun h' tk acc' kp hi=>?_;have e:acc'.toList=es.toList.map (·.key):=by
  refine BH (by rw[Xd,hi.1,Ya,Xd]) fun i h1 h2=>?_
  have a:(es[i]?).map (·.key)=some acc'[i]:=hi.2 i acc'[i] (Qj (by simpa using h1))
  rw[Qj (by rw[Ya,Xd]at h2;exact h2)]at a
  have a':=Option.some.inj a;rw[Array.getElem_toList,AO,Array.getElem_toList];exact a'.symm
 rw[e];exact q h' tk kp
theorem uC {vs:List Value} {ds:List D} (hh:A.handled=none)
  (coll:∀(A:Around) (E:Value->Shared->Prop) (Q:List Value->Shared->Prop),A.handled=none->(∀h' tk,(∀b o,s.heap.get? b=some o->h'.get? b=some o)->Q vs { s with heap:=h',toks:=tk })->wpAny (model prog w) A (collect x) Q E s) (hz:vs.length<=sizeLine)
  (hn:vs.length=ds.length) (r:∀(i:Nat) u d,vs[i]?=some u->ds[i]?=some d->RH s.heap u d) (pl:∀d∈ds,Pl 40 d) (ca:CA 40 ds) (hk:Kd ds κ) (hu:A.units+64<cLine)
  (fin:∀(γ:Array Nat) (h':Heap) (a:Addr) (n tk:Nat),γ.Perm (Array.range vs.length)->Sg (cD ds) γ 0 vs.length->(∀b o,s.heap.get? b=some o->h'.get? b=some o)->(∀b o,s.heap.get? b=some o->b≠a)->h'.get? a=some (seqObj "list" (bW vs γ) n)->Q (.ref a) { s with heap:=h',toks:=tk }) :
  wpAny (model prog w) A (call (.builtin "sorted") [x]) Q E s:=by
 refine CQ kind_sorted plain_sorted entry_sorted (args_sorted1 _) ?_;refine Aa (m:=checkCount "sorted" 1 1 _) (Ac (Aa (coll _ _ _ hh fun h1 tk kp=>Aa (B6 ?_))));have mine:(h1.push (seqObj "list" vs.toArray 0)).get? h1.objs.size=some (seqObj "list" vs.toArray 0):=Al _ rfl;show wpAny _ _ _ _ _ { s with heap:=h1.push (seqObj "list" vs.toArray 0),toks:=tk };refine Aa (Aq (Az slot_list_sort ⟨_,mine,rfl⟩ entry_list_sort ?_ (args_list_sort _)));have old2:∀b o,s.heap.get? b=some o->b≠h1.objs.size:=fun b o e=>Yg (Aj (kp b o e));refine nr (s:={ s with heap:=h1.push (seqObj "list" vs.toArray 0),toks:=tk }) mine hz hn (fun i u d e1 e2=>(r i u d e1 e2).kept fun b o e=>?_) pl ca hk (by show A.units+1+1+40<cLine;lia) fun γ p g=>?_
 ·exact Ad _ (Ad _ ((B4 _ _ _ _ (old2 b o e)).trans (Ad _ (kp b o e))))
 ·obtain⟨n,hn'⟩:=sortedHeap_at (n:=0) (vs:=vs) (out:=bW vs γ) mine;refine⟨_,rfl,Ac ⟨_,rfl,fin γ _ _ n tk p g (fun b o e=>?_) old2 hn'⟩⟩;have hb:b<(h1.push (seqObj "list" vs.toArray 0)).objs.size:=by rw[size_push'];exact Bv (Aj (kp b o e))
  rw[sortedHeap_old (old2 b o e) hb];exact Ad _ (kp b o e)
end
section
variable {X:Cx} {K:Ab} {Y:AS} {H:Hp}
def wB:List V->Hp->VK->Prop:=fun xs H Q=>∃(a:Addr) (ep:Nat×List Addr) (kvs:List (List Key×V)) (κ:SortKind),xs=[.ref a]/\H a=some (.dT ep kvs)/\(∀x∈kvs.map (fun kv=>D.tup (kv.1.map b8)),Pl 40 x)/\CA 40 (kvs.map fun kv=>D.tup (kv.1.map b8))/\Kd (kvs.map fun kv=>D.tup (kv.1.map b8)) κ /\
 ∀(p:Addr) (bs:List Addr),H p=none->(∀b∈bs,b∈ep.2)->(∃ks:List (List Key),ks.map (fun k=>D.tup (k.map b8))=gx 40 (kvs.map fun kv=>D.tup (kv.1.map b8))/\bs.length=ks.length/\∀(i:Nat) b k,bs[i]?=some b->ks[i]?=some k->H b=some (.tup (k.map kV)))->Q (.ref p) (upd H p (.lst (bs.map V.ref)))
theorem rl (h:X.K=K) (hc:X.calm=true) (hr:Room n X.A):CallR X (.builtin "sorted") wB:=by
 intro pins s σ H xs us Q I rv hh;obtain⟨a,ep,kvs,κ,rfl,ha,pl,ca,hk,q⟩:=hh;obtain⟨u,rfl,ru⟩:=vals1 rv;cases ru;obtain⟨hz,lo,xs,es,rk,ra,he,rw',esz⟩:=ot I.hok ha;have key:∀(i:Nat) (x:DictEntry),es[i]?=some x->∃k v b,kvs[i]?=some (k,v)/\ep.2[i]?=some b/\x.key=.ref b/\H b=some (.tup (k.map kV)):=fun i x hx=>wA rk ra he hx;have ln:(es.toList.map (·.key)).length=(kvs.map fun kv=>D.tup (kv.1.map b8)).length:=by rw[Ya,Ya,Xd,esz]
 have at_:∀(i:Nat) u,(es.toList.map (·.key))[i]?=some u->∃k v b,kvs[i]?=some (k,v)/\ep.2[i]?=some b/\u=.ref b/\H b=some (.tup (k.map kV)):=fun i u e=>by
  rw[Qb]at e;obtain⟨x,e1,e2⟩:=Zd.mp e;obtain⟨k,v,b,g1,g2,g3,g4⟩:=key i x (by rw[← Xh];exact e1)
  exact⟨k,v,b,g1,g2,by rw[← e2];exact g3,g4⟩
 refine uC (vs:=es.toList.map (·.key)) (ds:=kvs.map fun kv=>D.tup (kv.1.map b8)) (κ:=κ) (I.ok.hd hc) (fun A E Q hA q=>qb hA lo rw' (by rw[esz];exact hz) q) (by rw[Ya,Xd,esz];exact hz) ln (fun i u d e1 e2=>?_) pl ca hk hr.units fun γ h' p n tk pm g kp ge hat=>?_
 ·obtain⟨k,v,b,g1,g2,rfl,g4⟩:=at_ i u e1;have e2':=e2;rw[Qb,g1]at e2;cases e2;have da:DA K (fun _=>False) H (.ref b) (.tup (k.map b8)):=je g4 fun z=>z;exact da.rh (pl _ (Wa e2')) I h rfl
 ·rw[ln]at pm g;have hpn:H p=none:=by
   cases e:H p with
   | none=>rfl
   | some o =>
    obtain⟨ob,e'⟩:=(I.hok p o e).there;exact absurd rfl (ge p ob e')
  have eo:=wx ca pm g;have hγ:∀g∈γ.toList,g<kvs.length:=fun g hg=>by
   have:=(Array.perm_iff_toList_perm.mp pm).mem_iff.mp hg;rw[Cd,Ya]at this;exact Vd.mp this
  have las:ep.2.length=kvs.length:=by rw[← ra,Ya,← Paired.length rk]
  have e2:(bW (es.toList.map (·.key)) γ).toList=γ.toList.map fun g=>(es.toList.map (·.key)).getD g .none:=by unfold bW;simp
  have vw:Vals ((γ.toList.map fun g=>ep.2.getD g 0).map V.ref) (bW (es.toList.map (·.key)) γ).toList:=by
   rw[e2,Xe];have:∀l:List Nat,(∀g∈l,g<kvs.length)->Vals (l.map (V.ref ∘ fun g=>ep.2.getD g 0)) (l.map fun g=>(es.toList.map (·.key)).getD g .none):=fun l=>by
    induction l with
    | nil=>exact fun _=>.nil
    | cons g l ih =>
     intro hl;have hg:g<kvs.length:=hl g Xb;have a1:(es.toList.map (·.key))[g]?=some ((es.toList.map (·.key))[g]'(by rw[ln,Ya];exact hg)):=Za _
     obtain⟨k,v,b,g1,g2,g3,g4⟩:=at_ g _ a1;refine .cons ?_ (ih fun x hx=>hl x (Vb _ hx));show(es.toList.map (·.key)).getD g .none=Value.ref (ep.2.getD g 0);rw[Xc,Xc,a1,g2,Option.getD_some,g3];rfl
   exact this _ hγ
  refine⟨.ref p,upd H p (.lst ((γ.toList.map fun g=>ep.2.getD g 0).map V.ref)),I.laid2 kp ge hpn ⟨?_,(bW (es.toList.map (·.key)) γ).toList,n,vw,by simpa using hat⟩,rfl,q p _ hpn (fun b hb=>?_) ⟨γ.toList.map fun g=>(kvs.map (·.1)).getD g [],?_,by simp,fun i b k h1 h2=>?_⟩⟩
  ·rw[Ya,Ya,Xd,pm.size_eq,A9,Ya];exact hz
  ·obtain⟨g,hg,rfl⟩:=Yc.mp hb;have hg':=hγ g hg;rw[Xc,Za (by lia)]
   exact Qh _
  ·rw[← eo,Xe];refine Zg fun g hg=>?_;have hg':=hγ g hg;show D.tup (((kvs.map (·.1)).getD g []).map b8)=_;rw[nq (d:=D.tup (kvs[g].1.map b8)) (by rw[Qb,Za hg'];rfl),Xc,Qb,Za hg'];rfl
  ·rw[Qb]at h1 h2;obtain⟨g1,k1,k2⟩:=Zd.mp h1;obtain⟨g2,k3,k4⟩:=Zd.mp h2;rw[k1]at k3;cases k3;have hg':=hγ g1 (Wa k1);have a1:(es.toList.map (·.key))[g1]?=some ((es.toList.map (·.key))[g1]'(by rw[ln,Ya];exact hg')):=Za _
   obtain⟨k',v,b',f1,f2,f3,f4⟩:=at_ g1 _ a1;rw[Xc,f2]at k2;rw[Xc,Qb,f1]at k4;subst k2 k4;exact f4
open Classical in
noncomputable def lR:List D->Option Rz
 | [d]=>match kJ d with
  | some ds=>if (∀x∈ds,Pl 40 x)/\CA 40 ds/\∃κ,Kd ds κ then some (.lst (gx 40 ds),true) else none
  | none=>none
 | _=>none
theorem wC:RdCB K wB lR:=by
 intro Y H xs ds z Q lv bs e q;cases bs with
 | nil=>cases e
 | @cons v vs d ds b1 bs =>
  cases bs with
  | cons _ _=>cases e
  | nil =>
   cases d with
   | dt kd =>
    unfold lR at e;dsimp only[kJ]at e;obtain⟨a,ep,kvs,rfl,ka,h1,h2,h3⟩:=b1;have ek:(kd.map fun kv=>D.tup (kv.1.map b8))=kvs.map fun kv=>D.tup (kv.1.map b8):=by
     have:∀{α:Type} (l:List (List Key×α)),(l.map fun kv=>D.tup (kv.1.map b8))=(l.map (·.1)).map fun k=>D.tup (k.map b8):=fun l=>by rw[Xe];rfl
     rw[this,this,h2]
    rw[ek]at e;obtain⟨c,e⟩:=aD e;cases e;obtain⟨c1,c2,κ,c3⟩:=c;refine⟨a,ep,kvs,κ,rfl,h1,c1,c2,c3,fun p bs hp hb ⟨ks,k1,k2,k3⟩=>q _ _ (aR hp _) (fI ?_ hp)⟩;rw[← k1];refine⟨by rw[Ya,Ya,k2],fun i v d e1 e2=>?_⟩
    rw[Qb]at e1 e2;obtain⟨b,f1,rfl⟩:=Zd.mp e1;obtain⟨k,f2,rfl⟩:=Zd.mp e2;exact je (k3 i b k f1 f2) (ka b (hb b (Wa f1))).1
   | _=>cases e
end
end VF22
namespace VF22
open PySem PySem.Spec PyProof.Rows L2 VF
section
variable {X:Cx} {K:Ab}
theorem range_any (bs:List Bool):(List.range bs.length).any (fun i=>bs.getD i false)=bs.any id:=by
 induction bs with
 | nil=>rfl
 | cons b r ih =>
  rw[Ye,BL,AR,Ck,AR,← ih];rfl
def GU (K:Ab):List V->Hp->VK->Prop:=fun xs H Q=>∃(p:Addr) (bs:List Bool),xs=[.ref p]/\SqL K H p (bs.map V.bl)/\Q (.bl (bs.any id)) H
theorem qc (hK:X.K=K) (hc:X.calm=true):CallR X (.builtin "any") (GU K):=by
 subst hK;intro pins s σ H xs us Q I rv h;obtain⟨p,bs,rfl,hq,q⟩:=h;obtain⟨u,rfl,ru⟩:=vals1 rv;cases ru;obtain⟨its,r,pl,hz⟩:=I.list hq;have hlen:its.length=bs.length:=by have:=r.length;simpa using this.symm
 obtain⟨op,np,ep,cp,dp,sp⟩:=id pl;have hne:p≠s.heap.objs.size:=Yg (Aj ep);refine call_any_walk (Ce pl.isList ?_);refine⟨s.heap.objs.size,_,_,_,_,_,fun i=>bs.getD i false,rfl,Walks.list (show X.A.in1.handled=none from I.ok.hd hc) s.heap.objs.size p hne its.toArray,⟨⟨_,Al _ rfl,rfl,rfl⟩,⟨op,Ad _ ep,cp,np,sp⟩⟩,?_,fun h' tk kp=>?_⟩
 ·intro i v s' Q' E' hv hQ';have hv':its[i]?=some v:=by simpa using hv
  have hi:i<its.length:=(Xa.mp hv').1;have hb:(bs.map V.bl)[i]?=some (V.bl (bs[i]'(by lia))):=by rw[Qb,Za (by lia)];rfl
  obtain⟨u',e1,e2⟩:=r.get hb;rw[hv']at e1;cases e1;cases e2;have this:bs.getD i false=bs[i]'(by lia):=by rw[Xc,Za (by lia)];rfl
  have hQ2:Q' (bs.getD i false) s':=hQ';rw[this]at hQ2;exact AG hQ2
 ·have e:(List.range its.toArray.size).any (fun i=>bs.getD i false)=bs.any id:=by rw[Wb,hlen];exact range_any bs
  rw[e];refine⟨.bl (bs.any id),H,I.kept (fun b o e=>kp b o ?_ (Ad _ e)),rfl,q⟩;intro z;have z':b=s.heap.objs.size:=by simpa using z
  exact absurd (Aj e) (by rw[z'];exact Yi _)
def wD:List D->Option Rz
 | [.lst ds]=>(nh ds).bind fun bs=>some (.bl (bs.any id),false)
 | _=>none
theorem wE:RdCB K (GU K) wD:=by
 intro Y H xs ds z Q lv bs e q;cases bs with
 | nil=>cases e
 | @cons v vs d ds b1 bs =>
  cases bs with
  | cons _ _=>cases d<;>cases e
  | nil =>
   cases d with
   | lst a =>
    refine bsO e fun bs e1 e=>?_;cases e;obtain⟨p,xs,rfl,hp,el⟩:=b1;obtain rfl:=pK el e1;exact⟨p,bs,rfl,.inl (.inl hp),q _ H (Same.refl H) (.bl _)⟩
   | _=>cases e
def uD (lo:Int) (n:Nat):List V:=(List.range n).map fun i=>V.int (lo+(i:Nat))
theorem uE {acc:Array Value} {lo:Int} {n:Nat} (hi:ItemsOf (fun i v=>∃t,v=Value.int (lo+(i:Nat)*1) t) acc n):Vals (uD lo n) acc.toList:=by
 obtain⟨h1,h2⟩:=hi;have gen:∀(m k:Nat) (l:List Value),l.length=m->(∀(j:Nat) v,l[j]?=some v->∃t,v=Value.int (lo+((k+j:Nat):Int)) t)->Vals ((List.range m).map fun i=>V.int (lo+((k+i:Nat):Int))) l:=by
  intro m;induction m with
  | zero =>
   intro k l hl _;cases l with
   | nil=>exact .nil
   | cons _ _=>cases hl
  | succ m ih =>
   intro k l hl hv;cases l with
   | nil=>cases hl
   | cons v l =>
    rw[BL,Wd,Xe];refine .cons ?_ ?_
    ·obtain⟨t,e⟩:=hv 0 v rfl;exact⟨t,e⟩
    ·have:=ih (k+1) l (by simpa using hl) fun j u e=>by
      obtain⟨t,e'⟩:=hv (j+1) u (by simpa using e)
      exact⟨t,by rw[e',show k+1+j=k+(j+1) by lia]⟩
     refine(congrArg (fun z=>Vals z l) (Zg fun i _=>?_)).mp this;show V.int (lo+((k+1+i:Nat):Int))=V.int (lo+((k+(i+1):Nat):Int));rw[show k+1+i=k+(i+1) by lia]
 have:=gen n 0 acc.toList (by rw[Xd];exact h1) fun j v e=>by
  obtain⟨t,e'⟩:=h2 j v (by rw[← Xh];exact e)
  exact⟨t,by rw[e',Int.mul_one,C7]⟩
 refine(congrArg (fun z=>Vals z acc.toList) (Zg fun i _=>?_)).mp this;rw[C7]
end
end VF22
namespace VF22
open PySem PySem.Spec PyProof.Rows L2 VF
section
variable {X:Cx} {K:Ab}
abbrev RB (lo hi:Int):Prop:=-(2 ^ 30)<=lo/\lo<2 ^ 30/\-(2 ^ 30)<=hi/\hi<2 ^ 30/\(hi-lo).toNat<=1000000
def wF (ta:TA):TE:=fun σ H Q=>ta σ H fun vs H1=>∃j:Int,vs=[.int j]/\(-(2 ^ 30)<=j/\j<2 ^ 30)/\∀p,H1 p=none->Q (.ref p) (upd H1 p (.rng 0 j))
def wG (ta:TA):TE:=fun σ H Q=>ta σ H fun vs H1=>∃i j:Int,vs=[.int i,.int j]/\(-(2 ^ 30)<=i/\i<2 ^ 30/\-(2 ^ 30)<=j/\j<2 ^ 30)/\∀p,H1 p=none->Q (.ref p) (upd H1 p (.rng i j))
theorem qd {s:Shared} {lo hi:Int} {t u v:Tok} {tk:Nat} {Q:VK} (I:L2.Inv X pins σ H s) (q:∀p,H p=none->Q (.ref p) (upd H p (.rng lo hi))) :
  EP X pins σ Q (.ref s.heap.objs.size) { s with heap:=s.heap.push { cls:=.type "range",data:=.fields #[.int lo t,.int hi u,.int 1 v] },toks:=tk } :=
 ⟨.ref _,_,I.laid (o:=.rng lo hi) (t':=tk) (fun b o e=>Ad _ e) (Va _) ⟨t,u,v,Al _ rfl⟩,rfl,q _ (I.hok.fresh (Va _))⟩
theorem qf (hg:Gl X "range") (hm:X.mg "range"=none) (ha:PA X [a] ta) (hs:starEach [a] X.env=[(false,eval a X.env)]:=by rfl):PE X (.Call (.Name "range" p) [a] [] pos) (wF ta):=by
 intro pins s σ H Q I h;refine Call_ (gh I hg hm boot_range (Ax (thn (ha pos pins s σ H _ I h) fun us s1 ⟨vs,H1,I1,r1,q1⟩=>?_) hs rfl));obtain⟨j,rfl,⟨h1,h2⟩,q⟩:=q1;cases r1 with
 | cons r rr =>
  cases rr;obtain⟨t,rfl⟩:=r;exact call_range_1 (qd I1 q)
theorem lS (hg:Gl X "range") (hm:X.mg "range"=none) (ha:PA X [a,b] ta) (hs:starEach [a,b] X.env=[(false,eval a X.env),(false,eval b X.env)]:=by rfl) (hs2:starEach [b] X.env=[(false,eval b X.env)]:=by rfl):PE X (.Call (.Name "range" p) [a,b] [] pos) (wG ta):=by
 intro pins s σ H Q I h;refine Call_ (gh I hg hm boot_range (Ax (thn (ha pos pins s σ H _ I h) fun us s1 ⟨vs,H1,I1,r1,q1⟩=>?_) (by rw[hs,hs2]) (by rw[hs2];rfl)))
 obtain⟨i,j,rfl,⟨h1,h2,h3,h4⟩,q⟩:=q1;cases r1 with
 | cons r rr =>
  cases rr with
  | cons r' rr =>
   cases rr;obtain⟨t,rfl⟩:=r;obtain⟨t',rfl⟩:=r';exact call_range_2 (qd I1 q)
def oy:List V->Hp->VK->Prop:=fun xs H Q=>∃(p:Addr) (lo hi:Int),xs=[.ref p]/\H p=some (.rng lo hi)/\RB lo hi/\∀l,H l=none->Q (.ref l) (upd H l (.lst (uD lo (hi-lo).toNat)))
theorem dQ (hc:X.calm=true):CallR X (.type "list") oy:=by
 intro pins s σ H xs us Q I rv h;obtain⟨p,lo,hi,rfl,hp,b,q⟩:=h;obtain⟨w,rfl,ru⟩:=vals1 rv;cases ru;obtain⟨t,u,v,ho⟩:=(show ObjOk X.prog X.w H s.heap p (.rng lo hi) from I.hok p _ hp);have hn:Builtin.Range.rangeSize lo hi 1=(((hi-lo).toNat:Nat):Int):=by rw[rangeSize_one];split<;>lia
 refine call_list_range (I.ok.hd hc) (show IsRange s.heap p lo hi 1 t u v from ho) (small_one (by lia) (by lia) (by lia) (by lia)) hn (by lia) fun h' tk' acc' c' kp hS hi'=>?_
 refine⟨.ref _,upd H _ (.lst (uD lo (hi-lo).toNat)),I.laid kp (Va _) ⟨?_,acc'.toList,c',uE hi',by simpa using hS⟩,rfl,q _ (I.hok.fresh (Va _))⟩
 unfold uD;rw[Ya,Zc];exact few b.2.2.2.2
theorem EW (lo:Int) (n:Nat):El K Y H (uD lo n) (rng lo n):=by
 unfold uD rng;refine⟨by simp,fun i v d h1 h2=>?_⟩
 rw[Qb]at h1 h2;obtain⟨x,e1,rfl⟩:=Zd.mp h1;rw[e1]at h2;cases h2;exact .int _
theorem EX (bs:BAs K Y H vs ds) (e3:qU ds=some j):vs=[.int j]:=by
 have ed:ds=[.int j]:=by
  unfold qU at e3;split at e3
  ·cases e3;rfl
  ·cases e3
 subst ed;cases bs with
 | cons b1 b2 =>
  cases b2;obtain rfl:=(show _=V.int j from b1);rfl
theorem EY (bs:BAs K Y H vs ds) (e3:qV ds=some (i,j)):vs=[.int i,.int j]:=by
 have ed:ds=[.int i,.int j]:=by
  unfold qV at e3;split at e3
  ·cases e3;rfl
  ·cases e3
 subst ed;cases bs with
 | cons b1 b2 =>
  cases b2 with
  | cons b2 b3 =>
   cases b3;obtain rfl:=(show _=V.int i from b1);obtain rfl:=(show _=V.int j from b2);rfl
def fLR1 (fa:FA):FE:=fun st=>(fa st).bind fun x=>(bT x.2 x.1).bind fun ds=>(qU ds).bind fun j=>if RB 0 j then some (.f (.lst (rng 0 (j-0).toNat)),x.2) else none
def fLR2 (fa:FA):FE:=fun st=>(fa st).bind fun x=>(bT x.2 x.1).bind fun ds=>(qV ds).bind fun p=>if RB p.1 p.2 then some (.f (.lst (rng p.1 (p.2-p.1).toNat)),x.2) else none
theorem zS {st:En} {lo hi:Int} {Q:VK} {r:Rs} {st':En} (E:ER K st' σ H1 O1 Z) (x1:Ext O H O1 H1) (k1:Kp st st') (b:RB lo hi) (he:r=.f (.lst (rng lo (hi-lo).toNat)))
  (q:∀v H' O',Ext O H O' H'->Kp st st'->ER K st' σ H' O' Z->RVal K Z st' σ H' O' v r->Fsh H v r->Q v H'):∀p,H1 p=none->oy [.ref p] (upd H1 p (.rng lo hi)) Q:=fun p hp=>by
 subst he;refine⟨p,lo,hi,rfl,aM,b,fun l hl=>?_⟩;have s1:=aR hp (HO.rng lo hi);have E1:=E.same s1;obtain⟨E2,rv⟩:=E1.new hl (EW lo (hi-lo).toNat);have x2:Ext O1 H1 O1 (upd H1 p (.rng lo hi)):=Same.ext s1;exact q _ _ O1 ((x1.trans x2).trans (Same.ext (aR hl _))) k1 E2 rv fun p' e=>by cases e;exact(x1.trans x2).dead hl
theorem wH (h:RdA K ta fa):RdE K (tCB oy (dm (wF ta) kZ)) (fLR1 fa):=by
 intro st σ H O Z Q E r st' e q;refine bsP e fun rs st1 e1 e=>?_;refine bsO e fun ds e2 e=>?_;refine bsO e fun j e3 e=>?_;obtain⟨c,e⟩:=aD e;cases e;refine h st σ H O Z _ E rs _ e1 fun vs H1 O1 x1 k1 E1 rvs=>?_;have hv:=EX (rvs.bas E1 e2) e3;exact⟨j,hv,⟨c.2.2.1,c.2.2.2.1⟩,zS E1 x1 k1 c rfl q⟩
theorem rm (h:RdA K ta fa):RdE K (tCB oy (dm (wG ta) kZ)) (fLR2 fa):=by
 intro st σ H O Z Q E r st' e q;refine bsP e fun rs st1 e1 e=>?_;refine bsO e fun ds e2 e=>?_;refine bsP e fun i j e3 e=>?_;obtain⟨c,e⟩:=aD e;cases e;refine h st σ H O Z _ E rs _ e1 fun vs H1 O1 x1 k1 E1 rvs=>?_;have hv:=EY (rvs.bas E1 e2) e3;exact⟨i,j,hv,⟨c.1,c.2.1,c.2.2.1,c.2.2.2.1⟩,zS E1 x1 k1 c rfl q⟩
end
section
variable {prog:Program} {w:World} {A:Around} {E:Value->Shared->Prop} {s:Shared}
theorem yL {xs ys:Array Value} (ho:s.heap.get? l=some { cls:=.type "list",data:=.seq xs n }) (hm:s.heap.get? m=some { cls:=.type "list",data:=.seq ys k }) (hne:l≠m)
  (hs:s.heap.IsSliceOf sl .none .none .none) (hz:xs.size+ys.size<=sizeLine)
  (q':∀f:Array Value->Array Value,f xs=ys->Q () { s with heap:=s.heap.update l (Obj.mapSeq f) }):wpAny (model prog w) A (setItem (.ref l) (.ref sl) (.ref m)) Q E s:=by
 have hl:s.heap.IsList l xs:=PySem.IsL.isList (n:=n) ho;obtain⟨os,hos,hcs,hds⟩:=id hs;have ts:s.TypeIs (.ref sl) "slice":=⟨os,hos,hcs⟩;have tm:s.TypeIs (.ref m) "list":=⟨_,hm,rfl⟩;unfold setItem
 try with_reducible refine Aq ?_
 first|refine Aa (Ac ?_)|skip
 refine Aa (wpAny_sequenceKey hl.typeIs (by decide) (Aa (AW (name:=Str.ofString "__setitem__") hl.typeIs slot_list_setitem (Az slot_list_setitem hl.typeIs entry_list_setitem ?_ (args_list_setitem _ _ _)))))
 show wpAny _ _ (Builtin.List.listSubscript? (.ref sl) >>= _) _ _ s;refine Aa ?_;unfold Builtin.List.listSubscript?;refine Aa (wpAny_specialOf ts slice_no_index ?_);simp only[Option.isNone_none,if_true];refine Ac ?_;show wpAny _ _ (typeOf (.ref sl) >>= _) _ _ s;refine Aa (AJ ts ?_);rw[Ah (by decide),listSliceParts_eq]
 refine Aa (Aa (Bt hos hds (x:=.none) rfl (Aa (CJ .none ?_))));rw[Ah (show ¬ ((rawPart none == rawInt 0)=true) from Vc)];refine Aa (Bt hos hds (x:=.none) rfl (Aa (CJ .none (Aa (Bt hos hds (x:=.none) rfl (Aa (CJ .none (Ac ?_))))))));have hsr:Builtin.List.listSameRef (.ref l) (.ref m)=false:=by simp[Builtin.List.listSameRef,hne]
 simp only[hsr,Ze,if_false];refine Aa ?_;unfold Builtin.List.listAllItems;refine Aa (AJ tm ?_);rw[Af (by rw[show(Value.type "list" == Value.type "list")=true from rfl];rfl)]
 refine AL hm rfl (Aa (AL ho rfl ?_));refine Aa (wpAny_of_eq (sliceIndices_raw none none none xs.size (by simp)) ?_)
 show wpAny _ _ (if ((1:Int) == 1)=true then _ else _) _ _ s;rw[Af (show((1:Int) == 1)=true from rfl)];refine Aa (AU ?_);rw[Ah (by unfold Builtin.List.listTooLong;rw[decide_eq_true_eq];lia)]
 have ef:xs.extract 0 (sliceBounds none none none xs.size).1.toNat++ys++xs.extract (max (sliceBounds none none none xs.size).1 (sliceBounds none none none xs.size).2.1).toNat xs.size=ys:=by
  show xs.extract 0 (0:Int).toNat++ys++xs.extract (max (0:Int) (xs.size:Int)).toNat xs.size=ys;have:(max (0:Int) (xs.size:Int)).toNat=xs.size:=by lia
  rw[this];simp
 refine Aa (Bz ho rfl ?_ (by lia) ?_)
 ·refine Aa (wpAny_letGo ?_);exact Aa (Ac (Ac ⟨.none,rfl,Ac (q' _ ef)⟩))
 ·exact Qd (C8 (congrArg Array.size ef)) (by lia)
end
end VF22
namespace VF22
open PySem PySem.Spec PyProof.Rows L2 VF
section
variable {X:Cx} {K:Ab}
def GV (to:TE):TG:=fun v σ H Q=>to σ H fun o H1=>∃(p m:Addr) (xs ys:List V),o=.ref p/\v=.ref m/\p≠m/\H1 p=some (.lst xs)/\H1 m=some (.lst ys)/\xs.length+ys.length<=1000000/\Q σ (upd H1 p (.lst ys))
theorem EZ (ho:PE X o to):PG X (.Subscript o (.Slice none none none p2) pos) (GV to):=by
 intro pins s σ H v u Q I r h
 have ha:assign (.Subscript o (.Slice none none none p2) pos) X.env u=(do
   let ov ← holding [u] (eval o X.env)
   let iv ← holding [u,ov] (eval (.Slice none none none p2) X.env)
   standAt pos
   holding [u,ov,iv] (setItem ov iv u)
   release [iv,u,ov] []):=rfl
 rw[ha];refine Aa (Aq (thn (ho pins s σ H _ I h) fun ov s1 ⟨x,H1,I1,r1,q1⟩=>?_));obtain⟨p,m,xs,ys,rfl,rfl,hne,hp,hm,hz,q⟩:=q1;cases r1;cases r;refine Aa (Aq (wpAny_Slice ?_));rw[evalPart_none];refine Ac (Ac (Ac ?_));refine Aa (B5 (Aa (Aq ?_)));have I2:L2.Inv X pins σ H1 { s1 with heap:=s1.heap.push { cls:=.type "slice",data:=.fields #[.none,.none,.none] } }:=I1.kept (t':=s1.toks) fun b ob q=>Ad _ q;obtain⟨its,n,rx,hox,hzx⟩:=I2.lst hp;obtain⟨jts,k,ry,hoy,hzy⟩:=I2.lst hm;have hs:=few (n:=xs.length+ys.length) hz;have lx:=rx.length;have ly:=ry.length;refine yL hox hoy hne (Heap.IsSliceOf.new ..) (by rw[Wb,Wb];lia) fun f ef=>wpAny_release ⟨σ,_,I2.lstUpd (its':=jts) (n':=if jts.toArray.size == its.toArray.size then n else n+1) hp hox ?_ ry hzy s1.toks,q⟩
 show Obj.mapSeq f _=_;simp[Obj.mapSeq,ef]
def slcD:D->D->Option D
 | .lst xs,.lst ys=>if xs.length+ys.length<=1000000 then some (.lst ys) else none
 | _,_=>none
def sSlc (fe:FE) (i:Nat):FS:=fun st=>(fe st).bind fun x=>(esc x.1 x.2).bind fun y=>(y.2[i]?).bind fun s=>(s.ow).bind fun z=>(slcD z y.1).bind fun z'=>some (.nx (y.2.set i (s.put z')))
theorem E8 (he:RdE K te fe):RdS K (kr te (GV (gc i))) (sSlc fe i):=by
 intro st σ H O Z Dn E o e q;refine bsP e fun r st1 e1 e=>?_;refine bsP e fun dv st2 e2 e=>?_;refine bsO e fun s e3 e=>?_;refine bsO e fun x e4 e=>?_;refine bsO e fun x' e5 e=>?_;cases e;refine he st σ H O Z _ E r st1 e1 fun v H1 O1 x1 k1 E1 rv w1=>?_;obtain⟨O2,x2,k2,E2,da⟩:=rv.esc E1 e2;obtain⟨p,g1,g2,g3⟩:=E2.own i s x e3 e4;refine⟨.ref p,g1,?_⟩;cases x with
 | lst xs =>
  cases dv with
  | lst ys =>
   obtain⟨c,e5⟩:=aD e5;cases e5;obtain⟨ws,h1,h2⟩:=g3;cases da with
   | @lst m us _ n0 n1 n2 n3 =>
    have hne:p≠m:=fun z=>n0 (.inl (by rw[← z];exact g2))
    refine⟨p,m,ws,us,rfl,rfl,hne,h1,n1,by rw[h2.1,n2];exact c,?_⟩
    obtain⟨E4,x4,k4⟩:=E2.write (o:=.lst us) e3 e4 g1 (y:=.lst ys) ⟨us,aM,(El.upd (K:=K) (Y:=U O2 Z) ⟨n2,n3⟩ (.inl g2))⟩;exact q σ _ O2 ((x1.trans x2).trans x4) ((k1.trans k2).trans k4).kq E4
  | _=>cases e5
 | _=>cases dv<;>cases e5
end
end VF22
namespace VF22
open PySem PySem.Spec PyProof.Rows L2 VF
def Itw (K:Ab) (a:Addr) (xs:List V):It:=⟨fun i H=>SqL K H a xs/\i<xs.length,fun i H v H'=>H'=H/\xs.reverse[i]?=some v,fun i _=>xs.length<=i⟩
theorem yM {P:Program} {w:World} {K:Ab} {tg:Expr} (a it:Addr) (xs:List V):Turn P w K tg (Itw K a xs) [it] it (fun i h=>h.IsRevIter it a ((xs.length:Int)-1-(i:Nat))/\i<=xs.length) where
 mem:=by simp
 obj:=fun i h st b hb=>by
  have e:b=it:=by simpa using hb
  subst e;obtain⟨⟨o,e,c,d⟩,_⟩:=st;exact⟨o,e,fun v z=>by rw[d]at z;cases z⟩
 keep:=fun i h h' st k=>⟨st.1.at fun o e=>k it (by simp) o e,st.2⟩
 item:=by
  intro X hP hw hK hc i pins s σ H E I hf st hg;subst hP hw hK;obtain⟨f0,f1,f2,f3,f4,f5⟩:=hf it (by simp)
  obtain⟨hq,hi⟩:=hg;obtain⟨its,rv,p,hz⟩:=I.list hq;have hl:=rv.length;have e1:((xs.length:Int)-1-(i:Nat))=((xs.length-1-i:Nat):Int):=by lia
  have st:=st.1;rw[e1]at st;have hx:xs.reverse[i]?=some (xs[xs.length-1-i]'(by lia)):=by rw[List.getElem?_reverse hi,Za (by lia)]
  obtain⟨u,hu,ru⟩:=rv.get (Za (show xs.length-1-i<xs.length by lia))
  refine wpAny_pyNext_rev_item st p.isList (x:=u) (by simpa using hu) fun h' st' sb=>?_
  have I1:L2.Inv X pins σ H { s with heap:=h' }:=I.turned (t':=s.toks) (fun b o hb e=>sb.extBut b o hb e) f0 f1 f3 f4 f5;obtain⟨o,e,c,d⟩:=id st';have e2:(((xs.length-1-i:Nat):Int)-1)=((xs.length:Int)-1-((i+1:Nat):Int)):=by lia
  rw[e2]at st';exact⟨u,rfl,kW (s:={ s with heap:=h' }) e c d (by decide) ⟨_,H,I1,ru,⟨rfl,hx⟩,⟨st',hi⟩,fun b hb=>(hf b hb).1⟩⟩
 done:=by
  intro X hP hw hK hc i pins s σ H E I hf st hg;subst hP hw hK;obtain⟨f0,f1,f2,f3,f4,f5⟩:=hf it (by simp)
  have hg':xs.length<=i:=hg;obtain⟨st,hi⟩:=st;have e1:((xs.length:Int)-1-(i:Nat))=-1:=by lia
  rw[e1]at st;exact wpAny_pyNext_rev_end (I.ok.hd hc) st fun h' eb=>⟨rfl,I.turned (t':=s.toks) (fun b o hb e=>eb b o hb e) f0 f1 f3 f4 f5⟩
 self:=fun _ _ _ _ _ st h=>wpAny_pyIter_revIter st.1 h
section
variable {X:Cx} {K:Ab}
def zT (K:Ab) (ta:TA):TI:=fun σ H R=>ta σ H fun vs H1=>∃a xs,vs=[.ref a]/\SqL K H1 a xs/\R (Itw K a xs) H1
theorem yN {tg a:Expr} {te:TE} {p pos:Pos} (h:X.K=K) (hg:Gl X "reversed") (hs:starEach [a] X.env=[(false,eval a X.env)]) (hm:X.mg "reversed"=none) (ha:PE X a te):PI X tg (.Call (.Name "reversed" p) [a] [] pos) (zT K (dm te kZ)):=by
 subst h;intro pins s σ H R I h;refine Call_ (gh I hg hm VF.boot_reversed (Ax (thn (si ha ae hs pos pins s σ H _ I h) fun us s1 ⟨vs,H1,I1,r1,q1⟩=>?_) hs rfl));obtain⟨b,xs,e,hq,q⟩:=q1;subst e;cases r1 with
 | cons r rr =>
  cases rr;cases r;obtain⟨its,rv,pt,hz⟩:=I1.list hq;have hl:=rv.length;refine call_reversed_list pt.isList ?_;have I2:L2.Inv X pins σ H1 { s1 with heap:=s1.heap.push (revObj b ((its.toArray.size:Int)-1)) }:=I1.kept (t':=s1.toks) fun c o e=>Ad _ e;have st:(s1.heap.push (revObj b ((its.toArray.size:Int)-1))).IsRevIter s1.heap.objs.size b ((xs.length:Int)-1-((0:Nat):Int)):=by
   refine⟨_,Al _ rfl,rfl,?_⟩;show Data.fields #[.ref b,rawInt ((its.toArray.size:Int)-1)]=_;rw[Wb,← hl];simp
  refine wpAny_pyIter_revIter (s:={ s1 with heap:=s1.heap.push (revObj b ((its.toArray.size:Int)-1)) }) st ⟨s1.heap.objs.size,[s1.heap.objs.size],_,_,H1,rfl,I2,yM b _ xs,⟨st,Wh _⟩,fun c hc=>?_,q⟩;have e:c=s1.heap.objs.size:=by simpa using hc
  subst e;exact I1.fpOk (Va _) (I1.hok.fresh (Va _))
def lstD:D->Option (List D)
 | .lst ds=>some ds
 | _=>none
def fIRvL (fe:FE):FI:=fun st=>(fe st).bind fun x=>(esc x.1 x.2).bind fun y=>(lstD y.1).bind fun ds=>some (ds.reverse,y.2)
theorem yO (h:RdE K te fe):RdI K (zT K (dm te kZ)) (fIRvL fe):=by
 intro st σ H O Z R E items st' e q;refine bsP e fun r st1 e1 e=>?_;refine bsP e fun d st2 e2 e=>?_;refine bsO e fun ds e3 e=>?_;cases e;refine h st σ H O Z _ E r st1 e1 fun v H1 O1 x1 k1 E1 rv w1=>?_;obtain⟨O2,x2,k2,E2,da⟩:=rv.esc E1 e2;cases d with
 | lst ds' =>
  cases e3;cases da with
  | @lst a vs _ h0 h1 h2 h3 =>
   refine⟨a,vs,rfl,.inl (.inl h1),q _ H1 O2 (x1.trans x2) (k1.trans k2) E2 fun H' O' ex _=>?_⟩;have g1:H' a=some (.lst vs):=ex.kp a _ h1 fun z=>h0 (.inl z);have el':El K (U O' Z) H' vs ds:=El.ext ⟨h2,h3⟩ ex;refine⟨fun i hi=>?_,fun i d hd=>?_⟩
   ·show vs.length<=i;rw[Be]at hi;lia
   ·have hi:i<vs.length:=by
     have:=(Xa.mp hd).1;rw[Be]at this;lia
    refine⟨⟨.inl (.inl g1),hi⟩,fun x H'' hx=>?_⟩;obtain⟨rfl,hx⟩:=hx;exact⟨Same.refl _,el'.rev.2 i x d hx hd⟩
 | _=>cases e3
end
end VF22
namespace VF22
open PySem PySem.Spec PyProof.Rows L2 VF
section
variable {X:Cx} {K:Ab}
@[irreducible] def PAi (X:Cx) (es:List Expr) (t:TA):Prop:=PA X es t
theorem oz:PAi X [] kZ:=by unfold PAi;exact ae
theorem hU (ha:PE X e te) (hr:PAi X es t) (h:qQ e=true):PAi X (e::es) (dm te t):=by
 unfold PAi at *;exact ap ha hr h
theorem yP (h:PAi X es t):PE X (.List es pos) (u7 t):=by
 unfold PAi at h;exact cF h
@[irreducible] def PEi (X:Cx) (e:Expr) (t:TE):Prop:=PE X e t
theorem oA (h:PAi X es t):PEi X (.List es pos) (u7 t):=by
 unfold PEi;exact yP h
theorem rq (hr:IxR X r) (ha:PEi X a ta) (hb:PE X b tb) (hs:sr b):PEi X (.Subscript a b pos) (tOp r ta tb):=by
 unfold PEi at *;exact bd hr ha hb hs
end
end VF22
namespace VF
open PySem PySem.Spec PyProof.Rows L2
theorem fsc {N P:List Str} {sc:Scope} (h:N.Nodup/\(∀x∈P,sc.names.lookup x=some .local∨sc.names.lookup x=some .cell)/\∀y∈sc.names,y.2≠.free) (a:sc.kind=.function:=by rfl) (b:sc.isCoroutine=false:=by rfl) (c:sc.isGenerator=false:=by rfl) (d:N.take P.length=P:=by rfl):FnScope N P sc:=⟨a,b,c,h.1,d,h.2.1,h.2.2⟩
structure FH (K:Ab) (x:Str) (st:Stmt):Prop where
 ex:∃f fd,Fun K x x st f fd/\PySem.W.nsIn K mainGlobals x=some (some (.ref f))
theorem fh {K:Ab} {x:Str} {st:Stmt} {f:Addr} {oc:Value} {od an:Option Addr} {osl:Array (Option Value)} {kV doc pm cdv ct:Value} (a:PySem.W.nsIn K mainGlobals x=some (some (.ref f)))
  (l:K.lookup f=some ⟨oc,od,.func (PySem.W.fnOf x x (gI st) (d7 st) (aA st) .none kV doc pm an cdv ct),osl⟩) (c:PySem.W.codeIn K cdv x=true) (k:PySem.W.keepIn K (.ref f)=true):FH K x st:=⟨f,_,DY l c k,a⟩
def Bn (x:Str) (st:Stmt) (ps:List Str):Prop:=∀(kV doc pm:Value) (an:Option Addr) (cdv ct:Value) (us:List Value),us.length=ps.length->bindArgs (PySem.W.fnOf x x (gI st) (d7 st) (aA st) .none kV doc pm an cdv ct) ⟨us,[]⟩=pure (ps.zip us)
theorem arS {n:Nat} {P:List Value->Prop} {us:List Value} (hl:us.length=n+1) (h:∀a r,r.length=n->P (a::r)):P us:=by
 cases us with
 | nil=>cases hl
 | cons a r=>exact h a r (Nat.succ.inj hl)
theorem ar1 {P:List Value->Prop} (h:∀a,P [a]) (us:List Value) (hl:us.length=1):P us:=arS hl fun a r hr=>by
 rw[Yk hr];exact h a
theorem ar2 {P:List Value->Prop} (h:∀a b,P [a,b]) (us:List Value) (hl:us.length=2):P us:=arS hl fun a r hr=>ar1 (P:=fun r=>P (a::r)) (h a) r hr
theorem ar3 {P:List Value->Prop} (h:∀a b c,P [a,b,c]) (us:List Value) (hl:us.length=3):P us:=arS hl fun a r hr=>ar2 (P:=fun r=>P (a::r)) (h a) r hr
section
variable {P:Program} {w:World} {K:Ab} {mg:Str->Option Value} {base h:Heap} {x:Str} {st:Stmt} {N ps:List Str} {k:Nat} {F:FS}
abbrev Bd' (P:Program) (w:World) (K:Ab) (mg:Str->Option Value) (base:Heap) (x:Str) (st:Stmt) (N:List Str) (k:Nat) (F:FS):Prop :=
 ∀{f:Addr} {cdv:Value} {A:Around} {outer:List Env} {s:Shared} {H:Hp} {E:XK},Room k (A.deeper (envOfC x (aA st) s.heap.objs.size f cdv))->∃t,PSs (qM CX0 P w K mg base N x (aA st) f cdv A outer s H E).nox (d7 st) t/\RdS K t F
theorem okV (F':Fun K x x st f fd) (S:FnScope N ps (aA st)) (hB:Bd' P w K mg base x st N k F):FnOk P w K mg base CX0 (k+1) f fd ps (spV K (bQ F N.length ps.length)):=by
 refine F'.ok S (fun vs H Q E h=>Ec h) fun cdv A outer s H vs Q E hr h=>?_;obtain⟨t,h1,h2⟩:=hB hr;exact⟨t,h1,yi h2 h⟩
theorem FH.cal (h':FH K x st) (X:K.In h) (G:h.Ns mainGlobals mg) (S:FnScope N ps (aA st)) (hb:Bn x st ps) (hB:Bd' P w K mg base x st N k F):Cal P w K mg base x (k+1) ps (spV K (bQ F N.length ps.length)):=by
 obtain⟨f,fd,F',a⟩:=h'.ex;exact⟨f,fd,okV F' S hB,CS X G a,F'.kp,F'.binds hb⟩
theorem FH.calI (h':FH K x st) (X:K.In h) (G:h.Ns mainGlobals mg) (S:FnScope N ps (aA st)) (hb:Bn x st ps) (hB:Bd' P w K mg base x st N k F):Cal P w K mg base x (k+1) ps (pB K (dL F N.length ps.length)):=by
 obtain⟨f,fd,F',a⟩:=h'.ex;refine⟨f,fd,F'.ok S (fun vs H Q E h=>Gj h) fun cdv A outer s H vs Q E hr h=>?_,CS X G a,F'.kp,F'.binds hb⟩;obtain⟨t,h1,h2⟩:=hB hr;exact⟨t,h1,uk h2 h⟩
theorem FH.law (h':FH K "law" st) (X:K.In h) (G:h.Ns mainGlobals mg) (hfa:mg "law"=some (.ref fa)) (S:FnScope N ["_law_script"] (aA st)) (hb:Bn "law" st ["_law_script"]) (lv:∀ns:List Int,bQ F N.length 1 [.fl (ns.map D.int)]=some (.bl true,false))
  (hB:∀base:Heap,Bd' P w K mg base "law" st N k F):∃fd:FuncData,(∀(s:Shared) (v:Value),BindsTo s fd ⟨[v],[]⟩ [("_law_script",v)])/\∀base:Heap,K.In base->base.Ns mainGlobals mg->FnOk P w K mg base CX0 (k+1) fa fd ["_law_script"] (sB K):=by
 obtain⟨f,fd,F',a⟩:=h'.ex;have e:=hfa.symm.trans (CS X G a);cases e;refine⟨fd,fun s v=>?_,fun base _ _=>(okV F' S (hB base)).imp fun vs H Q E h=>?_⟩
 ·obtain⟨oc,od,kV,doc,pm,an,cdv,ct,osl,rfl,lk,hcd⟩:=F'.ex;exact .of_eq (hb kV doc pm an cdv ct [v] rfl)
 ·obtain⟨a,ns,rfl,sq,_,q⟩:=h;refine⟨fun _=>False,[.fl (ns.map D.int)],(.bl true,false),El.one (.fl (vs:=ns.map V.int) ?_ (by simp) fun i v d h1 h2=>?_),fun p z=>z.elim,lv ns,fun v H' _ r=>?_⟩
  ·rcases sq with s|s
   ·exact .inl ⟨s,fun z=>z⟩
   ·exact .inr fun H'=>.inr s
  ·rw[Qb]at h1 h2;obtain⟨c,e1,rfl⟩:=Zd.mp h1;rw[e1]at h2;obtain rfl:=Option.some.inj h2;exact .int _
  ·obtain rfl:=(show v=V.bl true from DA.ba (show DA K (fun _=>False) H' v (.bl true) from r));exact q H'
end
theorem walkL {l:PySem.W.OpenLaw} {loose:List Str} {XP:(Str->Option Value)->Heap->Prop} {YP:World->Heap->Prop} {d:DefRec} {K:Params->Ab} {k:Nat} (hn:l.most=some 63) (hdf:d.params.defaults=[]) (hr:Room k callerA)
  (hY:∀(w:World) (h:Heap),YP w h->(K w.params).In h)
  (F:∀(w:World) (mg:Str->Option Value) (fa:Addr) (h:Heap),(K w.params).In h->h.Ns mainGlobals mg->mg d.name=some (.ref fa) ->
   ∃fd:FuncData,(∀(s:Shared) (u:Value),BindsTo s fd ⟨[u],[]⟩ [("_law_script",u)])/\∀base:Heap,(K w.params).In base->base.Ns mainGlobals mg->FnOk l.prog w (K w.params) mg base CX0 k fa fd ["_law_script"] (sB (K w.params))) :
  PySem.W.WalkO q loose XP YP l.row.toRowW d [] (fun f vs=>PySem.call f vs) :=
 L2.walk_of (n:=63) (k:=k) (x:="_law_script") (CX:=fun _=>CX0) (sp:=fun w=>sB (K w.params)) hn (by decide) hdf hr hY F (fun _ _ a ns hl _ hS=>⟨a,ns,rfl,hS,hl,fun _=>rfl⟩) fun _ _ _ _ _ z=>z
end VF
namespace VF22
open PySem PySem.Spec PyProof.Rows L2 VF
section
variable {prog:Program} {w:World} {κ:Type} [DecidableEq κ] {knd:HeapKind prog w κ} {A:Around} {E:Value->Shared->Prop} {s:Shared}
theorem lT {nm:String} {a b:Addr} {xs ys:List (κ×Addr×Value)} {Q:Bool->Shared->Prop} (hu:knd.room A) (ha:(a == sysModules)=false) (hb:(b == sysModules)=false) (da:s.heap.DictOfH knd a xs) (db:s.heap.DictOfH knd b ys)
  (hk:xs.map (·.1)=ys.map (·.1)) (hv:∀(i:Nat) x y,xs[i]?=some x->ys[i]?=some y->SeqAt.EqAt A s x.2.2 y.2.2 true) (h:Q true s) : wpAny (model prog w) A (Builtin.Dict.samePairs nm a b) Q E s:=by
 obtain⟨oa,es,ep,hoa,_,hda,hea,hia,hna⟩:=da;obtain⟨ob,fs,ep',hob,_,hdb,heb,hib,hnb⟩:=db;have la:=CB hea;have lb:=CB heb;have ll:xs.length=ys.length:=by have:=congrArg List.length hk;rwa [Ya,Ya]at this
 unfold Builtin.Dict.samePairs Builtin.Dict.showsAll;rw[Ah (show ¬ (a == sysModules)=true by rw[ha];exact Vc),Ah (show ¬ (b == sysModules)=true by rw[hb];exact Vc)]
 refine Aa (Ac (Aa (Ac ?_)));refine Aa (AB hoa hda ?_);refine Aa (AB hob hdb ?_);rw[Ah (by rw[la,lb,ll];simp)]
 refine Aa (Bd hoa hda ?_);refine Aa ?_;rw[Std.Legacy.Range.forIn_eq_forIn_range'];simp only[Std.Legacy.Range.size,Nat.sub_zero,Nat.add_sub_cancel,Nat.div_one];refine Cq _ (fun rest q s'=>s'=s/\q=(none,())/\∀i∈rest,i<xs.length) _ ?_ ?_ _ _ ⟨rfl,rfl,fun i hi=>by have:=List.mem_range'_1.mp hi;lia⟩
 ·rintro i rest q s' ⟨rfl,rfl,hr⟩;have hi:=hr i Xb;have hj:i<ys.length:=by lia
  have e1:=Za hi;have e2:=Za hj;have ek:xs[i].1=ys[i].1:=by
   have:=congrArg (·[i]?) hk;simp only[Qb,e1,e2,CC]at this;exact Option.some.inj this
  refine Aa (AB hoa hda ?_);rw[entry_at hea i,e1];show wpAny _ _ (holding [_,_] _ >>= _) _ _ _;refine Aa (Aq (Aa (wpAny_dictFind_heap (k:=xs[i].1) hu (hia _ (Qh hi)) hob hdb heb hib hnb (fun no=>absurd (by rw[e2,ek]) (no i ys[i].2)) fun j p ej=>?_)))
  have ji:j=i:=by
   have hl:j<(ys.map (·.1)).length:=by rw[Ya];exact(Xa.mp ej).1
   refine(BG (xs:=ys.map (·.1)) (h₀:=hl) (h₁:=by rw[Ya];exact hj) hnb).mp ?_
   rw[AO,AO,← ek];have:=(Xa.mp ej).2;rw[this]
  subst ji;refine Aa (AB hob hdb ?_);rw[entry_at heb j,e2];refine Aq (hv j _ _ e1 e2 prog w _ _ ?_);show wpAny _ _ (if (!true)=true then _ else _) _ _ _;rw[Ah (by decide)]
  refine Aa (Bd hoa hda ?_);rw[Ah (by simp)]
  exact Ac ⟨rfl,rfl,fun k hk=>hr k (Vb _ hk)⟩
 ·rintro q s' ⟨rfl,rfl,_⟩;exact Ac h
end
end VF22
namespace VF22
open PySem PySem.Spec PyProof.Rows L2 VF
section
variable {X:Cx} {K:Ab}
def E9 (K:Ab) (neg:Bool):R2:=fun x y H Q=>∃(Y:AS) (ds:List (List Key×D)),BA K Y H x (.dt ds)/\BA K Y H y (.dt ds)/\(∀kv∈ds,Pl 38 kv.2)/\Q (.bl (!neg)) H
theorem kt_at {H:Hp}:∀{kvs:List (List Key×V)} {xs:List (List Key×Addr×Value)},KT H kvs xs->∀(i:Nat) x,xs[i]?=some x->∃p,kvs[i]?=some p/\p.1=x.1/\RelV p.2 x.2.2
 | _,_,.nil,i,x,h=>by cases i<;>cases h
 | _,_,.cons z t,0,x,h=>by cases h;exact⟨_,rfl,z.1,z.2.2⟩
 | _,_,.cons _ t,i+1,x,h=>kt_at t i x h
theorem jf {H:Hp}:∀{kvs:List (List Key×V)} {xs:List (List Key×Addr×Value)},KT H kvs xs->xs.map (·.1)=kvs.map (·.1)
 | _,_,.nil=>rfl
 | _,_,.cons z t=>by rw[Wd,Wd,jf t,z.1]
theorem lU {nm:String} {a b:Addr} {A:Around} {s:Shared} {prog:Program} {w:World} {Q:Value×Value->Shared->Prop} {E:Value->Shared->Prop} (ta:s.TypeIs (.ref a) "dict") (h:Q (.ref a,.ref b) s):wpAny (model prog w) A (Builtin.Dict.dictSlotArgs nm ⟨[.ref a,.ref b],[]⟩) Q E s:=by
 unfold Builtin.Dict.dictSlotArgs;exact Aa (AZ ta (Ac h))
open Classical in
theorem Fb (hK:X.K=K) (hu:X.A.units+64<cLine):OpR X (compareOp .Eq) (E9 K false):=by
 intro pins s σ H x y v u Q I rx ry ⟨Y,ds,b1,b2,pl,q⟩;obtain⟨a,ep,ka,rfl,_,ea,k1,d1⟩:=b1;obtain⟨b,ep',kb,rfl,_,eb,k2,d2⟩:=b2;obtain rfl:v=Value.ref a:=rx;obtain rfl:u=Value.ref b:=ry;obtain⟨_,na,xs,r1,da⟩:=ph I.hok ea;obtain⟨_,nb,ys,r2,db⟩:=ph I.hok eb;have hv:∀(i:Nat) x y,xs[i]?=some x->ys[i]?=some y->SeqAt.EqAt X.A.in1 s x.2.2 y.2.2 true:=fun i x y h1 h2=>by
  obtain⟨p,e1,_,v1⟩:=kt_at r1 i x h1;obtain⟨p',e2,_,v2⟩:=kt_at r2 i y h2;have hi:i<ds.length:=by
   have:=congrArg List.length k1;rw[Ya,Ya]at this;have:=(Xa.mp e1).1;lia
  have ed:=Za hi;have pd:=pl _ (Qh hi);have:=(RH.eqAt 38 (A:=X.A.in1) pd pd ((d1 i _ _ e1 ed).rh pd I hK v1) ((d2 i _ _ e2 ed).rh pd I hK v2) (by show X.A.units+1+38<cLine;lia)).1
  rwa [Ag rfl]at this
 have kk:xs.map (·.1)=ys.map (·.1):=by rw[jf r1,jf r2,k1,k2]
 refine CH (op:=.Eq) da.typeIs db.typeIs PySem.F.slot_dict_eq (Az PySem.F.slot_dict_eq da.typeIs PySem.F.entry_dict_eq (Aa (lU da.typeIs (Aa (Co (T:="dict") db.typeIs De ?_)))) (PySem.F.args_dict_eq_2 _ _)) (by lia)
 simp only[C0,Ze,if_false];refine Aa (Ac (Aa (Ac (Aa (lT (AD (by lia)) na nb da db kk hv (Ac ⟨_,rfl,(fun z=>nomatch z),?_⟩))))))
 exact⟨.bl true,H,I,rfl,q⟩
open Classical in
theorem wI (hK:X.K=K) (hu:X.A.units+64<cLine):OpR X (compareOp .NotEq) (E9 K true):=by
 intro pins s σ H x y v u Q I rx ry ⟨Y,ds,b1,b2,pl,q⟩;obtain⟨a,ep,ka,rfl,_,ea,k1,d1⟩:=b1;obtain⟨b,ep',kb,rfl,_,eb,k2,d2⟩:=b2;obtain rfl:v=Value.ref a:=rx;obtain rfl:u=Value.ref b:=ry;obtain⟨_,na,xs,r1,da⟩:=ph I.hok ea;obtain⟨_,nb,ys,r2,db⟩:=ph I.hok eb;have hv:∀(i:Nat) x y,xs[i]?=some x->ys[i]?=some y->SeqAt.EqAt X.A.in1 s x.2.2 y.2.2 true:=fun i x y h1 h2=>by
  obtain⟨p,e1,_,v1⟩:=kt_at r1 i x h1;obtain⟨p',e2,_,v2⟩:=kt_at r2 i y h2;have hi:i<ds.length:=by
   have:=congrArg List.length k1;rw[Ya,Ya]at this;have:=(Xa.mp e1).1;lia
  have ed:=Za hi;have pd:=pl _ (Qh hi);have:=(RH.eqAt 38 (A:=X.A.in1) pd pd ((d1 i _ _ e1 ed).rh pd I hK v1) ((d2 i _ _ e2 ed).rh pd I hK v2) (by show X.A.units+1+38<cLine;lia)).1
  rwa [Ag rfl]at this
 have kk:xs.map (·.1)=ys.map (·.1):=by rw[jf r1,jf r2,k1,k2]
 refine CH (op:=.NotEq) da.typeIs db.typeIs PySem.F.slot_dict_ne (Az PySem.F.slot_dict_ne da.typeIs PySem.F.entry_dict_ne (Aa (lU da.typeIs (Aa (Co (T:="dict") db.typeIs De ?_)))) (PySem.F.args_dict_ne_2 _ _)) (by lia)
 simp only[C0,Ze,if_false];refine Aa (Ac (Aa (Ac (Aa (lT (AD (by lia)) na nb da db kk hv (Ac ⟨_,rfl,(fun z=>nomatch z),?_⟩))))))
 exact⟨.bl false,H,I,rfl,q⟩
open Classical in
noncomputable def uF (neg:Bool):D->D->Option Rz
 | .dt a,.dt b=>if a=b/\∀kv∈a,Pl 38 kv.2 then some (.bl (!neg),false) else none
 | _,_=>none
open Classical in
theorem rz (neg:Bool):RdOp K (E9 K neg) (uF neg):=by
 intro Y H x y d1 d2 z Q lv b1 b2 e q;cases d1 with
 | dt a =>
  cases d2 with
  | dt b =>
   unfold uF at e;obtain⟨⟨rfl,pl⟩,e'⟩:=aD e;cases e';exact⟨Y,a,b1,b2,pl,q _ H (Same.refl H) (.bl _)⟩
  | _=>cases e
 | _=>cases e
end
end VF22
namespace VF22
open PySem PySem.Spec PyProof.Rows L2 VF
abbrev iD (l:List Int):List D:=l.map D.int
abbrev iV (l:List Int):List V:=l.map V.int
def Wf (H:Hp):Prop:=∀a ep kvs,H a=some (.dT ep kvs)->∀b∈ep.2,∃vs,H b=some (.tup vs)
theorem Fc {P:Program} {w:World} {H:Hp} {h:Heap} (ok:HOk P w H h):Wf H:=fun a ep kvs e b hb=>by
 obtain⟨_,_,xs,r,ra,_⟩:=zu ok e;rw[← ra]at hb;obtain⟨x,hx,rfl⟩:=Yc.mp hb;have all:∀{l:List (List Key×V)} {m:List (List Key×Addr×Value)},KT H l m->∀x∈m,∃vs,H x.2.1=some (.tup vs):=fun {l m} q=>by
  induction q with
  | nil=>exact fun x hx=>nomatch hx
  | cons hq t ih =>
   intro x hx;rcases Yd.mp hx with rfl|hx
   ·exact⟨_,hq.2.1⟩
   ·exact ih x hx
 exact all r x hx
def tWf (t:TE):TE:=fun σ H Q=>t σ H fun v H1=>Wf H1->Q v H1
theorem zU {X:Cx} {e:Expr} {t:TE} (h:PE X e t):PE X e (tWf t):=by
 intro pins s σ H Q I ht;refine thn (h pins s σ H _ I ht) fun u s1 z=>?_;obtain⟨v,H1,I1,r,q⟩:=z;exact⟨v,H1,I1,r,q (Fc I1.hok)⟩
def wJ:V->List V->Hp->VK->Prop:=fun x vs H Q=>∃l ep kvs,x=.ref l/\vs=[]/\H l=some (.dT ep kvs)/\∀n,Q .non (upd H l (.dT (n,[]) []))
section
variable {prog:Program} {w:World} {κ:Type} [DecidableEq κ] {knd:HeapKind prog w κ} {d:Addr}
theorem uG:MeetsIn prog w (Builtin.«dict.clear» ⟨[.ref d],[]⟩) fun _ R s=>∃kvs,s.heap.DictOfH knd d kvs/\kvs.length<=sizeLine/\∀h' n,(∃o,h'.get? d=some o/\o.ExactDict/\o.data=.dict #[] n)->Heap.SameBut d s.heap h'->R (.ok (.ret .none)) { s with heap:=h' } :=
 .of_wp fun A R s ⟨kvs,hm,hz,h⟩=>by
  have ty:=hm.typeIs;obtain⟨o,es,ep,e1,e2,e3,e4,_⟩:=hm;have sz:es.size<=sizeLine:=by rw[CB e4];exact hz
  have new:∃o',(s.heap.update d (Obj.mapDictKeys fun _=>#[])).get? d=some o'/\o'.ExactDict/\o'.data=.dict #[] (ep+1):=⟨_,BU _ e1 (Obj.isFreed_of_dict (Obj.data_mapDictKeys e3 _)),e2.mapDictKeys _,Obj.data_mapDictKeys e3 _⟩;unfold Builtin.«dict.clear» Builtin.Dict.noArgs bearsInstanceDictMark;refine Aa (Aa (AZ ty ?_));refine Ac (Aa (AB e1 e3 (Aa (Aa (wpAny_load e1 (Ac (Aa (wpAny_updateDictKeys (hz:=sz) e1 e3 ?_))))))));split
  ·exact Aa (wpAny_letGo (Ac ⟨_,rfl,h _ _ new (Bh ..)⟩))
  ·exact Aa (Ac (Ac ⟨_,rfl,h _ _ new (Bh ..)⟩))
end
theorem yQ {X:Cx}:MtR X "dict.clear" wJ:=by
 intro pins s σ H x vs v us Q I rx rv h;obtain⟨l,ep,kvs,rfl,rfl,hH,q⟩:=h;cases rx;have hus:=rv.zero;subst hus;obtain⟨hz,hd,xs,rel,dd⟩:=ph I.hok hH;refine call_meetsIn C1 dd.typeIs PySem.F.entry_dict_clear (PySem.F.args_dict_clear_1 _) uG ⟨xs,dd,by rw[← Paired.length rel];exact hz,fun h' n ⟨o,e1,e2,e3⟩ hs=>?_⟩
 exact⟨.non,_,nO (ob:=.dT (n,[]) []) I (by rw[hH];exact True.intro) hs ⟨o,e1⟩ ⟨Wh _,hd,[],.nil,rfl,o,#[],e1,e2,e3,rfl,BZ⟩,rfl,q n⟩
section
variable {K:Ab} {Y Y' O O' O1 O2 Z Z' W:AS} {H H0 H' H1 H2:Hp} {v:V} {d:D} {vs:List V} {ds:List D} {a p pf:Addr} {st st' st1 st2:En} {σ σ':L2.St} {ep:Nat×List Addr} {kvs:List (List Key×V)} {j q r:Nat}
theorem wK:∀{l:List Int} {vs:List V},El K Y H vs (iD l)->vs=iV l
 | [],vs,h=>h.unnil
 | i::l,vs,h=>by
  obtain⟨v,r,rfl,hd,t⟩:=El.uncons (show El K Y H vs (.int i::iD l) from h);cases hd;rw[wK t];rfl
theorem nu:∀(l:List Int),El K Y H (iV l) (iD l)
 | []=>El.nil
 | i::l=>El.cons (.int i) (nu l)
theorem Fd {a b:List Int} (h:iV a=iV b):a=b:=by
 induction a generalizing b with
 | nil=>cases b with|nil=>rfl|cons=>cases h
 | cons x a ih=>cases b with
  | nil=>cases h
  | cons y b =>
   injection h with h1 h2
   injection h1 with h1
   rw[h1,ih h2]
theorem sX {l:List Int} (h:OA K Y H p (.lst (iD l))):H p=some (.lst (iV l)):=by
 obtain⟨ws,e,t⟩:=h;rw[e,wK t]
theorem zV {l:List Int} (h:H p=some (.lst (iV l))):OA K Y H p (.lst (iD l)):=⟨_,h,nu l⟩
abbrev KL:=List (List Key×List Int)
abbrev dKL (kl:KL):List (List Key×D):=kl.map fun x=>(x.1,.lst (iD x.2))
theorem jg (kl:KL):(dKL kl).map (·.1)=kl.map (·.1):=by rw[Xe];rfl
structure Dc (W:AS) (H:Hp) (pf:Addr) (ep:Nat×List Addr) (kvs:List (List Key×V)) (kl:KL):Prop where
 here:H pf=some (.dT ep kvs)
 keys:kvs.map (·.1)=kl.map (·.1)
 tup:∀b∈ep.2,∃vs,H b=some (.tup vs)
 val:∀(i:Nat) x y,kvs[i]?=some x->kl[i]?=some y->∃a,x.2=.ref a/\W a/\H a=some (.lst (iV y.2))
theorem Dc.go {kl:KL} (D:Dc W H pf ep kvs kl) (k:∀b o,H b=some o->¬ O b->H' b=some o) (n1:¬ O pf) (n2:∀a,W a->¬ O a) (n3:∀b vs,H b=some (.tup vs)->¬ O b):Dc W H' pf ep kvs kl :=
 ⟨k _ _ D.here n1,D.keys,fun b hb=>let ⟨vs,e⟩:=D.tup b hb;⟨vs,k _ _ e (n3 b vs e)⟩,fun i x y h1 h2=>let ⟨a,e1,e2,e3⟩:=D.val i x y h1 h2;⟨a,e1,e2,k _ _ e3 (n2 a e2)⟩⟩
theorem Dc.da {kl:KL} (D:Dc W H pf ep kvs kl) (n1:¬ Y pf) (n2:∀a,W a->¬ Y a) (lv:∀b,Y b->Lv H b):DA K Y H (.ref pf) (.dt (dKL kl)):=by
 refine .dt n1 (fun b hb=>?_) D.here (by rw[jg];exact D.keys) fun i x y h1 h2=>?_
 ·obtain⟨vs,e⟩:=D.tup b hb;exact⟨fun z=>(lv b z).2 vs e,by rw[e];simp⟩
 ·rw[Qb]at h2;obtain⟨z,e1,rfl⟩:=Zd.mp h2;obtain⟨a,e2,e3,e4⟩:=D.val i x z h1 e1;rw[e2];exact .lst (n2 a e3) e4 (by simp) (nu z.2).2
theorem ER.lessZ (E:ER K st σ H O Z') (n:∀b,Z b->Z' b):ER K st σ H O Z:=by
 have m:∀b,U O Z b->U O Z' b:=fun b z=>z.elim .inl fun z=>.inr (n b z);refine⟨E.len,fun i d h=>?_,fun i s d h1 h2=>?_,E.uni,fun b z w=>E.dis b z (n b w),fun b z=>E.liv b (m b z)⟩
 ·obtain⟨v,g1,g2⟩:=E.val i d h;exact⟨v,g1,g2.less m⟩
 ·obtain⟨p,g1,g2,g3⟩:=E.own i s d h1 h2;exact⟨p,g1,g2,g3.go rfl (fun _ _ e _=>e) fun b z=>.inl (m b z)⟩
theorem ER.moreZ (E:ER K st σ H O Z) (s:Same H H') (n:∀b,Z' b->H b=none/\Lv H' b):ER K st σ H' O (fun b=>Z b∨Z' b):=by
 have m:∀b,U O (fun b=>Z b∨Z' b) b->U O Z b∨H b=none:=fun b z=>z.elim (fun z=>.inl (.inl z)) fun z=>z.elim (fun z=>.inl (.inr z)) fun z=>.inr (n b z).1;refine⟨E.len,fun i d h=>?_,fun i t d h1 h2=>?_,E.uni,fun b z w=>w.elim (E.dis b z) fun w=>(E.liv b (.inl z)).1 (n b w).1,fun b z=>?_⟩
 ·obtain⟨v,g1,g2⟩:=E.val i d h;exact⟨v,g1,g2.go (fun b o e _=>s b o e) m⟩
 ·obtain⟨p,g1,g2,g3⟩:=E.own i t d h1 h2;refine⟨p,g1,g2,g3.go ?_ (fun b o e _=>s b o e) m⟩;cases e:H p with
  | none=>exact absurd e g3.live
  | some o=>exact s p o e
 ·rcases z with z|z|z
  ·exact(E.liv b (.inl z)).same fun o e=>s b o e
  ·exact(E.liv b (.inr z)).same fun o e=>s b o e
  ·exact(n b z).2
theorem ER.forget (E:ER K st σ H O Z) (i:Nat):ER K (st.set i .e) σ H O Z:=by
 have ne:∀(k:Nat) s,(st.set i .e)[k]?=some s->s≠.e->st[k]?=some s:=fun k s h n=>by
  rw[Vj]at h;split at h
  ·obtain⟨_,h⟩:=aD h;exact absurd (Option.some.inj h).symm n
  ·exact h
 have nv:∀(s:Sl) d,s.ow=some d->s≠.e:=fun s d h z=>by subst z;cases h
 exact⟨by rw[AT];exact E.len,fun k d h=>E.val k d (ne k _ h fun z=>nomatch z),fun k s d h1 h2=>E.own k s d (ne k s h1 (nv s d h2)) h2,fun k l s t d d' b h1 h2 h3 h4=>E.uni k l s t d d' b (ne k s h1 (nv s d h2)) h2 (ne l t h3 (nv t d' h4)) h4,E.dis,E.liv⟩
theorem ER.setE (E:ER K st σ H O Z) (h:st[j]?=some .e) (w:Option V):ER K st (σ.set j w) H O Z:=by
 have nj:∀(k:Nat) s,st[k]?=some s->s≠.e->(σ.set j w)[k]?=σ[k]?:=fun k s e n=>aj fun z=>by subst z;rw[h]at e;exact n (Option.some.inj e).symm
 have nv:∀(s:Sl) d,s.ow=some d->s≠.e:=fun s d h z=>by subst z;cases h
 refine⟨by rw[AT];exact E.len,fun k d e=>?_,fun k s d h1 h2=>?_,fun k l s t d d' b h1 h2 h3 h4 h5 h6=>?_,E.dis,E.liv⟩
 ·rw[nj k _ e fun z=>nomatch z];exact E.val k d e
 ·rw[nj k s h1 (nv s d h2)];exact E.own k s d h1 h2
 ·rw[nj k s h1 (nv s d h2)]at h5;rw[nj l t h3 (nv t d' h4)]at h6;exact E.uni k l s t d d' b h1 h2 h3 h4 h5 h6
theorem ER.other {o:HO} (E:ER K st σ H O Z) (hz:Z a) (ho:∀vs,o≠.tup vs):ER K st σ (upd H a o) O Z:=by
 have k:∀b u,H b=some u->¬ U O Z b->upd H a o b=some u:=fun b u e n=>by rw[aF fun z=>n (by rw[z];exact .inr hz)];exact e
 refine⟨E.len,fun i d h=>?_,fun i s d h1 h2=>?_,E.uni,E.dis,fun b z=>?_⟩
 ·obtain⟨v,g1,g2⟩:=E.val i d h;exact⟨v,g1,g2.go k fun _ z=>.inl z⟩
 ·obtain⟨p,g1,g2,g3⟩:=E.own i s d h1 h2;exact⟨p,g1,g2,g3.go (aF fun z=>E.dis p g2 (by rw[z];exact hz)) k fun _ z=>.inl z⟩
 ·by_cases e:b=a
  ·rw[e];exact⟨by rw[aM];simp,fun vs w=>by rw[aM]at w;exact ho vs (Option.some.inj w)⟩
  ·exact(E.liv b z).same fun u w=>by rw[aF e];exact w
theorem Ext.other {o:HO} (x:Ext O H0 O' H) (h:H0 a=none) (ho:∀vs,o≠.tup vs):Ext O H0 O' (upd H a o):=by
 have l:∀b,Lv H b->Lv (upd H a o) b:=fun b z=>by
  by_cases e:b=a
  ·rw[e];exact⟨by rw[aM];simp,fun vs w=>by rw[aM]at w;exact ho vs (Option.some.inj w)⟩
  ·exact z.same fun u w=>by rw[aF e];exact w
 exact⟨fun b u e n=>by rw[aF fun z=>by rw[z,h]at e;cases e];exact x.kp b u e n,x.nw,fun b e=>by rw[aF fun z=>e (by rw[z];exact h)];exact x.al b e,fun b e=>l b (x.lv b e)⟩
theorem wL {α:Type} {l:List α} {i:Nat} {x:α} (h:l[i]?=some x):l.set i x=l:=by
 refine AK fun k=>?_;rw[Vj];split
 ·rename_i e
  subst e;rw[Af (Xa.mp h).1,h]
 ·rfl
end
end VF22
namespace VF22
open PySem L2 VF
section
variable {K:Ab} {Y Y' O O' O0 O1 O2 Z Z':AS} {H H0 H' H1 H2:Hp} {v:V} {d:D} {vs:List V} {ds:List D} {a p pf:Addr} {st st' st1 st2:En} {σ σ':L2.St} {ep:Nat×List Addr} {kvs:List (List Key×V)} {kl kl':KL} {j q r:Nat}
abbrev inW (kvs:List (List Key×V)):AS:=fun a=>∃x∈kvs,x.2=.ref a
abbrev ZW (Z:AS) (pf:Addr) (kvs:List (List Key×V)):AS:=fun b=>Z b∨b=pf∨inW kvs b
structure Hid (K:Ab) (O0:AS) (H0:Hp) (Z:AS) (j:Nat) (pf:Addr) (ep:Nat×List Addr) (kvs:List (List Key×V)) (kl:KL) (st:En) (σ:L2.St) (H:Hp) (O:AS):Prop where
 er:ER K st σ H O (ZW Z pf kvs)
 dc:Dc (inW kvs) H pf ep kvs kl
 z1:¬ Z pf
 z2:∀a,inW kvs a->¬ Z a
 ext:Ext O0 H0 O H
 d1:H0 pf=none
 d2:∀a,inW kvs a->H0 a=none
 at_j:σ[j]?=some (some (.ref pf))
 ej:st[j]?=some .e
 sc:∀(k:Nat) s d,st[k]?=some s->s.ow=some d->∃l:List Int,d=.lst (iD l)
theorem Hid.notO (h:Hid K O0 H0 Z j pf ep kvs kl st σ H O):¬ O pf/\(∀a,inW kvs a->¬ O a)/\∀b vs,H b=some (.tup vs)->¬ O b :=
 ⟨fun z=>h.er.dis _ z (.inr (.inl rfl)),fun a w z=>h.er.dis _ z (.inr (.inr w)),fun b vs e z=>(h.er.liv b (.inl z)).2 vs e⟩
theorem Hid.see (h:Hid K O0 H0 Z j pf ep kvs kl st σ H O):ER K (st.set j (.v (.dt (dKL kl)))) σ H O Z:=by
 have E:=ER.lessZ (Z:=Z) h.er fun b z=>.inl z;obtain⟨n1,n2,_⟩:=h.notO;have:=E.asg h.ej (h.dc.da (K:=K) (Y:=U O Z) (fun z=>z.elim n1 h.z1) (fun a w z=>z.elim (n2 a w) (h.z2 a w)) E.liv);rwa [wL h.at_j]at this
theorem Hid.next (h:Hid K O0 H0 Z j pf ep kvs kl st σ H O) (x:Ext O H O' H') (E:ER K st σ H' O' (ZW Z pf kvs)):Hid K O0 H0 Z j pf ep kvs kl st σ H' O' :=
 have⟨n1,n2,n3⟩:=h.notO
 ⟨E,h.dc.go x.kp n1 n2 n3,h.z1,h.z2,h.ext.trans x,h.d1,h.d2,h.at_j,h.ej,h.sc⟩
theorem Hid.back (h:Hid K O0 H0 Z j pf ep kvs kl st σ H O) (x:Ext O H O' H') (E:ER K (st.set j (.v d)) σ H' O' Z):Hid K O0 H0 Z j pf ep kvs kl st σ H' O':=by
 have ne:∀(k:Nat) s d',st[k]?=some s->s.ow=some d'->(st.set j (.v d))[k]?=some s:=fun k s d' h1 h2=>by
  rw[aj fun z=>?_]
  ·exact h1
  ·subst z;rw[h.ej]at h1;cases h1;cases h2
 have lz:∀b,ZW Z pf kvs b->Lv H b:=fun b z=>h.er.liv b (.inr z);refine h.next x ⟨h.er.len.trans rfl,fun k d' e=>?_,fun k s d' h1 h2=>?_,fun k l s t d1 d2 b h1 h2 h3 h4=>E.uni k l s t d1 d2 b (ne k s d1 h1 h2) h2 (ne l t d2 h3 h4) h4,fun b z w=>?_,fun b z=>?_⟩
 ·obtain⟨v,g1,g2⟩:=h.er.val k d' e;exact⟨v,g1,g2.ext x⟩
 ·obtain⟨l,rfl⟩:=h.sc k s d' h1 h2;obtain⟨p,g1,g2,g3⟩:=E.own k s _ (ne k s _ h1 h2) h2;exact⟨p,g1,g2,zV (sX g3)⟩
 ·rcases x.nw b z with y|y
  ·exact h.er.dis b y w
  ·exact(lz b w).1 y
 ·rcases z with z|z
  ·exact E.liv b (.inl z)
  ·exact x.lv b (lz b z)
theorem Hid.key {k:List Key} {b:Addr} {t:Sl} (h:Hid K O0 H0 Z j pf ep kvs kl st σ H O) (hb:H b=some (.tup (k.map kV))) (hr:st[r]?=some t) (jr:j≠r):Hid K O0 H0 Z j pf ep kvs kl (st.set r (.v (.tup (k.map b8)))) (σ.set r (some (.ref b))) H O:=by
 refine⟨h.er.asg hr (je hb fun z=>(h.er.liv b z).2 _ hb),h.dc,h.z1,h.z2,h.ext,h.d1,h.d2,by rw[aj (AF jr)];exact h.at_j,by rw[aj (AF jr)];exact h.ej,fun k' s d h1 h2=>?_⟩
 by_cases e:r=k'
 ·subst e;rw[aI hr]at h1;cases h1;cases h2
 ·rw[aj e]at h1;exact h.sc k' s d h1 h2
theorem Hid.forget (h:Hid K O0 H0 Z j pf ep kvs kl st σ H O) (i:Nat):Hid K O0 H0 Z j pf ep kvs kl (st.set i .e) σ H O:=by
 refine⟨ER.forget h.er i,h.dc,h.z1,h.z2,h.ext,h.d1,h.d2,h.at_j,?_,fun k s d h1 h2=>?_⟩
 ·by_cases e:i=j
  ·subst e;exact aI h.ej
  ·rw[aj e];exact h.ej
 ·rw[Vj]at h1;split at h1
  ·obtain⟨_,h1⟩:=aD h1;cases h1;cases h2
  ·exact h.sc k s d h1 h2
theorem Hid.new {l:List Int} {t:Sl} (h:Hid K O0 H0 Z j pf ep kvs kl st σ H O) (x:Ext O H O' H') (E:ER K (st.set j (.v d)) σ H' O' Z∨ER K st σ H' O' (ZW Z pf kvs)) (E2:ER K (st.set j (.v d)) σ H' (ins p O') Z∨ER K st σ H' (ins p O') (ZW Z pf kvs))
  (hp:H p=none) (np:¬ O' p) (he:OA K Y H' p (.lst (iD l))) (hq:st[q]?=some t) (jq:j≠q):Hid K O0 H0 Z j pf ep kvs kl (st.set q (.o (.lst (iD l)))) (σ.set q (some (.ref p))) H' (ins p O'):=by
 have h1:Hid K O0 H0 Z j pf ep kvs kl st σ H' O':=E.elim (fun E=>h.back x E) fun E=>h.next x E
 have x2:Ext O H (ins p O') H':=⟨fun b o e n=>x.kp b o e n,fun b z=>z.elim (fun z=>.inr (by rw[z];exact hp)) (x.nw b),x.al,x.lv⟩
 have h2:Hid K O0 H0 Z j pf ep kvs kl st σ H' (ins p O'):=E2.elim (fun E=>h.back x2 E) fun E=>h.next x2 E
 refine⟨ER.asgF h1.er h2.er np hq (zV (sX he)),h2.dc,h2.z1,h2.z2,h2.ext,h2.d1,h2.d2,by rw[aj (AF jq)];exact h2.at_j,by rw[aj (AF jq)];exact h2.ej,fun k s d e1 e2=>?_⟩
 by_cases e:q=k
 ·subst e;rw[aI hq]at e1;cases e1;cases e2;exact⟨l,rfl⟩
 ·rw[aj e]at e1;exact h2.sc k s d e1 e2
theorem Hid.ifJ {c:TT} {f:FT} {t:L2.TS} {Dn:Ends} (h:Hid K O0 H0 Z j pf ep kvs kl st σ H O) (hc:RdT K c f) (e:f (st.set j (.v (.dt (dKL kl))))=some (false,st.set j (.v (.dt (dKL kl))))) (k:∀H' O',Hid K O0 H0 Z j pf ep kvs kl st σ H' O'->Dn.nx σ H'):oZ c t jV Dn σ H :=
 hc _ _ H O Z _ h.see false _ e fun H' O' x _ E=>k H' O' (h.back x E)
theorem Hid.if0 {c:TT} {f:FT} {t:L2.TS} {Dn:Ends} (h:Hid K O0 H0 Z j pf ep kvs kl st σ H O) (hc:RdT K c f) (e:f st=some (false,st)) (k:∀H' O',Hid K O0 H0 Z j pf ep kvs kl st σ H' O'->Dn.nx σ H'):oZ c t jV Dn σ H :=
 hc _ _ H O _ _ h.er false _ e fun H' O' x _ E=>k H' O' (h.next x E)
theorem Hid.newL {te:TE} {fe:FE} {l:List Int} {t:Sl} {Dn:Ends} (h:Hid K O0 H0 Z j pf ep kvs kl st σ H O) (he:RdE K te fe) (e:fe st=some (.f (.lst (iD l)),st)) (hq:st[q]?=some t) (jq:j≠q) (k:∀σ' H' O',Hid K O0 H0 Z j pf ep kvs kl (st.set q (.o (.lst (iD l)))) σ' H' O'->Dn.nx σ' H'):kr te (dj q) Dn σ H:=by
 refine he _ _ H O _ _ h.er _ _ e fun v H' O' x _ E rv fs=>?_;obtain⟨p,rfl,n1,n2,oa,E2⟩:=rv;exact k _ H' _ (h.new (d:=.non) x (.inr E) (.inr E2) (fs p rfl) n1 oa hq jq)
theorem wM {x y z:Sl} {l:En} (hr:l[r]?=some .e) (qr:q≠r):(((l.set q x).set r y).set q z).set r .e=l.set q z:=by
 refine AK fun k=>?_;simp only[Vj,AT];by_cases e1:r=k
 ·subst e1;have:=(Xa.mp hr).1;have e:=(Xa.mp hr).2;simp[qr,this,e]
 ·by_cases e2:q=k
  ·subst e2;simp[e1]
  ·simp[e1,e2]
theorem Hid.pos (h:Hid K O0 H0 Z j pf ep kvs kl st σ H O) {i:Nat} {x:List Key×V} (hx:kvs[i]?=some x):∃l,kl[i]?=some (x.1,l):=by
 have:=congrArg (·[i]?) h.dc.keys;simp only[Qb,hx,CC]at this;obtain⟨y,e1,e2⟩:=Zd.mp this.symm;exact⟨y.2,by rw[e1,← e2]⟩
theorem Hid.loop1 {te:TE} {fe:FE} {cat:Nat->List Int} {Dn:Ends} (h:Hid K O0 H0 Z j pf ep kvs kl (st.set q (.o (.lst (iD (cat 0))))) σ H O) (he:RdE K te fe) (hq:∃t,st[q]?=some t) (hr:st[r]?=some .e) (jq:j≠q) (jr:j≠r) (qr:q≠r)
  (e:∀(i:Nat) ks l,kl[i]?=some (ks,l)->fe ((((st.set q (.o (.lst (iD (cat i))))).set r (.v (.tup (ks.map b8)))).set j (.v (.dt (dKL kl)))))=some (.f (.lst (iD (cat (i+1)))),(((st.set q (.o (.lst (iD (cat i))))).set r (.v (.tup (ks.map b8)))).set j (.v (.dt (dKL kl))))))
  (k:∀σ' H' O',Hid K O0 H0 Z j pf ep kvs kl (st.set q (.o (.lst (iD (cat kl.length))))) σ' H' O'->Dn.nx σ' H'):tM (uB (gc j)) (dj r) (kr te (dj q)) Dn σ H:=by
 obtain⟨tq,hq⟩:=hq;have hl:kvs.length=kl.length:=by have:=congrArg List.length h.dc.keys;rwa [Ya,Ya]at this
 refine⟨.ref pf,h.at_j,pf,ep,kvs,rfl,h.dc.here,fun i m σ' H'=>m+i=kvs.length+1/\i<=kvs.length/\∃O',Hid K O0 H0 Z j pf ep kvs kl (st.set q (.o (.lst (iD (cat i))))) σ' H' O',⟨kvs.length+1,rfl,Wh _,O,h⟩,?_⟩;rintro i m σ' H' ⟨hm,hi,O',h'⟩;by_cases c:i<kvs.length
 ·refine .inr ⟨⟨h'.dc.here,c⟩,fun σ3 H3=>∃O3,Hid K O0 H0 Z j pf ep kvs kl (st.set q (.o (.lst (iD (cat (i+1)))))) σ3 H3 O3,fun σ3 H3 h3=>⟨m-1,by lia,by lia,c,h3⟩,fun x H'' hy=>?_⟩
  obtain⟨rfl,ks,u,b,e1,rfl,e2,e3⟩:=hy;obtain⟨l,e4⟩:=h'.pos e1;have r2:(st.set q (.o (.lst (iD (cat i)))))[r]?=some .e:=by rw[aj qr];exact hr
  have hk:=h'.key (r:=r) e3 r2 jr;refine he _ _ _ O' Z _ hk.see _ _ (e i ks l e4) fun v H1 O1 x _ E rv fs=>?_;obtain⟨p,rfl,n1,n2,oa,E2⟩:=rv;have h1:=(hk.new (q:=q) x (.inl E) (.inl E2) (fs p rfl) n1 oa (by rw[aj (AF qr)];exact aI hq) jq).forget r
  rw[wM hr qr]at h1;exact⟨_,h1⟩
 ·have:i=kl.length:=by lia
  subst this;exact .inl ⟨⟨h'.dc.here,by lia⟩,k σ' H' O' h'⟩
end
end VF22
namespace VF22
open PySem L2 VF
section
variable {K:Ab} {Y Y' O O' O0 O1 O2 Z Z' W:AS} {H H0 H' H1 H2:Hp} {v:V} {d:D} {vs:List V} {ds:List D} {a p pf:Addr} {st st' st1 st2:En} {σ σ':L2.St} {ep:Nat×List Addr} {kvs:List (List Key×V)} {kl kl':KL} {i j q r:Nat}
theorem wN {ks:List Key}:∀{kvs:List (List Key×V)} {u:V},(ks,u)∈kvs->∃u',gk kvs ks=some u'/\(ks,u')∈kvs
 | x::kvs,u,h=>by
  by_cases e:x.1=ks
  ·exact⟨x.2,gl e,by rw[← e];exact Xb⟩
  ·rcases Yd.mp h with h|h
   ·subst h;exact absurd rfl e
   ·obtain⟨u',e1,e2⟩:=wN h;exact⟨u',by rw[gm e];exact e1,Vb _ e2⟩
theorem made {n:Nat}:∀{kvs:List (List Key×V)},(∀x∈kvs,∃b l,x.2=.ref b/\W b/\H b=some (.lst (iV l))/\l.length<=n)->∃kl:KL,kvs.map (·.1)=kl.map (·.1)/\(∀(i:Nat) x y,kvs[i]?=some x->kl[i]?=some y->∃a,x.2=.ref a/\W a/\H a=some (.lst (iV y.2)))/\∀y∈kl,y.2.length<=n
 | [],_=>⟨[],rfl,fun i x y h=>by simp at h,fun y h=>nomatch h⟩
 | x::kvs,h=>by
  obtain⟨kl,e1,e2,e3⟩:=made (kvs:=kvs) fun y hy=>h y (Vb _ hy);obtain⟨b,l,f1,f2,f3,f4⟩:=h x Xb;refine⟨(x.1,l)::kl,by rw[Wd,Wd,e1],fun i x' y h1 h2=>?_,fun y hy=>?_⟩
  ·cases i with
   | zero=>cases h1;cases h2;exact⟨b,f1,f2,f3⟩
   | succ i=>exact e2 i x' y h1 h2
  ·rcases Yd.mp hy with rfl|hy
   ·exact f4
   ·exact e3 y hy
theorem iH:∀ks:List Key,j7 (ks.map b8)=some ks
 | []=>rfl
 | k::r=>by cases k<;>simp[j7,b8,uw,iH r]
theorem yR (l:List Int) (i:Int):iV l++[V.int i]=iV (l++[i]):=by simp
abbrev wO (K:Ab) (j r:Nat) (i:Int):L2.TS:=oY (tBM K "list" nW (tOp rDG (gc j) (gc r)) (dm (tC (.int i)) kZ))
theorem Hid.app {ks:List Key} {u0:V} {b:Addr} {n:Nat} {z:Int} {Dn:Ends} (h:Hid K O0 H0 Z j pf ep kvs kl st σ H O) (hm:(ks,u0)∈kvs) (hb:H b=some (.tup (ks.map kV))) (hr:σ[r]?=some (some (.ref b))) (hn:∀y∈kl,y.2.length<=n) (hz:n<100000)
  (k:∀H' kl',Hid K O0 H0 Z j pf ep kvs kl' st σ H' O->(∀y∈kl',y.2.length<=n+1)->Dn.nx σ H'):wO K j r z Dn σ H:=by
 obtain⟨u,e1,e2⟩:=wN hm;have all:∀x∈kvs,∃b l,x.2=.ref b/\inW kvs b/\H b=some (.lst (iV l))/\l.length<=n:=fun x hx=>by
  obtain⟨i,hi,e⟩:=Vi.mp hx;have hx':kvs[i]?=some x:=by rw[Za hi,e]
  obtain⟨l,f⟩:=h.pos hx';obtain⟨a,g1,g2,g3⟩:=h.dc.val i x _ hx' f;exact⟨a,l,g1,g2,g3,hn _ (Wa f)⟩
 obtain⟨a,l,rfl,wa,ha,hl⟩:=all _ e2;have sz:(100000:Nat)<=sizeLine:=by rw[BW];decide
 refine⟨.ref pf,h.at_j,.ref b,hr,pf,.ref a,rfl,e1 ▸ DGet.t h.dc.here hb,?_⟩;show tyV K "list" (.ref a) H/\_;refine⟨.inl ⟨rfl,iV l,.inl (.inl ha)⟩,a,iV l,.int z,rfl,rfl,ha,by rw[Ya];lia,?_⟩
 rw[yR];have nt:∀vs,HO.lst (iV (l++[z]))≠.tup vs:=fun vs e=>nomatch e;obtain⟨kl',m1,m2,m3⟩:=made (n:=n+1) (W:=inW kvs) (H:=upd H a (.lst (iV (l++[z])))) (kvs:=kvs) fun x hx=>by
  obtain⟨b,l',f1,f2,f3,f4⟩:=all x hx;by_cases e:b=a
  ·exact⟨b,l++[z],f1,f2,by rw[e,aM],by rw[Yb];simp;lia⟩
  ·exact⟨b,l',f1,f2,by rw[aF e];exact f3,by lia⟩
 refine k _ kl' ⟨ER.other h.er (.inr (.inr wa)) nt,⟨?_,m1,fun c hc=>?_,m2⟩,h.z1,h.z2,Ext.other h.ext (h.d2 a wa) nt,h.d1,h.d2,h.at_j,h.ej,h.sc⟩ m3
 ·rw[aF fun e=>by rw[← e,h.dc.here]at ha;cases ha];exact h.dc.here
 ·obtain⟨vs,e⟩:=h.dc.tup c hc;exact⟨vs,by rw[aF fun z=>by rw[← z,e]at ha;cases ha];exact e⟩
theorem Hid.loop2 {c:TT} {f:FT} {t:L2.TS} {z:Int} {Dn:Ends} (h:Hid K O0 H0 Z j pf ep kvs kl st σ H O) (hc:RdT K c f) (hr:st[r]?=some .e) (jr:j≠r) (hn:∀y∈kl,y.2.length<=1000) (hl:kl.length<=2000)
  (e:∀kl':KL,kl'.map (·.1)=kl.map (·.1)->(∀y∈kl',y.2.length<=3000)->∀ks∈kl.map (·.1),f ((st.set r (.v (.tup (ks.map b8)))).set j (.v (.dt (dKL kl'))))=some (false,(st.set r (.v (.tup (ks.map b8)))).set j (.v (.dt (dKL kl')))))
  (k:∀σ' H' O' kl',Hid K O0 H0 Z j pf ep kvs kl' st σ' H' O'->Dn.nx σ' H'):tM (uB (gc j)) (dj r) (kU (oZ c t jV) (wO K j r z)) Dn σ H:=by
 have hk:=h.dc.keys;have hl':kvs.length=kl.length:=by have:=congrArg List.length hk;rwa [Ya,Ya]at this
 refine⟨.ref pf,h.at_j,pf,ep,kvs,rfl,h.dc.here,fun i m σ' H'=>m+i=kvs.length+1/\i<=kvs.length/\∃O' kl',Hid K O0 H0 Z j pf ep kvs kl' st σ' H' O'/\∀y∈kl',y.2.length<=1000+i,⟨kvs.length+1,rfl,Wh _,O,kl,h,hn⟩,?_⟩;rintro i m σ' H' ⟨hm,hi,O',kl',h',hn'⟩;by_cases lt:i<kvs.length
 ·refine .inr ⟨⟨h'.dc.here,lt⟩,fun σ3 H3=>∃O3 kl3,Hid K O0 H0 Z j pf ep kvs kl3 st σ3 H3 O3/\∀y∈kl3,y.2.length<=1000+(i+1),fun σ3 H3 h3=>⟨m-1,by lia,by lia,lt,h3⟩,fun x H'' hy=>?_⟩
  obtain⟨rfl,ks,u,b,e1,rfl,e2,e3⟩:=hy;have h1:=h'.key (r:=r) e3 hr jr;have hks:ks∈kl.map (·.1):=by rw[← hk];exact Yc.mpr ⟨_,Wa e1,rfl⟩
  have lr:r<σ'.length:=by rw[← h'.er.len];exact(Xa.mp hr).1
  refine h1.ifJ hc (e kl' (h'.dc.keys.symm.trans hk) (fun y hy=>by have:=hn' y hy;lia) ks hks) fun H1 O1 h2=>?_
  have hb1:H1 b=some (.tup (ks.map kV)):=by
   obtain⟨vs,w⟩:=h2.dc.tup b (Wa e2);have:=(h2.er.val r _ (aI hr));obtain⟨w1,w2,w3⟩:=this;rw[Yl lr]at w2;cases w2;cases w3 with
   | tup g1 g2 g3=>rw[g1.1,lO (ks:=ks) ⟨g2,g3⟩ (iH ks)]
  refine h2.app (Wa e1) hb1 (Yl lr) hn' (by lia) fun H2 kl2 h3 hn3=>?_
  have h4:=h3.forget r;rw[List.set_set,wL hr]at h4;exact⟨_,kl2,h4,fun y hy=>by have:=hn3 y hy;lia⟩
 ·exact .inl ⟨⟨h'.dc.here,by lia⟩,k σ' H' O' kl' h'⟩
theorem Hid.clr {Dn:Ends} (h:Hid K O0 H0 Z j pf ep kvs kl st σ H O) (k:∀H',ER K st σ H' O Z->Ext O0 H0 O H'->Dn.nx σ H'):oY (DU K "dict" wJ (gc j)) Dn σ H:=by
 refine⟨.ref pf,h.at_j,?_⟩;show tyV K "dict" (.ref pf) H/\_;refine⟨.inr (.inr (.inl ⟨rfl,.inr ⟨ep,kvs,h.dc.here⟩⟩)),pf,ep,kvs,rfl,rfl,h.dc.here,fun n=>?_⟩;have nt:∀vs,HO.dT (n,[]) []≠.tup vs:=fun vs e=>nomatch e;exact k _ (ER.lessZ (ER.other h.er (.inr (.inl rfl)) nt) fun b z=>.inl z) (Ext.other h.ext h.d1 nt)
end
end VF22
namespace VF22
open PySem L2 VF
section
variable {K:Ab} {Y Y' O O' O0 O1 O2 Z Z' W:AS} {H H0 H' H1 H2:Hp} {v:V} {d:D} {vs:List V} {ds:List D} {a p pf:Addr} {st st' st1 st2:En} {σ σ':L2.St} {ep:Nat×List Addr} {kvs:List (List Key×V)} {kl kl':KL} {i j q r m:Nat}
def toI:D->List Int
 | .lst ds=>ds.filterMap fun d=>match d with
  | .int i=>some i
  | _=>none
 | _=>[]
def rA (rs:List (List Key×D)):KL:=rs.map fun x=>(x.1,toI x.2)
theorem Fe (l:List Int):toI (.lst (iD l))=l:=by
 show(iD l).filterMap _=l;induction l with
 | nil=>rfl
 | cons i l ih=>exact congrArg (i::·) ih
theorem gy (kl:KL):rA (dKL kl)=kl:=by
 unfold rA dKL;rw[Xe]
 conv=>rhs;rw[← List.map_id kl]
 exact Zg fun x _=>by show(x.1,toI (.lst (iD x.2)))=x;rw[Fe]
structure Nk (hl:List Int) (rs:List (List Key×D)) (kl:KL):Prop where
 is:rs=dKL kl
 ne:∀y∈kl,y.2≠hl/\y.2.length<=1000
theorem zW {hl:List Int} {rs:List (List Key×D)} (hp:H p=some (.lst (iV hl))) (s:Same H H1) (wf:Wf H1) (hn:Nk hl rs kl) (hf:H pf=none) (o:OA K (ins pf fun b=>Lv H b/\b≠p) H1 pf (.dt rs)) :
  ∃ep kvs,Dc (inW kvs) H1 pf ep kvs kl/\∀a,inW kvs a->H a=none/\a≠pf/\Lv H1 a:=by
 obtain⟨ep,kvs,_,h1,h2,h3⟩:=o;obtain⟨rfl,ne⟩:=hn;rw[jg]at h2;have one:∀(i:Nat) x y,kvs[i]?=some x->kl[i]?=some y->∃a,x.2=.ref a/\H1 a=some (.lst (iV y.2))/\H a=none/\a≠pf:=fun i x y e1 e2=>by
  have da:=h3 i x _ e1 (by rw[Qb,e2];rfl)
  obtain⟨k,u⟩:=x;dsimp only at da;cases da with
  | @lst a ts _ na ha hlen hx =>
   obtain rfl:ts=iV y.2:=wK ⟨hlen,hx⟩;refine⟨a,rfl,ha,?_,fun z=>na (.inl z)⟩;cases e:H a with
   | none=>rfl
   | some o =>
    exfalso
    have e3:=s a o e;rw[ha]at e3;cases e3;refine na (.inr ⟨⟨by rw[e];simp,fun _ z=>by rw[e]at z;cases z⟩,fun z=>?_⟩)
    rw[z,hp]at e;injection e with e;injection e with e;exact(ne y (Wa e2)).1 (Fd e).symm
 refine⟨ep,kvs,⟨h1,h2,fun b hb=>wf _ _ _ h1 b hb,fun i x y e1 e2=>?_⟩,fun a ⟨x,hx,e⟩=>?_⟩
 ·obtain⟨a,f1,f2,_⟩:=one i x y e1 e2;exact⟨a,f1,⟨x,Wa e1,f1⟩,f2⟩
 ·obtain⟨i,hi,f⟩:=Vi.mp hx;have hl:kvs.length=kl.length:=by have:=congrArg List.length h2;rwa [Ya,Ya]at this
  obtain⟨b,f1,f2,f3,f4⟩:=one i x _ (by rw[Za hi,f]) (Za (by lia))
  rw[e]at f1;cases f1;exact⟨f3,f4,by rw[f2];simp,fun _ z=>by rw[f2]at z;cases z⟩
def fQ (kl:KL) (n:Nat):List Int:=(kl.take n).flatMap (·.2)
structure Qo (st:En) (i j q r:Nat) (hl:List Int):Prop where
 at_i:st[i]?=some (.o (.lst (iD hl)))
 at_j:st[j]?=some .e
 at_q:st[q]?=some .e
 at_r:st[r]?=some .e
 jq:j≠q
 jr:j≠r
 qr:q≠r
 oth:∀(k:Nat) s,st[k]?=some s->s=.e∨(∃d,s=.v d)∨k=i
structure Ow (st:En) (i j q r:Nat) (fe0 fe1:FE) (f1 f2 f3:FT) (hl:List Int) (rs:List (List Key×D)) (kl:KL):Prop where
 nk:Nk hl rs kl
 few:kl.length<=2000
 qo:Qo st i j q r hl
 e1:f1 (st.set j (.v (.dt (dKL kl))))=some (false,st.set j (.v (.dt (dKL kl))))
 e0:fe0 st=some (.f (.lst []),st)
 e2:∀(n:Nat) ks l,kl[n]?=some (ks,l)->fe1 ((((st.set q (.o (.lst (iD (fQ kl n))))).set r (.v (.tup (ks.map b8)))).set j (.v (.dt (dKL kl)))))=some (.f (.lst (iD (fQ kl (n+1)))),(((st.set q (.o (.lst (iD (fQ kl n))))).set r (.v (.tup (ks.map b8)))).set j (.v (.dt (dKL kl)))))
 e3:f2 (st.set q (.o (.lst (iD (fQ kl kl.length)))))=some (false,st.set q (.o (.lst (iD (fQ kl kl.length)))))
 e4:∀kl':KL,kl'.map (·.1)=kl.map (·.1)->(∀y∈kl',y.2.length<=3000)->∀ks∈kl.map (·.1),f3 (((st.set q (.o (.lst (iD (fQ kl kl.length))))).set r (.v (.tup (ks.map b8)))).set j (.v (.dt (dKL kl'))))=some (false,((st.set q (.o (.lst (iD (fQ kl kl.length))))).set r (.v (.tup (ks.map b8)))).set j (.v (.dt (dKL kl'))))
def wP (r:Nat) (st:En):Option En:=match st[r]? with
 | some (.io _)=>none
 | _=>some (st.set r .e)
theorem yS (h:wP r st=some st'):st'=st.set r .e/\∀x,st[r]?≠some (.io x):=by
 unfold wP at h;split at h
 ·cases h
 ·rename_i n
  cases h;exact⟨rfl,n⟩
open Classical in
noncomputable def uH (g:List D->Option Rz) (m i j q r:Nat) (fe0 fe1:FE) (f1 f2 f3:FT):FS:=fun st0=>(pz st0 m).bind fun st'=>(wP r st').bind fun st=>match st[i]? with
 | some (.o (.lst hs))=>match g [.lst hs] with
  | some (.dt rs,true)=>if ∃hl:List Int,hs=iD hl/\Ow st i j q r fe0 fe1 f1 f2 f3 hl rs (rA rs) then some (.nx (st.set q (.o (.lst (iD (fQ (rA rs) (rA rs).length)))))) else none
  | _=>none
 | _=>none
theorem Ff {g:List D->Option Rz} {te0 te1:TE} {fe0 fe1:FE} {c1 c2 c3:TT} {f1 f2 f3:FT} {t1 t2 t3 u:L2.TS} {z:Int} {G:FS} (h1:RdT K c1 f1) (p0:RdE K te0 fe0) (p1:RdE K te1 fe1) (h2:RdT K c2 f2) (h3:RdT K c3 f3) (hu:RdS K u G) :
  RdS K (kU (kr (tWf (px (spV K g) (dm (gc i) kZ))) (dj j)) (kU (oZ c1 t1 jV) (kU (kr te0 (dj q)) (kU (tM (uB (gc j)) (dj r) (kr te1 (dj q))) (kU (oZ c2 t2 jV)
   (kU (tM (uB (gc j)) (dj r) (kU (oZ c3 t3 jV) (wO K j r z))) (kU (oY (DU K "dict" wJ (gc j))) u))))))) (aY (uH g m i j q r fe0 fe1 f1 f2 f3) G):=by
 intro st0 σ H O0 Z Dn Eo o e0 post;refine bsO e0 fun o1 e1 e0=>?_;unfold uH at e1;refine bsO e1 fun st' ef e1=>?_;obtain⟨O,xf,E',_⟩:=Eo.frz ef;have kf:=(sx ef).1;refine bsO e1 fun st eb e1=>?_;obtain⟨hst,nio⟩:=yS eb;have E:ER K st σ H O Z:=by rw[hst];exact ER.forget E' r
 split at e1
 ·rename_i hs eh
  split at e1
  ·rename_i rs eg
   obtain⟨⟨hl,rfl,ow⟩,e2⟩:=aD e1;cases e2;generalize rA rs=kl at ow e0;obtain⟨p,g1,g2,g3⟩:=E.own i _ _ eh rfl;have hp:=sX g3;have qs:=ow.qo;have rk:rs=dKL kl:=ow.nk.is;refine⟨.ref p,g1,fun b=>Lv H b/\b≠p,[.lst (iD hl)],(.dt rs,true),El.one (.lst (fun z=>z.2 rfl) hp (by simp) (nu hl).2),fun b z=>z.1,eg,fun v H1 s hres wf=>?_⟩
   obtain⟨pf,rfl,hf,oa⟩:=hres;obtain⟨ep,kvs,dc,dw⟩:=zW hp s wf ow.nk hf oa;have lpf:Lv H1 pf:=⟨by rw[dc.here];simp,fun _ z=>by rw[dc.here]at z;cases z⟩
   have lj:j<σ.length:=by rw[← E.len];exact(Xa.mp qs.at_j).1
   have gj:(σ.set j (some (V.ref pf)))[j]?=some (some (.ref pf)):=Yl lj;have X:Hid K O H Z j pf ep kvs kl st (σ.set j (some (.ref pf))) H1 O:=by
    refine⟨(ER.setE (ER.moreZ E s (Z':=fun b=>b=pf∨inW kvs b) fun b z=>?_) qs.at_j _),dc,fun z=>(E.liv pf (.inr z)).1 hf,fun a w z=>(E.liv a (.inr z)).1 (dw a w).1,Same.ext s,hf,fun a w=>(dw a w).1,gj,qs.at_j,fun k s' d h1 h2=>?_⟩
    ·rcases z with rfl|z
     ·exact⟨hf,lpf⟩
     ·exact⟨(dw b z).1,(dw b z).2.2⟩
    ·rcases qs.oth k s' h1 with rfl|⟨d',rfl⟩|rfl
     ·cases h2
     ·cases h2
     ·rw[qs.at_i]at h1;cases h1;cases h2;exact⟨hl,rfl⟩
   refine X.ifJ h1 ow.e1 fun H2 O2 X=>?_;refine X.newL (l:=[]) p0 ow.e0 qs.at_q qs.jq fun σ3 H3 O3 X=>?_;refine Hid.loop1 (st:=st) (cat:=fQ kl) X p1 ⟨_,qs.at_q⟩ qs.at_r qs.jq qs.jr qs.qr ow.e2 fun σ4 H4 O4 X=>?_;refine X.if0 h2 ow.e3 fun H5 O5 X=>?_;refine X.loop2 h3 (by rw[aj qs.qr];exact qs.at_r) qs.jr (fun y hy=>(ow.nk.ne y hy).2) ow.few ow.e4 fun σ6 H6 O6 kl6 X=>?_
   refine X.clr fun H7 E7 x7=>?_;refine hu _ σ6 H7 O6 Z Dn E7 o e0 (post.trans (xf.trans x7) (kf.kq.trans ⟨by rw[AT,hst,AT],fun k d h=>?_⟩))
   exfalso
   by_cases e:r=k
   ·subst e;exact nio d h
   ·rcases qs.oth k (.io d) (by rw[hst,aj e];exact h) with w|⟨x,w⟩|w
    ·cases w
    ·cases w
    ·have:=qs.at_i;rw[← w,hst,aj e,h]at this;cases this
  ·cases e1
 ·cases e1
open Classical in
noncomputable def lV (g:List D->Option Rz) (i:Nat):FE:=fun st=>match st[i]? with
 | some (.o (.lst hs))=>match g [.lst hs] with
  | some (.dt rs,true)=>if ∃hl:List Int,hs=iD hl/\Nk hl rs (rA rs) then some (.f (.dt rs),st) else none
  | _=>none
 | _=>none
theorem wQ {g:List D->Option Rz}:RdE K (tWf (px (spV K g) (dm (gc i) kZ))) (lV g i):=by
 intro st σ H O Z Q E r st' e q;unfold lV at e;split at e
 ·rename_i hs eh
  split at e
  ·rename_i rs eg
   obtain⟨⟨hl,rfl,hn⟩,e1⟩:=aD e;cases e1;obtain⟨p,g1,g2,g3⟩:=E.own i _ _ eh rfl;have hp:=sX g3;refine⟨.ref p,g1,fun b=>Lv H b/\b≠p,[.lst (iD hl)],(.dt rs,true),El.one (.lst (fun z=>z.2 rfl) hp (by simp) (nu hl).2),fun b z=>z.1,eg,fun v H1 s hres wf=>?_⟩
   obtain⟨pf,rfl,hf,oa⟩:=hres;obtain⟨ep,kvs,dc,dw⟩:=zW hp s wf hn hf oa;have lpf:Lv H1 pf:=⟨by rw[dc.here];simp,fun _ z=>by rw[dc.here]at z;cases z⟩
   have da:=dc.da (K:=K) (Y:=ins pf (U O Z));have hres:RES K (U O Z) H H1 (.ref pf) (.dt rs,true):=by
    refine⟨pf,rfl,hf,ep,kvs,fun b hb=>?_,dc.here,by rw[hn.is,jg];exact dc.keys,fun i x y h1 h2=>?_⟩
    ·obtain⟨vs,e⟩:=dc.tup b hb;exact⟨fun z=>z.elim (fun z=>lpf.2 vs (by rw[← z];exact e)) fun z=>((E.same s).liv b z).2 vs e,by rw[e];simp⟩
    ·rw[hn.is,Qb]at h2;obtain⟨y',e1,rfl⟩:=Zd.mp h2;obtain⟨a,e2,e3,e4⟩:=dc.val i x y' h1 e1;rw[e2];exact .lst (fun z=>z.elim (fun z=>(dw a e3).2.1 z) fun z=>(E.liv a z).1 (dw a e3).1) e4 (by simp) (nu y'.2).2
   obtain⟨E3,rv3⟩:=hres.rv E s;exact q _ H1 O (Same.ext s) (Kp.refl _) E3 rv3 hres.fsh
  ·cases e
 ·cases e
theorem yT {g:List D->Option Rz} {fe0 fe1:FE} {f1 f2 f3:FT} {st0:En} {hl:List Int} (h0:pz st0 m=some st') (hb:wP r st'=some st) (hi:st[i]?=some (.o (.lst (iD hl)))) (hg:g [.lst (iD hl)]=some (.dt (dKL kl),true)) (ow:Ow st i j q r fe0 fe1 f1 f2 f3 hl (dKL kl) kl) :
  uH g m i j q r fe0 fe1 f1 f2 f3 st0=some (.nx (st.set q (.o (.lst (iD (fQ kl kl.length)))))):=by
 unfold uH;simp only[h0,hb,hi,hg,Qa,gy];exact(Af ⟨hl,rfl,by rw[gy];exact ow⟩).trans (by simp only[gy])
theorem uI {g:List D->Option Rz} {hl:List Int} (hi:st[i]?=some (.o (.lst (iD hl)))) (hg:g [.lst (iD hl)]=some (.dt (dKL kl),true)) (nk:Nk hl (dKL kl) kl):lV g i st=some (.f (.dt (dKL kl)),st):=by
 unfold lV;simp only[hi,hg,gy];exact Af ⟨hl,rfl,by rw[gy];exact nk⟩
end
end VF22
set_option maxRecDepth 100000
namespace VF22
open PySem PySem.Spec PyProof.Rows L2 VF
theorem wR:entryFor table "dict.update.loop"=some Builtin.«dict.update.loop»:=entryFor_of_tree (by kernel_rfl)
theorem oB:plainId "dict.update.loop"=true:=by decide +kernel
theorem oC:typeLookup (.type "list") "keys"=pure none:=am_miss_of_fast (by decide +kernel)
section
variable {prog:Program} {w:World} {A:Around} {E:Value->Shared->Prop} {s:Shared} {a:Addr} {o:Obj} {xs:Array Value} {k:Nat}
theorem uJ {Q:Option Value->Shared->Prop} (hx:s.heap.get? a=some o) (hc:o.cls=.type "list") (hdat:o.data=.seq xs k) (hd:o.dict=none) (hA:A.handled=none)
  (q:∀h' tk,(∀b ob,s.heap.get? b=some ob->h'.get? b=some ob)->Q none { s with heap:=h',toks:=tk }):wpAny (model prog w) A (getAttr? (.ref a) "keys") Q E s:=by
 obtain⟨c,dct,dat,sl⟩:=o;simp only at hc hdat hd;subst hc hdat hd;obtain⟨hp,g,d,tk,os⟩:=s;have ty:∀t',(⟨hp,g,d,t',os⟩:Shared).TypeIs (.ref a) "list":=fun _=>⟨_,hx,rfl⟩;have w1:=sub_AttributeError;have w2:=F.slot_list_getattribute.lookup;have w3:=F.slot_list_getattribute.bind (.ref a);have w4:=am_list_getattr_none;unfold getAttr? getAttrBy? getAttrBy
 repeat (any_goals (first|assumption|exact ty _|((with_reducible show wpAny _ _ (call (Value.builtin "list.__getattribute__") _ _) _ _ _);refine BJ F.slot_list_getattribute (ty _) am_entry_list_getattribute (F.args_list_getattribute_2 _ _) (meets_getattribute_miss_list a xs k sl "keys" _ oC (by decide) (by decide)) ⟨hx,hA,fun h' t2 e x=>?_⟩)|wp_step))
 obtain⟨t',u',he⟩:=x.there;show wpAny _ _ (getattributeRaised _ _ _ _ _ _ _) _ _ _;unfold getattributeRaised
 repeat any_goals first|assumption|wp_step
 exact q _ _ x.keeps
end
end VF22
set_option maxRecDepth 100000
namespace VF22
open PySem PySem.Spec PyProof.Rows L2 VF
section
variable {prog:Program} {w:World} {κ:Type} [DecidableEq κ] {knd:HeapKind prog w κ} {E:Value->Shared->Prop}
theorem pair_items {A:Around} {s:Shared} {t:Addr} {x y:Value} {Q:List Value->Shared->Prop} (h:s.heap.IsTuple t #[x,y]) (q:Q [x,y] s):wpAny (model prog w) A (Builtin.Dict.pairItems (.ref t)) Q E s:=by
 obtain⟨o,e1,e2,n,e3⟩:=h;unfold Builtin.Dict.pairItems;refine Aa (AJ ⟨o,e1,e2⟩ ?_);rw[Af (by decide)]
 exact Aa (wpAny_seqItems e1 e3 (Ac q))
theorem wS {xs:List (κ×Addr×Value)} {k:κ} (h:k∉xs.map (·.1)):atKey xs k=none:=by
 unfold atKey;rw[List.find?_eq_none.mpr fun x hx=>?_]
 ·rfl
 ·simp only[decide_eq_true_eq];exact fun e=>h (Yc.mpr ⟨x,hx,e⟩)
structure Prs (knd:HeapKind prog w κ) (h0:Heap) (its:Array Value) (xs:List (κ×Addr×Value)):Prop where
 len:its.size=xs.length
 val:∀(i:Nat) v x,its[i]?=some v->xs[i]?=some x->∃t,v=.ref t/\h0.IsTuple t #[.ref x.2.1,x.2.2]/\knd.is h0 x.1 x.2.1
 nd:(xs.map (·.1)).Nodup
theorem dul {A:Around} {R:Result->Shared->Prop} {I Dd:Addr} {fp wr:List Addr} {St:Nat->Heap->Prop} {its:Array Value} {xs:List (κ×Addr×Value)} {h0:Heap} (hu:knd.room A.in1) (hk:∀(h h':Heap) k a,knd.is h k a->(∀b o,h.get? b=some o->h'.get? b=some o)->knd.is h' k a)
  (W:Walks prog w A.in1 I fp wr its.size (fun i v=>its[i]?=some v) St) (far:Dd∉fp) (ps:Prs knd h0 its xs) (old:∀b o,h0.get? b=some o->b≠Dd/\b∉wr) (few:xs.length<=sizeLine) :
  ∀(left i:Nat) (s:Shared),its.size-i=left->i<=its.size->St i s.heap->(∀b o,h0.get? b=some o->s.heap.get? b=some o)->s.heap.DictOfH knd Dd (xs.take i) ->
   (∀h' tk,(∀b o,h0.get? b=some o->h'.get? b=some o)->h'.DictOfH knd Dd xs->R (.ok (.ret .none)) { s with heap:=h',toks:=tk }) ->
   ∀u:Tok,codeAny (model prog w) A (.builtin "dict.update.loop" ⟨[.ref Dd,.ref I,.int i u,.none],[]⟩) R s:=by
 have out:Dd∉wr:=fun z=>far (W.sub _ z);have isK:∀(h:Heap),(∀b o,h0.get? b=some o->h.get? b=some o)->∀x∈xs,knd.is h x.1 x.2.1:=fun h kp x hx=>by
  obtain⟨i,hi,e⟩:=Vi.mp hx;obtain⟨t,_,_,g⟩:=ps.val i _ x (Qj (by rw[ps.len];exact hi)) (by rw[Za hi,e])
  exact hk _ _ _ _ g kp
 have mv:∀{h h':Heap} {n:Nat},(∀b o,h0.get? b=some o->h.get? b=some o)->h.DictOfH knd Dd (xs.take n)->(∀b o,b∉wr->h.get? b=some o->h'.get? b=some o)->(∀b o,h0.get? b=some o->h'.get? b=some o)/\h'.DictOfH knd Dd (xs.take n):=fun {h h' n} kp dd k=>by
  have kp':∀b o,h0.get? b=some o->h'.get? b=some o:=fun b o e=>k b o (old b o e).2 (kp b o e);obtain⟨o,es,ep,f1,f2,f3,f4,_,f6⟩:=dd;exact⟨kp',o,es,ep,k _ _ out f1,f2,f3,f4,fun x hx=>isK _ kp' x (B0 hx),f6⟩
 intro left;induction left with
 | zero =>
  intro i s e1 e2 st kp dd fin u;obtain rfl:i=its.size:=by lia
  refine BR wR ?_;rw[Around.under_plainId oB _];unfold Builtin.«dict.update.loop»;refine Aa (W.done s _ _ st fun h' tk kk=>?_);obtain⟨kp',dd'⟩:=mv kp dd kk;rw[ps.len,BE]at dd';exact Aa (Ac (Ac (fin h' tk kp' dd')))
 | succ left ih =>
  intro i s e1 e2 st kp dd fin u;have lt:i<its.size:=by lia
  refine BR wR ?_;rw[Around.under_plainId oB _];unfold Builtin.«dict.update.loop»;refine Aa (W.item i s _ _ lt st fun v h' tk hp st' kk=>?_);obtain⟨kp',dd'⟩:=mv kp dd kk;have lx:i<xs.length:=by rw[← ps.len];exact lt
  have ex:=Za lx;obtain⟨t,rfl,ht,hi⟩:=ps.val i v _ hp ex;generalize xs[i]=x at ex ht hi;obtain⟨ks,b,y⟩:=x;have ht':h'.IsTuple t #[.ref b,y]:=let ⟨o,e,r⟩:=ht;⟨o,kp' _ _ e,r⟩;have nk:ks∉(xs.take i).map (·.1):=fun z=>by
   have nd:=ps.nd;rw[← Zi i xs,Zj lx,Yf,Wd]at nd;have e3:(xs[i]).1=ks:=by have:=Za lx;rw[ex]at this;rw[← Option.some.inj this]
   rw[e3]at nd;exact(Zm.mp nd).2.2 ks z ks Xb rfl
  refine Aa (Aq (Aa (wpAny_tryCatch (pair_items (s:={ s with heap:=h',toks:=tk }) ht' ?_))));refine Aq (wpAny_dictSet_heap (s:={ s with heap:=h',toks:=tk }) (hsz:=by rw[Xl];lia) hu (hk _ _ _ _ hi kp') dd' fun h2 dd2 same=>?_)
  rw[storedH_new (wS nk),show xs.take i++[(ks,b,y)]=xs.take (i+1) by rw[BY,ex];rfl]at dd2
  refine Ac ⟨plainId_quiet oB _,ih (i+1) { s with heap:=h2,toks:=tk+knd.draws ks } (by lia) lt (W.frame _ _ _ st' fun c hc o e=>?_) (fun c o e=>?_) dd2 (fun h3 tk3 kp3 dd3=>fin h3 tk3 kp3 dd3) 0⟩
  ·rw[same.2 c fun z=>far (by rw[← z];exact hc)];exact e
  ·rw[same.2 c (old c o e).1];exact kp' c o e
end
end VF22
set_option maxRecDepth 100000
namespace VF22
open PySem PySem.Spec PyProof.Rows L2 VF
section
variable {prog:Program} {w:World} {κ:Type} [DecidableEq κ] {knd:HeapKind prog w κ} {A:Around} {E:Value->Shared->Prop} {s:Shared}
theorem rB {l:Addr} {o:Obj} {n:Nat} {its:Array Value} {xs:List (κ×Addr×Value)} {Q:Value->Shared->Prop} (hA:A.handled=none) (e1:s.heap.get? l=some o) (e2:o.cls=.type "list") (e3:o.data=.seq its n) (e4:o.dict=none)
  (hu:knd.room A.in1.in1) (hk:∀(h h':Heap) k a,knd.is h k a->(∀b o,h.get? b=some o->h'.get? b=some o)->knd.is h' k a) (ps:Prs knd s.heap its xs) (few:xs.length<=sizeLine)
  (q:∀h' tk,(∀b o,s.heap.get? b=some o->h'.get? b=some o)->h'.DictOfH knd s.heap.objs.size xs->Q (.ref s.heap.objs.size) { s with heap:=h',toks:=tk }):wpAny (model prog w) A (call (.type "dict") [.ref l]) Q E s:=by
 refine callType_codes (Q₁:=fun x s1=>x=.ref s.heap.objs.size/\s1={ s with heap:=s.heap.push { cls:=.type "dict",data:=.dict #[] } }) PySem.F.kt_called_dict (PySem.F.kt_typeCall_dict_1 _) PySem.F.entry_dict_init (kt_code_dict_new _ ⟨rfl,rfl⟩) fun x s1 hx=>?_;obtain⟨rfl,rfl⟩:=hx;generalize hN:s.heap.push { cls:=.type "dict",data:=.dict #[] }=N;have kN:∀b u,s.heap.get? b=some u->N.get? b=some u:=fun b u e=>by rw[← hN];exact Ad _ e
 have aN:N.get? s.heap.objs.size=some { cls:=.type "dict",data:=.dict #[] }:=by rw[← hN];exact Al _ rfl
 have sN:N.objs.size=s.heap.objs.size+1:=by rw[← hN];exact Heap.size_push _ _
 have tD:Shared.TypeIs { s with heap:=N } (.ref s.heap.objs.size) "dict":=⟨_,aN,rfl⟩;refine⟨tD,PySem.F.args_dict_init_2 _ _,?_⟩;unfold Builtin.«dict.__init__» Builtin.Dict.selfAndRest;refine Aa (Aa (AZ tD (Ac ?_)));show wpAny _ _ (Builtin.Dict.updateFrom "dict.__init__" s.heap.objs.size (.ref l) [] .none) _ _ _;unfold Builtin.Dict.updateFrom;refine Aa (AJ ⟨o,kN _ _ e1,e2⟩ ?_);rw[Af (by decide)]
 refine Aa (uJ (s:={ s with heap:=N }) (kN _ _ e1) e2 e3 e4 (by simp[hA]) fun h1 tk1 k1=>?_)
 rw[Af (show(none:Option Value).isNone=true from rfl)];have k1':∀b u,s.heap.get? b=some u->h1.get? b=some u:=fun b u e=>k1 b u (kN b u e);have g1:h1.IsList l its:=⟨o,k1' _ _ e1,e2,n,e3⟩;have lt1:s.heap.objs.size<h1.objs.size:=Aj (k1 _ _ aN);refine Aa (AU ?_);refine Aa (Ce (s:={ s with heap:=h1,toks:=tk1 }) g1 (Ac ⟨plainId_quiet oB _,?_⟩));have ll:l<h1.objs.size:=Aj (k1' _ _ e1);have far:s.heap.objs.size∉[h1.objs.size,l]:=by
  simp only[Yd,List.not_mem_nil,or_false,not_or];exact⟨Yg lt1,Wk (Aj e1)⟩
 refine dul (A:=A.in1) hu hk (Walks.list (by simp[hA]) h1.objs.size l (Yg ll) its) far (h0:=s.heap) ps (fun b u e=>?_) few its.size 0 _ rfl (Wh _) ⟨⟨_,Al _ rfl,rfl,rfl⟩,g1.push _⟩ (fun b u e=>Ad _ (k1' b u e)) ⟨_,#[],_,Ad _ (k1 _ _ aN),⟨rfl,rfl,rfl⟩,rfl,rfl,(fun x hx=>by simp at hx),BZ⟩ (fun h' tk kp dd=>?_) 0
 ·have hb:=Aj e;exact⟨Yg hb,fun z=>Yg (Bj hb lt1) (Qc.mp z)⟩
 ·exact⟨rfl,q h' tk kp dd⟩
end
end VF22
namespace VF22
open PySem PySem.Spec PyProof.Rows L2 VF
section
variable {X:Cx} {K:Ab} {Y:AS} {H:Hp}
abbrev Pr:=Addr×Addr×List Key×V
def rDP:List V->Hp->VK->Prop:=fun xs H Q=>∃(a:Addr) (ps:List Pr),xs=[.ref a]/\H a=some (.lst (ps.map fun x=>.ref x.1))/\(∀x∈ps,H x.1=some (.tup [.ref x.2.1,x.2.2.2])/\H x.2.1=some (.tup (x.2.2.1.map kV)))/\(ps.map (·.2.2.1)).Nodup/\ps.length<=1000000 /\
 ∀p n,H p=none->Q (.ref p) (upd H p (.dT (n,ps.map (·.2.1)) (ps.map fun x=>(x.2.2.1,x.2.2.2))))
theorem wT {P:Program} {w:World} {h:Heap} (ok:HOk P w H h):∀{ps:List Pr} {its:List Value},(∀x∈ps,H x.1=some (.tup [.ref x.2.1,x.2.2.2])/\H x.2.1=some (.tup (x.2.2.1.map kV)))->Vals (ps.map fun x=>.ref x.1) its ->
  ∃xs:List (List Key×Addr×Value),KT H (ps.map fun x=>(x.2.2.1,x.2.2.2)) xs/\xs.map (·.2.1)=ps.map (·.2.1)/\xs.map (·.1)=ps.map (·.2.2.1)/\its.length=xs.length/\∀(i:Nat) v x,its[i]?=some v->xs[i]?=some x->∃t,v=.ref t/\h.IsTuple t #[.ref x.2.1,x.2.2]/\(tupleKind (bE P w)).is h x.1 x.2.1
 | [],its,_,r=>by
  cases r;exact⟨[],.nil,rfl,rfl,rfl,fun i v x e=>by simp at e⟩
 | p::ps,its,hp,r=>by
  cases r with
  | @cons _ v _ us rv rs =>
   obtain⟨xs,g1,g2,g3,g4,g5⟩:=wT ok (fun x hx=>hp x (Vb _ hx)) rs;obtain⟨h1,h2⟩:=hp p Xb;cases rv;obtain⟨_,its2,r2,T⟩:=ok _ _ h1;cases r2 with
   | @cons _ b _ us2 rb rs2 =>
    cases rs2 with
    | @cons _ u _ us3 ru rs3 =>
     cases rs3;cases rb;refine⟨(p.2.2.1,p.2.1,u)::xs,.cons ⟨rfl,h2,ru⟩ g1,by rw[Wd,Wd,g2],by rw[Wd,Wd,g3],by simp[g4],fun i v x e1 e2=>?_⟩
     cases i with
     | zero =>
      cases e1;cases e2;exact⟨_,rfl,T,iu ok h2⟩
     | succ i=>exact g5 i v x (by simpa using e1) (by simpa using e2)
theorem rC (hc:X.calm=true) (hu:X.A.units+64<cLine):CallR X (.type "dict") rDP:=by
 intro pins s σ H xs us Q I rv hh;obtain⟨a,ps,rfl,ha,hp,nd,few,q⟩:=hh;obtain⟨u,rfl,ru⟩:=vals1 rv;cases ru;obtain⟨z,its,n,r,hl,e⟩:=I.lstM ha;obtain⟨ys,g1,g2,g3,g4,g5⟩:=wT I.hok hp r;have hy:ys.length=ps.length:=by have:=congrArg List.length g3;rwa [Ya,Ya]at this
 have sz:(1000000:Nat)<=sizeLine:=by rw[BW];decide
 refine rB (knd:=tupleKind (bE X.prog X.w)) (its:=its.toArray) (xs:=ys) (I.ok.hd hc) e rfl rfl rfl (AD (A:=X.A.in1) (by show X.A.units+1+1<cLine;lia)) (fun h h' k a ⟨o,i,m,e1,e2⟩ kp=>⟨o,i,m,kp _ _ e1,e2⟩) ⟨by simpa using g4,fun i v x e1 e2=>g5 i v x (by simpa using e1) e2,by rw[g3];exact nd⟩ (by lia) fun h' tk kp dd=>?_
 have hn:H s.heap.objs.size=none:=I.hok.fresh (Va _);obtain⟨o,es,ep,f1,f2,f3,f4,_,f6⟩:=dd;refine⟨.ref s.heap.objs.size,_,I.laid (a:=s.heap.objs.size) (o:=.dT (ep,ps.map (·.2.1)) (ps.map fun x=>(x.2.2.1,x.2.2.2))) (t':=tk) (fun b u e=>kp b u e) (Va _) ⟨by rw[Ya];lia,(pj (P:=X.prog) (w:=X.w) (H:=H) s.heap I.big).2.1,ys,g1.keeps fun c vs ec=>?_,g2,o,es,f1,f2,f3,f4,f6⟩,rfl,q _ ep hn⟩
 rw[aF fun z=>by rw[z,hn]at ec;cases ec]
 exact ec
def prD:D->Option (List Key×D)
 | .tup [.tup ks,d]=>(j7 ks).bind fun k=>some (k,d)
 | _=>none
def uK:List D->Option (List (List Key×D))
 | []=>some []
 | d::r=>(prD d).bind fun x=>(uK r).bind fun xs=>some (x::xs)
def bDP:List D->Option Rz
 | [.lst ds]=>(uK ds).bind fun xs=>if (xs.map (·.1)).Nodup/\xs.length<=1000000 then some (.dt xs,true) else none
 | _=>none
theorem zX:∀{ds:List D} {vs:List V} {xs:List (List Key×D)},El K Y H vs ds->uK ds=some xs->∃ps:List Pr,vs=ps.map (fun x=>.ref x.1)/\(∀x∈ps,H x.1=some (.tup [.ref x.2.1,x.2.2.2])/\H x.2.1=some (.tup (x.2.2.1.map kV))/\¬ Y x.2.1)/\ps.map (·.2.2.1)=xs.map (·.1) /\
  ∀(i:Nat) x y,ps[i]?=some x->xs[i]?=some y->DA K Y H x.2.2.2 y.2
 | [],vs,xs,el,e=>by
  cases e;obtain rfl:=el.unnil;exact⟨[],rfl,(fun x h=>nomatch h),rfl,fun i x y h=>by simp at h⟩
 | d::ds,vs,xs,el,e=>by
  refine bsO e fun x e1 e=>?_;refine bsO e fun ys e2 e=>?_;cases e;obtain⟨v,vr,rfl,da,el⟩:=el.uncons;obtain⟨ps,g1,g2,g3,g4⟩:=zX el e2;unfold prD at e1;split at e1
  ·rename_i kd dv
   refine bsO e1 fun k e3 e1=>?_;cases e1;cases da with
   | @tup t ws _ t1 t2 t3 =>
    obtain⟨w1,wr,rfl,d1,el1⟩:=El.uncons ⟨t2,t3⟩;obtain⟨w2,wr2,rfl,d2,el2⟩:=el1.uncons;obtain rfl:=el2.unnil;cases d1 with
    | @tup b ws2 _ b1 b2 b3 =>
     have hk:=lO ⟨b2,b3⟩ e3;subst hk;refine⟨(t,b,k,w2)::ps,by rw[Wd,g1],fun x hx=>?_,by rw[Wd,Wd,g3],fun i x y h1 h2=>?_⟩
     ·rcases Yd.mp hx with rfl|hx
      ·exact⟨t1.1,b1.1,b1.2⟩
      ·exact g2 x hx
     ·cases i with
      | zero=>cases h1;cases h2;exact d2
      | succ i=>exact g4 i x y h1 h2
  ·cases e1
theorem wU:RdCB K rDP bDP:=by
 intro Y H xs ds z Q lv bs e q;cases bs with
 | nil=>cases e
 | @cons v vs d ds b1 bs =>
  cases bs with
  | cons _ _=>cases d<;>cases e
  | nil =>
   cases d with
   | lst items =>
    refine bsO e fun kd e1 e=>?_;obtain⟨⟨nd,few⟩,e⟩:=aD e;cases e;obtain⟨a,ws,rfl,ha,el⟩:=b1;obtain⟨ps,rfl,g2,g3,g4⟩:=zX el e1;have hl:ps.length=kd.length:=by have:=congrArg List.length g3;rwa [Ya,Ya]at this
    refine⟨a,ps,rfl,ha,fun x hx=>⟨(g2 x hx).1,(g2 x hx).2.1⟩,by rw[g3];exact nd,by lia,fun p n hp=>?_⟩
    have sm:=aR hp (.dT (n,ps.map (·.2.1)) (ps.map fun x=>(x.2.2.1,x.2.2.2)));refine q _ _ sm ⟨p,rfl,hp,_,_,fun b hb=>?_,aM,?_,fun i x y h1 h2=>?_⟩
    ·obtain⟨x,hx,rfl⟩:=Yc.mp hb;obtain⟨_,h2,h3⟩:=g2 x hx;exact⟨fun z=>z.elim (fun z=>by rw[z,hp]at h2;cases h2) h3,by rw[sm _ _ h2];simp⟩
    ·rw[Xe,← g3];rfl
    ·rw[Qb]at h1;obtain⟨x',e2,rfl⟩:=Zd.mp h1;exact(g4 i x' y e2 h2).away sm hp
   | _=>cases e
end
end VF22
namespace VF22
open PySem L2 VF
theorem rD {X:Cx} {e:Expr} {t:TE} (h:PEi X e t):PE X e t:=by
 unfold PEi at h;exact h
theorem yU {X:Cx} {i0:Int} {j0:_} {p0:Pos} {i1:Int} {j1:_} {p1:Pos} {i2:Int} {j2:_} {p2:Pos} {i3:Int} {j3:_} {p3:Pos} {pos:Pos}:PEi X (.List [.Constant (.int i0) j0 p0,.Constant (.int i1) j1 p1,.Constant (.int i2) j2 p2,.Constant (.int i3) j3 p3] pos) (u7 (dm (tC (.int i0)) (dm (tC (.int i1)) (dm (tC (.int i2)) (dm (tC (.int i3)) kZ))))):=oA (hU ah (hU ah (hU ah (hU ah oz rfl) rfl) rfl) rfl)
end VF22
namespace K42
open PySem L2 VF VF22
noncomputable section
abbrev az:FE:=aJ 0
abbrev aG:FE:=aJ 1
abbrev aS:FE:=aJ 2
abbrev aV:FE:=aJ 3
abbrev cm:FE:=aJ 4
abbrev bY:FE:=aJ 5
abbrev oE:FE:=aJ 6
abbrev aQ:FE:=fC (.int 0)
abbrev aL:FE:=fC (.int 1)
abbrev kK:FE:=fC (.int 2)
abbrev kL:FE:=fC (.int 3)
abbrev sY:FE:=fC (.int 4)
abbrev sZ:FE:=fC (.int 5)
abbrev yV:FE:=fC (.int 6)
abbrev yW:FE:=fC (.int 9)
abbrev wV:FE:=fC (.int 10)
abbrev lW:FE:=fC (.int 16)
abbrev wW:FE:=fC (.int 18)
abbrev wX:FE:=fC (.int 31)
abbrev wY:FE:=fC (.int 40)
abbrev uL:FE:=fC (.int 127)
abbrev lX:FE:=fC (.int 7919)
abbrev qg:FE:=fC (.int 16807)
abbrev qh:FE:=fC (.int 30103)
abbrev qi:FE:=fC (.int 40692)
abbrev j8:FE:=fC (.int 48271)
abbrev mM:FE:=fC (.int 1000003)
abbrev jL:FE:=fC (.int 2147483563)
abbrev cK:FE:=fC (.int 2147483629)
abbrev fv:FE:=fC (.int 2147483646)
abbrev jM:FE:=fC (.int 2147483647)
def dR:FS :=
  (aY (bC (fCB (b2 yx) (ad aV (ad (fCB (b1 pL) (ad (fOp bIx az bY) aq)) aq))) 3)
  (aY (bC (fCB (b2 GD) (ad cm (ad (fCB (b1 pL) (ad (fOp bIx az bY) aq)) aq))) 4)
  (aY (bC (fOp ky (fOp fj cm aV) (fOp fj bY aG)) 6)
  (sIf (iY (aT oE) (aT (fOp pN (ff (ad (fOp bIx az aG) (ad (fOp bIx az bY) aq))) (ff (ad (ff (ad aV (ad cm aq))) (ad (ff (ad (fUn pF cm) (ad (fUn pF aV) aq))) aq)))))) (gq (fM isL ee 2 (ad (ff (ad aG (ad bY aq))) aq))) b9))))
def jh:FS :=
  (aY (bC (eI aq) 2)
  (aY (bC (fCB (b1 pL) (ad (fOp bIx az aG) aq)) 3)
  (aY (bC aV 4)
  (aY (eJ (nZ (ad (fOp bK aG aL) (ad (fCB cu (ad az aq)) aq))) (gN 5) dR)
  (cg aS)))))
def fR:List D->Option Rz:=bQ jh 7 2
def fS:FS :=
  (mJ jb (fC (.bl true)) 1 aV)
def jj:FS :=
  (eJ (fIA (dr fR (ad az (ad aS aq)))) (gN 3) fS)
def lY:FS :=
  (aY (bC (lQ (.dt [])) 1)
  (aY (eJ (mI (ad (fCB cu (ad az aq)) aq)) (gN 2) jj)
  (cg aG)))
def iI:List D->Option Rz:=bQ lY 4 1
def fZ:FE :=
  (g8 (fOp (p8 false) (ff (ad (fOp bIx aS aQ) (ad az aq))) aG) (fOp (p8 false) (ff (ad az (ad (fOp bIx aS aL) aq))) aG))
def hV:FS :=
  (cg (fCB wD (ad (du 1 [1,0] (nZ (ad (fOp bK (fOp bIx az aQ) aL) (ad (fOp bIx az aL) aq))) (gN 0) gp fZ) aq)))
def eL:List D->Option Rz:=bQ hV 2 2
def f7:FT :=
  (j6 (aT (dI eL (ad az (ad aG aq)))))
def f8:FE :=
  az
def hW:FS :=
  (aY (bC (dr iI (ad az aq)) 1)
  (cg (du 1 [1] (fIA (fCB lR (ad aG aq))) (gN 0) f7 f8)))
def eM:List D->Option Rz:=bQ hW 2 1
def qj:FS :=
  (cg (g8 (fOp gX az aG) (g8 (fOp bLe (fOp bIx aG aQ) (fOp bIx az aQ)) (fOp bLe (fOp bIx az aL) (fOp bIx aG aL)))))
def jk:List D->Option Rz:=bQ qj 2 2
def j9:FS :=
  (cg (fLR2 (ad (fOp bIx az aQ) (ad (fOp bIx az aL) aq))))
def cS:List D->Option Rz:=bQ j9 1 1
def iJ:FS :=
  (mJ jb (fC (.bl true)) 2 cm)
def lZ:FS :=
  (sIf (aT (dI jk (ad aV (ad az aq)))) (eJ (fIA (dr cS (ad aV aq))) (gN 4) iJ) b9)
def ma:FT :=
  (aT (fOp (p8 true) az aG))
def md:FE :=
  az
def qk:FS :=
  (aY (bC (lQ (.dk [])) 2)
  (aY (eJ (fIA aG) (gN 3) lZ)
  (cg (du 1 [2] (fIA (dr cS (ad az aq))) (gN 0) ma md))))
def me:List D->Option Rz:=bQ qk 5 2
def gz:FS :=
  (mJ jb (dr me (ad aV (ad aG aq))) 2 aV)
def jl:FS :=
  (aY (bC (dr eM (ad az aq)) 1)
  (aY (bC (lQ (.dt [])) 2)
  (aY (eJ (fIA aG) (gN 3) gz)
  (cg aS))))
def bV:List D->Option Rz:=bQ jl 4 1
def mf:FS :=
  (aY (bC (fOp bK (fOp d6 lX aG) mM) 2)
  (aY (sIf (aT (fOp bLt aG (fCB cu (ad az aq)))) (bC (fOp bIx az aG) 2) (sIf (aT (fOp bGt (fCB cu (ad az aq)) aQ)) (bC (fOp bK (fOp d6 (fOp fG (fOp bIx az (fOp fG aG (fCB cu (ad az aq)))) cK) wX) (fOp d6 lX aG)) 2) b9))
  (aY (bC aQ 3)
  (aY (sIf (aT (fOp bGe aS (fOp Ed wV wW))) (bC aS 3) b9)
  (cg (eI (ad aV (ad (fOp bK (fOp fG (fOp bK (fOp d6 (fOp fG aS cK) j8) (fOp d6 qi aG)) fv) aL) aq))))))))
def iK:List D->Option Rz:=bQ mf 4 2
def mi:FS :=
  (aY (sIf (aT (fOp bGt (fOp bIx az aQ) aQ)) (aY (bC (fOp fG (fOp bIx az aQ) aG) 2)
  (aY (mJ vL (fOp yk (fOp bIx az aQ) aG) 0 aQ)
  (cg aS))) b9)
  (aY (bC (fOp fG (fOp d6 (fOp bIx az aL) qg) jM) 3)
  (aY (mJ vL (fOp bK (fOp fG (fOp bK (fOp d6 aV j8) qh) fv) aL) 0 aL)
  (cg (fOp fG (fOp bK (fOp d6 (fOp fG (fOp d6 aV aV) cK) jL) (fOp yk (fOp bIx az aL) uL)) aG)))))
def bw:D->List D->Option (Rz×D):=dL mi 4 2
def hZ:FS :=
  (aY (sIf (aT (fOp bLt az aQ)) (cg (fOp fj az aG)) b9)
  (cg (fOp bK az aG)))
def cc:List D->Option Rz:=bQ hZ 2 2
def gA:FE :=
  (dI cc (ad az (ad aG aq)))
def gB:FE :=
  (fOp fj aQ (dI cc (ad az (ad (fOp fj aQ aG) aq))))
def dS:FS :=
  (sIf (aT (fOp bGt (fCB (b1 pL) (ad bY aq)) (fCB (b1 pL) (ad aV aq)))) (gq (fM isL ee 4 (ad (dI cc (ad bY (ad (fOp bIx aS (fUn pF aL)) aq))) aq))) (sIf (aT (fOp bNe bY aV)) (gq (fM isL ee 4 (ad bY aq))) (sIf (aT (fOp bGe aV aQ)) (gq (fM isL kD 4 (ad (du 1 [3] (fIA aS) (gN 0) gp gA) aq))) (gq (fM isL kD 4 (ad (du 1 [3] (fIRvL aS) (gN 0) gp gB) aq))))))
def jm:FS :=
  (aY (bC (fOp bIx az aG) 3)
  (aY (bC (eI aq) 4)
  (aY (eJ (fIA az) (gN 5) dS)
  (cg cm))))
def dD:List D->Option Rz:=bQ jm 6 3
def eN:FS :=
  (gq (fM isL ee 5 (ad (fOp d6 (fM isL n8 3 (ad (fIO bw 0 (ad (fCB cu (ad aV aq)) aq)) aq)) (fOp bIx cm (fIO bw 0 (ad kK aq)))) aq)))
def kc:FS :=
  (aY (bC (fOp bK aL (fIO bw 0 (ad aG aq))) 2)
  (aY (bC (fLR2 (ad aL (ad (fOp bK aS aL) aq))) 3)
  (aY (bC (eI (ad aL (ad (fOp fj aL (fOp d6 kK (fCB (b1 GE) (ad (fOp bEq (fIO bw 0 (ad kL aq)) aQ) aq)))) aq))) 4)
  (aY (bC (eI (ad aQ aq)) 5)
  (aY (eJ (mI (ad aS aq)) (gN 6) eN)
  (cg (fOp bK bY (eI (ad (fOp bK aS aL) aq)))))))))
def cT:D->List D->Option (Rz×D):=dL kc 7 2
def de:FS :=
  (aY (bC (fOp fj (fOp bK aG kK) (fCB cu (ad aS aq))) 4)
  (aY (bC (fIO cT 0 (ad (fOp bIx (eI (ad kK (ad sY (ad aG aq)))) (fIO bw 0 (ad kL aq))) aq)) 5)
  (aY (bC (fIO bw 0 (ad (fCB cu (ad aS aq)) aq)) 6)
  (sIf (aT (fOp bLe (fOp fj (fCB cu (ad bY aq)) aL) cm)) (bC (dr dD (ad aS (ad oE (ad bY aq)))) 2) b9))))
def ia:FS :=
  (aY (bC (eI (ad aQ (ad aL aq))) 2)
  (aY (sIf (aT (fOp bEq (fIO bw 0 (ad kL aq)) aQ)) (bC (fIO cT 0 (ad (fCB (b2 yx) (ad aG (ad yV aq))) aq)) 2) b9)
  (aY (eJ (mI (ad (fOp bK aL (fIO bw 0 (ad sZ aq))) aq)) (gN 3) de)
  (cg aS))))
def eO:D->List D->Option (Rz×D):=dL ia 7 2
def df:FE :=
  (fCB (b1 pL) (ad az aq))
def ib:FS :=
  (aY (bC (fCB fP (ad (du 1 [] (fIA (fSl bSl az (lB aG) (lB (fOp bK aS aL)))) (gN 0) gp df) aq)) 3)
  (aY (sIf (aT (fOp gX aV (fLR2 (ad (fOp bIx aV aQ) (ad (fOp bK (fOp fj (fOp bK (fOp bIx aV aQ) aS) aG) aL) aq))))) (cg (fC (.bl false))) b9)
  (aY (sIf (aT (fOp ky (fOp bIx az aG) (fOp bIx aV aQ))) (cg (fOp ky (fOp bIx az aS) (fOp bIx aV (fUn pF aL)))) b9)
  (cg (g8 (fOp ky (fOp bIx az aG) (fOp fj aQ (fOp bIx aV (fUn pF aL)))) (fOp ky (fOp bIx az aS) (fOp fj aQ (fOp bIx aV aQ))))))))
def eP:List D->Option Rz:=bQ ib 4 3
def dU:FS :=
  (sIf (aT (dI eP (ad az (ad aS (ad aV aq))))) (mJ jb (fC (.bl true)) 1 (ff (ad aS (ad aV aq)))) b9)
def dW:FS :=
  (eJ (nZ (ad (fOp bK aS aL) (ad (fCB cu (ad az aq)) aq))) (gN 3) dU)
def dX:FE :=
  (g8 (fOp (p8 false) (ff (ad aS (ad az aq))) aG) (fOp (p8 false) (ff (ad az (ad aV aq))) aG))
def gC:FS :=
  (sIf (j6 (aT (fCB wD (ad (du 1 [1,2,3] (nZ (ad (fOp bK aS aL) (ad aV aq))) (gN 0) gp dX) aq)))) (gq (fM isL ee 4 (ad (ff (ad aS (ad aV aq))) aq))) b9)
def jn:FS :=
  (aY (bC (lQ (.dt [])) 1)
  (aY (eJ (mI (ad (fCB cu (ad az aq)) aq)) (gN 2) dW)
  (aY (bC (eI aq) 4)
  (aY (eJ (fID aG) (gT 2 (gsC (gN 2) (gsC (gN 3) gsN))) gC)
  (cg cm)))))
def fT:List D->Option Rz:=bQ jn 5 1
def eQ:FT :=
  (iY (aT (yC (fOp bIx aS aQ) (cO bLe (fOp bIx az aQ) (cO bLe aG (cO bLt (fOp bIx az aL) (kE bLe (fOp bIx aS aL))))))) (aT (fOp gX az aS)))
def ie:FE :=
  az
def ig:FS :=
  (aY (bC (du 1 [3,1] (fIA az) (gN 0) eQ ie) 4)
  (sIf (aT (fOp ky cm (eI aq))) (gq (fM isL ee 2 (ad aV aq))) b9))
def ke:FS :=
  (aY (bC (eI aq) 2)
  (aY (eJ (nZ (ad (fOp bIx aG aQ) (ad (fOp bIx aG aL) aq))) (gN 3) ig)
  (cg aS)))
def gE:List D->Option Rz:=bQ ke 5 2
def eR:FS :=
  (mJ jb (dr gE (ad aS (ad cm aq))) 3 cm)
def ii:FE :=
  (fCB kC (ad az (ad (fC (.ty "bool")) aq)))
def ij:FE :=
  (ff (ad (ff (ad az (ad (fOp bK az aL) aq))) (ad (eI (ad az aq)) aq)))
def eS:FE :=
  (eI aq)
def eT:FE :=
  (fOp bK oE (fOp p7 bY cm))
def eU:FT :=
  (ud (j6 (aT (fCB kC (ad bY (ad (fC (.ty "dict")) aq))))) (ud (aT (fOp (uF true) bY aV)) (aT (fOp gX aG az))))
def eV:FT :=
  (aT (fOp gX (fCB fP (ad oE aq)) (fLR1 (ad (fOp fj (fCB cu (ad az aq)) aL) aq))))
def eW:FT :=
  (ud (j6 (aT (fCB kC (ad (fOp p7 bY cm) (ad (fC (.ty "list")) aq))))) (aT (fOp pN (fC (.bl true)) (du 1 [] (fIA (fOp p7 bY cm)) (gN 0) gp ii))))
def kg:FS :=
  (aY (bC (fCB vR (ad az aq)) 1)
  (aY (bC (dr fT (ad az aq)) 2)
  (aY (bC (lQ (.dt [])) 3)
  (aY (eJ (fIA aS) (gN 4) eR)
  (aY (uH bV 3 1 5 6 4 eS eT eU eV eW)
  (aY (sIf (aT (fOp (uF true) (lV bV 1) aV)) (cg (fC (.bl false))) b9)
  (aY (sSlc (fLR1 (ad (fCB cu (ad az aq)) aq)) 1)
  (cg (fOp (uF false) (dr bV (ad aG aq)) (fCB bDP (ad (du 1 [] (mI (ad (fOp fj (fCB cu (ad az aq)) aL) aq)) (gN 0) gp ij) aq)))))))))))
def gF:List D->Option Rz:=bQ kg 7 1
def s9:FS :=
  (aY (bC (dr iK (ad az (ad aG aq))) 2)
  (sIf (j6 (aT (dI gF (ad (fIO eO 2 (ad (fOp bIx (eI (ad (fOp bIx (eI (ad lW (ad lW (ad lW (ad wY aq))))) (fIO bw 2 (ad sY aq))) (ad yW (ad sZ aq)))) aG) aq)) aq)))) (cg (fC (.bl false))) b9))
def zY:FS :=
  (aY (eJ (mI (ad kL aq)) (gN 1) s9)
  (cg (fC (.bl true))))
def GW:List D->Option Rz:=bQ zY 3 1
end
end K42
namespace K42
open PySem L2 VF VF22
def top (i:Nat):Stmt:=PySem.Challenge.pw_strandwright_k42_own_points.main.body.getD i (.Pass ⟨0,0,0,0⟩)
abbrev iL:Stmt:=top 1
abbrev mj:Stmt:=top 2
abbrev eC:Stmt:=top 3
abbrev eE:Stmt:=top 4
abbrev oF:Stmt:=top 5
abbrev jN:Stmt:=top 6
abbrev oG:Stmt:=top 7
abbrev iM:Stmt:=top 8
abbrev rE:Stmt:=top 10
abbrev rF:Stmt:=top 11
abbrev jO:Stmt:=top 12
abbrev jo:Stmt:=top 13
abbrev oH:Stmt:=top 14
abbrev jP:Stmt:=top 15
abbrev jp:Stmt:=top 16
abbrev js:Stmt:=top 17
abbrev kM:Stmt:=top 18
abbrev jt:Stmt:=top 19
abbrev Fg:Stmt:=top 20
theorem sc_sspansfrom:FnScope ["numbers","begin","found","low","high","place","full"] ["numbers","begin"] (aA iL):=fsc (by decide +kernel)
theorem sc_sspansof:FnScope ["numbers","spans","begin","span"] ["numbers"] (aA mj):=fsc (by decide +kernel)
theorem ml:FnScope ["span","spans"] ["span","spans"] (aA eC):=fsc (by decide +kernel)
theorem sc_swholespans:FnScope ["numbers","spans"] ["numbers"] (aA eE):=fsc (by decide +kernel)
theorem rG:FnScope ["span","other"] ["span","other"] (aA oF):=fsc (by decide +kernel)
theorem oI:FnScope ["span"] ["span"] (aA jN):=fsc (by decide +kernel)
theorem sc_sownof:FnScope ["span","wholes","taken","inner","point"] ["span","wholes"] (aA oG):=fsc (by decide +kernel)
theorem sc_sownpoints:FnScope ["numbers","wholes","own","span"] ["numbers"] (aA iM):=fsc (by decide +kernel)
theorem sc_sLdeal:FnScope ["_law_script","_law_at","_law_cell","_law_own"] ["_law_script","_law_at"] (aA rE):=fsc (by decide +kernel)
theorem sc_sLdraw:FnScope ["_law_deal_here","_law_many","_law_digit","_law_one"] ["_law_deal_here","_law_many"] (aA rF):=fsc (by decide +kernel)
theorem oJ:FnScope ["_law_number","_law_by"] ["_law_number","_law_by"] (aA jO):=fsc (by decide +kernel)
theorem sc_sLputin:FnScope ["_law_numbers_here","_law_at","_law_block_here","_law_here","_law_found","_law_number"] ["_law_numbers_here","_law_at","_law_block_here"] (aA jo):=fsc (by decide +kernel)
theorem sc_sLblock:FnScope ["_law_deal_here","_law_most","_law_many","_law_left","_law_sides","_law_found","_law_k"] ["_law_deal_here","_law_most"] (aA oH):=fsc (by decide +kernel)
theorem sc_sLnumbers:FnScope ["_law_deal_here","_law_most","_law_numbers_here","_law_k","_law_room","_law_block_here","_law_at"] ["_law_deal_here","_law_most"] (aA jP):=fsc (by decide +kernel)
theorem sc_sLisspan:FnScope ["_law_numbers_here","_law_s","_law_e","_law_some"] ["_law_numbers_here","_law_s","_law_e"] (aA jp):=fsc (by decide +kernel)
theorem sc_sLwholes:FnScope ["_law_numbers_here","_law_spans","_law_s","_law_e","_law_found"] ["_law_numbers_here"] (aA js):=fsc (by decide +kernel)
theorem sc_sLowned:FnScope ["_law_wholes_here","_law_span","_law_found","_law_k","_law_inner"] ["_law_wholes_here","_law_span"] (aA kM):=fsc (by decide +kernel)
theorem sc_sLright:FnScope ["_law_numbers_here","_law_handed","_law_wholes_here","_law_due","_law_span","_law_found","_law_points"] ["_law_numbers_here"] (aA jt):=fsc (by decide +kernel)
theorem sc_slaw:FnScope ["_law_script","_law_k","_law_deal_here"] ["_law_script"] (aA Fg):=fsc (by decide +kernel)
structure Md (mg:Str->Option Value):Prop where
 n_abs:mg "abs"=none
 n_any:mg "any"=none
 n_bool:mg "bool"=none
 n_dict:mg "dict"=none
 n_int:mg "int"=none
 n_isinstance:mg "isinstance"=none
 n_len:mg "len"=none
 n_list:mg "list"=none
 n_max:mg "max"=none
 n_min:mg "min"=none
 n_range:mg "range"=none
 n_reversed:mg "reversed"=none
 n_sorted:mg "sorted"=none
end K42
namespace VF
open PySem L2
theorem dY {i j:Int} (h:CMul i j):d6 (.int i) (.int j)=some (.int (i*j),false):=by
 have:vE (.int i) (.int j)=some (.int (i*j),false):=by
  show(if CMul i j then some (D.int (i*j),false) else none)=_;rw[Af h]
 unfold d6 orD;rw[this]
theorem rH {i j:Int} (h:0<j):fG (.int i) (.int j)=some (.int (i % j),false):=by
 show(if 0<j then some (D.int (i % j),false) else none)=_;rw[Af h]
theorem Fh {i j:Int} (h:qK i j):yk (.int i) (.int j)=some (.int (i / j),false):=by
 show(if qK i j then some (D.int (i / j),false) else none)=_;rw[Af h]
theorem rJ {ds:List D} {i:Int} {d:D} (h:atI ds i=some d):bIx (.lst ds) (.int i)=some (d,false):=by
 have:vI (.lst ds) (.int i)=some (d,false):=by
  show(atI ds i).bind (fun d=>some (d,false))=_;rw[h];rfl
 unfold bIx orD;rw[this]
theorem ix_tup {ds:List D} {i:Int} {d:D} (h:atI ds i=some d):bIx (.tup ds) (.int i)=some (d,false):=by
 have e1:vI (.tup ds) (.int i)=none:=rfl;have:Ei (.tup ds) (.int i)=some (d,false):=by
  show(atI ds i).bind (fun d=>some (d,false))=_;rw[h];rfl
 unfold bIx orD;rw[e1,this]
theorem kz {f:FT} {st s:En} {b c:Bool} (h:f st=some (b,s)) (e:b=c):f st=some (c,s):=e ▸ h
theorem iN {mm:D->D->D->Option D} {fe fi:FE} {i:Nat} {st s1 s2 s3:En} {r rk:Rs} {dv dk z z':D} {t t0:Sl} {x0:D} (h1:fe st=some (r,s1)) (h2:esc r s1=some (dv,s2)) (h0:s2[i]?=some t0) (h00:t0.ow=some x0) (h3:fi s2=some (rk,s3)) (h4:cont s3 rk=some dk) (h5:s3[i]?=some t) (h6:t.ow=some z) (h7:mm z dk dv=some z') {s4:En} (h8:s3.set i (t.put z')=s4:=by rfl):mJ mm fe i fi st=some (.nx s4):=by
 simp only[mJ,h1,h2,h0,h00,h3,h4,h5,h6,h7,h8,Qa]
end VF
namespace VF
open PySem L2
section
variable {st s s1 s2:En} {r ry:Rs} {d1 d2:D} {fe fa:FE}
theorem qm {i:Int} (h:fe st=some (r,s)) (h2:cont s r=some (.int i)):lB fe st=some (some i,s):=by
 simp only[lB,h,Qa,asInt,h2]
end
theorem qp {l:List D} {n:Nat} (hl:l.length<=n) {b:Bool} (hb:b=true) (hn:n<=1000000:=by decide):(b&&decide (l.length<=1000000))=true:=by rw[hb,Ag (by lia)];rfl
theorem oK {i j:Int}:bEq (.int i) (.int j)=some (.bl (decide (i=j)),false):=by
 show some (D.bl (decide (V.int i=V.int j)),false)=_;by_cases h:i=j
 ·subst h;simp
 ·rw[Ae h,Ae (fun z=>h (V.int.inj z))]
theorem wZ {i j:Int}:bNe (.int i) (.int j)=some (.bl (!decide (i=j)),false):=by
 show some (D.bl (!decide (V.int i=V.int j)),false)=_;by_cases h:i=j
 ·subst h;simp
 ·rw[Ae h,Ae (fun z=>h (V.int.inj z))]
theorem gQ {i j:Int}:ky (.int i) (.int j)=some (.bl (decide (i=j)),false):=by
 unfold ky orD;rw[oK]
theorem zZ {ds:List D} {i:Int} {d:D} (h:atI ds i=some d):bIx (.fl ds) (.int i)=some (d,false):=by
 have:vI (.fl ds) (.int i)=some (d,false):=by
  show(atI ds i).bind (fun d=>some (d,false))=_;rw[h];rfl
 unfold bIx orD;rw[this]
theorem iO {ds:List D} {i:Nat} {d:D} (h:ds[i]?=some d):bIx (.lst ds) (.int i)=some (d,false):=rJ (nQ h)
theorem bP {ds:List D} {i:Nat} {d:D} (h:ds[i]?=some d):bIx (.tup ds) (.int i)=some (d,false):=ix_tup (nQ h)
theorem yX {ds:List D} {d:D}:bIx (.lst (ds++[d])) (.int (-1))=some (d,false):=rJ (by
 unfold atI ixN;rw[Yb,Xf,Ah (by lia),Af (by lia)]
 show(ds++[d])[((-1:Int)+((ds.length+1:Nat):Int)).toNat]?=_;have:((-1:Int)+((ds.length+1:Nat):Int)).toNat=ds.length:=by lia
 rw[this];simp)
theorem Fi {fe:FE} {i:Nat} {st s1 s2 s3:En} {r:Rs} {dv z z':D} {t:Sl} (h1:fe st=some (r,s1)) (h2:esc r s1=some (dv,s2)) (h3:s2[i]?=some t) (h4:t.ow=some z) (h5:VF22.slcD z dv=some z') (h6:s2.set i (t.put z')=s3:=by rfl):VF22.sSlc fe i st=some (.nx s3):=by
 simp only[VF22.sSlc,h1,h2,h3,h4,h5,h6,Qa]
theorem w5 {fa:FA} {st s:En} {rs:List Rs} {j:Int} (h1:fa st=some (rs,s)) (h2:bT s rs=some [.int j]) (h3:VF22.RB 0 j):VF22.fLR1 fa st=some (.f (.lst (rng 0 (j-0).toNat)),s):=by
 simp only[VF22.fLR1,h1,h2,Qa,qU];rw[Af h3]
theorem rK {fa:FA} {st s:En} {rs:List Rs} {i j:Int} (h1:fa st=some (rs,s)) (h2:bT s rs=some [.int i,.int j]) (h3:VF22.RB i j):VF22.fLR2 fa st=some (.f (.lst (rng i (j-i).toNat)),s):=by
 simp only[VF22.fLR2,h1,h2,Qa,qV];rw[Af h3]
theorem jQ {fa:FA} {st s1 s2:En} {rs:List Rs} {ds:List D} (h1:fa st=some (rs,s1)) (h2:cW rs s1=some (ds,s2)) (h3:ds.length<=1000000):eI fa st=some (.f (.lst ds),s2):=by
 simp only[eI,h1,h2,Qa];rw[Af h3]
theorem Fj {fe:FE} {st s1 s2:En} {r:Rs} {ds:List D} (h1:fe st=some (r,s1)) (h2:esc r s1=some (.lst ds,s2)):VF22.fIRvL fe st=some (ds.reverse,s2):=by
 simp only[VF22.fIRvL,h1,h2,Qa,VF22.lstD]
theorem jR {xs:List D} {y:D} (h:xs.length<1000000):ee (.lst xs) [y]=some (.non,.lst (xs++[y])):=by
 show(if xs.length<1000000 then some (D.non,D.lst (xs++[y])) else none)=_;rw[Af h]
end VF
namespace K42
open PySem L2 VF VF22
def Dl (m s:Int):D:=.lst [.int m,.int s]
def iP (δ:D):Prop:=∃m s,δ=Dl m s/\0<=m/\1<=s/\s<=2147483646
theorem dE {δ:D} {n:Int} (hδ:iP δ) (h0:0<n) (h1:n<=1000):∃d δ',bw δ [.int n]=some ((.int d,false),δ')/\0<=d/\d<n/\iP δ':=by
 obtain⟨m,s,rfl,hm,hs1,hs2⟩:=hδ;by_cases c1:0<m
 ·refine⟨m % n,Dl (m / n) s,?_,Wn _ (by lia),Vl _ h0,m / n,s,rfl,Int.ediv_nonneg hm (by lia),hs1,hs2⟩
  refine gK (o:=.rt (.d (.int (m % n))) [.io (Dl (m / n) s),.v (.int n),.v (.int (m % n)),.e]) rfl ?_ rfl;refine n9 (gt (kz (b:=decide (0<m)) (s:=[.io (Dl m s),.v (.int n),.e,.e]) rfl (Ag c1)) ?_);refine aB (s:=[.io (Dl m s),.v (.int n),.v (.int (m % n)),.e]) (fm (ao rfl rfl rfl rfl (rH h0)) rfl) ?_;refine aB (s:=[.io (Dl (m / n) s),.v (.int n),.v (.int (m % n)),.e]) (iN (ao rfl rfl rfl rfl (Fh ⟨h0,by lia⟩)) rfl rfl rfl rfl rfl rfl rfl rfl) ?_
  rfl
 ·have a1:=Wn (s*16807) (show(2147483647:Int)≠0 by decide)
  have a2:=Vl (s*16807) (show(0:Int)<2147483647 by decide)
  have b1:=Wn ((s*16807 % 2147483647)*48271+30103) (show(2147483646:Int)≠0 by decide)
  have b2:=Vl ((s*16807 % 2147483647)*48271+30103) (show(0:Int)<2147483646 by decide)
  have c1':=Wn ((s*16807 % 2147483647)*(s*16807 % 2147483647)) (show(2147483629:Int)≠0 by decide)
  have c2':=Vl ((s*16807 % 2147483647)*(s*16807 % 2147483647)) (show(0:Int)<2147483629 by decide)
  refine⟨((s*16807 % 2147483647)*(s*16807 % 2147483647) % 2147483629*2147483563+(((s*16807 % 2147483647)*48271+30103) % 2147483646+1) / 127) % n,Dl m (((s*16807 % 2147483647)*48271+30103) % 2147483646+1),?_,Wn _ (by lia),Vl _ h0,m,_,rfl,hm,by lia,by lia⟩
  generalize e1:s*16807 % 2147483647=o at *;generalize e2:(o*48271+30103) % 2147483646+1=t at *;refine gK (o:=.rt (.d (.int ((o*o % 2147483629*2147483563+t / 127) % n))) [.io (Dl m t),.v (.int n),.e,.v (.int o)]) rfl ?_ rfl;refine aB (fk (kz (b:=decide (0<m)) (s:=[.io (Dl m s),.v (.int n),.e,.e]) rfl (Ae c1)) rfl) ?_;refine aB (s:=[.io (Dl m s),.v (.int n),.e,.v (.int o)]) (fm (x:=.int o) (ao (ao rfl rfl rfl rfl (dY (.inr ⟨by decide,by decide⟩))) rfl rfl rfl (z:=(.int o,false)) (by rw[← e1];rfl)) rfl) ?_
  refine aB (s:=[.io (Dl m t),.v (.int n),.e,.v (.int o)]) (iN (dv:=.int t) (r:=.d (.int t)) (ao (ao (ao (ao rfl rfl rfl rfl (dY (.inr ⟨by decide,by decide⟩))) rfl rfl rfl rfl) rfl rfl rfl rfl) rfl rfl rfl (z:=(.int t,false)) (by rw[← e2];rfl)) rfl rfl rfl rfl rfl rfl rfl rfl) ?_
  exact dM (ao (ao (ao (ao (ao rfl rfl rfl rfl (dY (.inl ⟨by lia,by lia⟩))) rfl rfl rfl rfl) rfl rfl rfl (dY (.inr ⟨by decide,by decide⟩))) (ao rfl rfl rfl rfl rfl) rfl rfl rfl) rfl rfl rfl (rH h0))
theorem yY (ns:List Int) {k:Int} (h0:0<=k) (h1:k<=2):∃δ,iK [.fl (ns.map D.int),.int k]=some (δ,true)/\iP δ:=by
 have key:∀c:Int,∃δ,((aY (bC (fC (.int 0)) 3) (aY (sIf (aT (fOp bGe (aJ 2) (fOp Ed (fC (.int 10)) (fC (.int 18))))) (bC (aJ 2) 3) b9)
  (cg (eI (ad (aJ 3) (ad (fOp bK (fOp fG (fOp bK (fOp d6 (fOp fG (aJ 2) (fC (.int 2147483629))) (fC (.int 48271))) (fOp d6 (fC (.int 40692)) (aJ 1))) (fC (.int 2147483646))) (fC (.int 1))) aq))))))) [.v (.fl (ns.map D.int)),.v (.int k),.v (.int c),.e]=some (.rt (.f δ) [.v (.fl (ns.map D.int)),.v (.int k),.v (.int c),.v (.int (if (10:Int) ^ (18:Int).toNat<=c then c else 0))])/\iP δ:=fun c=>by
  have b1:=Wn (c % 2147483629*48271+40692*k) (show(2147483646:Int)≠0 by decide)
  have b2:=Vl (c % 2147483629*48271+40692*k) (show(0:Int)<2147483646 by decide)
  have fin:∀m:Int,cg (eI (ad (aJ 3) (ad (fOp bK (fOp fG (fOp bK (fOp d6 (fOp fG (aJ 2) (fC (.int 2147483629))) (fC (.int 48271))) (fOp d6 (fC (.int 40692)) (aJ 1))) (fC (.int 2147483646))) (fC (.int 1))) aq))) [.v (.fl (ns.map D.int)),.v (.int k),.v (.int c),.v (.int m)]=some (.rt (.f (Dl m ((c % 2147483629*48271+40692*k) % 2147483646+1))) [.v (.fl (ns.map D.int)),.v (.int k),.v (.int c),.v (.int m)]):=fun m=>by
   refine dM (s:=[.v (.fl (ns.map D.int)),.v (.int k),.v (.int c),.v (.int m)]) ?_;have e:(fOp bK (fOp fG (fOp bK (fOp d6 (fOp fG (aJ 2) (fC (.int 2147483629))) (fC (.int 48271))) (fOp d6 (fC (.int 40692)) (aJ 1))) (fC (.int 2147483646))) (fC (.int 1))) [.v (.fl (ns.map D.int)),.v (.int k),.v (.int c),.v (.int m)]=some (.d (.int ((c % 2147483629*48271+40692*k) % 2147483646+1)),[.v (.fl (ns.map D.int)),.v (.int k),.v (.int c),.v (.int m)]) :=
    ao (ao (ao (ao (ao rfl rfl rfl rfl rfl) rfl rfl rfl (dY (.inr ⟨by decide,by decide⟩))) (ao rfl rfl rfl rfl (dY (.inl ⟨by decide,by decide⟩))) rfl rfl rfl) rfl rfl rfl rfl) rfl rfl rfl rfl
   exact jQ (ay rfl (ay e rfl)) rfl (by simp)
  by_cases c3:(10:Int) ^ (18:Int).toNat<=c
  ·have p18:(0:Int)<=10 ^ (18:Int).toNat:=by decide
   refine⟨Dl c ((c % 2147483629*48271+40692*k) % 2147483646+1),?_,c,_,rfl,by lia,by lia,by lia⟩
   rw[Af c3];refine aB (s:=[.v (.fl (ns.map D.int)),.v (.int k),.v (.int c),.v (.int 0)]) rfl ?_;refine aB (s:=[.v (.fl (ns.map D.int)),.v (.int k),.v (.int c),.v (.int c)]) (gt (kz (b:=decide ((10:Int) ^ (18:Int).toNat<=c)) (s:=[.v (.fl (ns.map D.int)),.v (.int k),.v (.int c),.v (.int 0)]) rfl (Ag c3)) rfl) (fin c)
  ·refine⟨Dl 0 ((c % 2147483629*48271+40692*k) % 2147483646+1),?_,0,_,rfl,by lia,by lia,by lia⟩
   rw[Ah c3];refine aB (s:=[.v (.fl (ns.map D.int)),.v (.int k),.v (.int c),.v (.int 0)]) rfl ?_;refine aB (s:=[.v (.fl (ns.map D.int)),.v (.int k),.v (.int c),.v (.int 0)]) (fk (kz (b:=decide ((10:Int) ^ (18:Int).toNat<=c)) (s:=[.v (.fl (ns.map D.int)),.v (.int k),.v (.int c),.v (.int 0)]) rfl (Ae c3)) rfl) (fin 0)
 have first:∃c:Int,(sIf (aT (fOp bLt (aJ 1) (fCB cu (ad (aJ 0) aq)))) (bC (fOp bIx (aJ 0) (aJ 1)) 2) (sIf (aT (fOp bGt (fCB cu (ad (aJ 0) aq)) (fC (.int 0)))) (bC (fOp bK (fOp d6 (fOp fG (fOp bIx (aJ 0) (fOp fG (aJ 1) (fCB cu (ad (aJ 0) aq)))) (fC (.int 2147483629))) (fC (.int 31))) (fOp d6 (fC (.int 7919)) (aJ 1))) 2) b9)) [.v (.fl (ns.map D.int)),.v (.int k),.v (.int (7919*k+1000003)),.e]=some (.nx [.v (.fl (ns.map D.int)),.v (.int k),.v (.int c),.e]):=by
  by_cases c1:k<((ns.map D.int).length:Int)
  ·obtain⟨v,hv,hm',_⟩:=vo h0 c1;obtain⟨z,_,rfl⟩:=Yc.mp hm';refine⟨z,gt (kz (b:=decide (k<((ns.map D.int).length:Int))) (s:=[.v (.fl (ns.map D.int)),.v (.int k),.v (.int (7919*k+1000003)),.e]) rfl (Ag c1)) ?_⟩;exact fm (x:=.int z) (ao rfl rfl rfl rfl (z:=(.int z,false)) (zZ hv)) rfl
  ·refine Exists.imp (fun c h=>fk (kz (b:=decide (k<((ns.map D.int).length:Int))) (s:=[.v (.fl (ns.map D.int)),.v (.int k),.v (.int (7919*k+1000003)),.e]) rfl (Ae c1)) h) ?_;by_cases c2:(0:Int)<((ns.map D.int).length:Int)
   ·obtain⟨v,hv,hm',_⟩:=vo (xs:=ns.map D.int) (Wn k (by lia)) (Vl k c2)
    obtain⟨z,_,rfl⟩:=Yc.mp hm';refine⟨z % 2147483629*31+7919*k,gt (kz (b:=decide ((0:Int)<((ns.map D.int).length:Int))) (s:=[.v (.fl (ns.map D.int)),.v (.int k),.v (.int (7919*k+1000003)),.e]) rfl (Ag c2)) ?_⟩;exact fm (x:=.int _) (ao (ao (ao (ao rfl (ao rfl rfl rfl rfl (rH c2)) rfl rfl (z:=(.int z,false)) (zZ hv)) rfl rfl rfl rfl) rfl rfl rfl (dY (.inr ⟨by decide,by decide⟩))) (ao rfl rfl rfl rfl (dY (.inl ⟨by decide,by decide⟩))) rfl rfl rfl) rfl
   ·exact⟨7919*k+1000003,fk (kz (b:=decide ((0:Int)<((ns.map D.int).length:Int))) (s:=[.v (.fl (ns.map D.int)),.v (.int k),.v (.int (7919*k+1000003)),.e]) rfl (Ae c2)) rfl⟩
 obtain⟨c,ec⟩:=first
 obtain⟨δ,eδ,hδ⟩:=key c;exact⟨δ,bF rfl (aB (s:=[.v (.fl (ns.map D.int)),.v (.int k),.v (.int (7919*k+1000003)),.e]) (fm (ao (ao rfl rfl rfl rfl (dY (.inl ⟨by decide,by decide⟩))) rfl rfl rfl rfl) rfl) (aB ec eδ)) rfl,hδ⟩
theorem rL {α β:Type} {f:α->β} {l:List α} (inj:∀a b,f a=f b->a=b) (h:l.Nodup):(l.map f).Nodup:=by
 rw[List.Nodup,Vh];exact List.Pairwise.imp (fun hne e=>hne (inj _ _ e)) h
theorem z0 {α β:Type} {f:α->β} {l:List α} (h:(l.map f).Nodup):l.Nodup:=by
 rw[List.Nodup,Vh]at h;exact List.Pairwise.imp (fun hne e=>hne (congrArg f e)) h
theorem rM {α β:Type} {f:α->β}:∀{l:List α},(l.map f).Nodup->∀{x y:α},x∈l->y∈l->f x=f y->x=y
 | [],_,_,_,hx,_,_=>by cases hx
 | a::l,h,x,y,hx,hy,e=>by
  rw[Wd,Xi]at h;rcases Yd.mp hx with h1|h1
  ·rcases Yd.mp hy with h2|h2
   ·rw[h1,h2]
   ·exact absurd (by rw[← h1,e];exact B2 h2) h.1
  ·rcases Yd.mp hy with h2|h2
   ·exact absurd (by rw[← h2,← e];exact B2 h1) h.1
   ·exact rM h.2 h1 h2 e
def ab (i:Int):Int:=if i<0 then -i else i
theorem nA (i:Int):0<=ab i:=by unfold ab;split<;>lia
def f9 (n b:Int):Int:=if n<0 then n-b else n+b
theorem ju {n b:Int} (hb:0<=b):ab (f9 n b)=ab n+b:=by
 unfold ab f9;by_cases h:n<0
 ·simp only[Af h];split<;>lia
 ·simp only[Ah h];split<;>lia
def fU (h last:Int) (blk:List Int) (n:Int):List Int :=
 if ab h<ab n then [f9 n last] else if n≠h then [n] else if 0<=h then blk.map (f9 · h) else blk.reverse.map fun p=>0-f9 p (0-h)
def kA (ns:List Int) (h last:Int) (blk:List Int):List Int:=ns.flatMap (fU h last blk)
structure Nm (c:Int) (ns:List Int):Prop where
 nd:(ns.map ab).Nodup
 le:∀n∈ns,ab n<=c
theorem w6 (x:Int):ab (0-x)=ab x:=by unfold ab;split<;>split<;>lia
theorem kO {h last c:Int} {blk:List Int} {n:Int} (B:Nm last blk) (hl:0<=last) (hn:n≠h->ab n≠ab h):((fU h last blk n).map ab).Nodup/\∀x∈fU h last blk n,(ab n<ab h/\ab x=ab n)∨(n=h/\ab h<=ab x/\ab x<=ab h+last)∨(ab h<ab n/\ab x=ab n+last):=by
 unfold fU;by_cases c1:ab h<ab n
 ·rw[Af c1];refine⟨by simp,fun x hx=>.inr (.inr ⟨c1,?_⟩)⟩
  rw[Qc.mp hx,ju hl]
 ·rw[Ah c1];by_cases c2:n≠h
  ·rw[Af c2];refine⟨by simp,fun x hx=>.inl ⟨?_,by rw[Qc.mp hx]⟩⟩
   have:=hn c2;lia
  ·rw[Ah c2];have e:n=h:=Classical.not_not.mp c2;subst e;by_cases c3:0<=n
   ·rw[Af c3];have e:ab n=n:=by unfold ab;rw[Ah (by lia)]
    have em:(blk.map (f9 · n)).map ab=(blk.map ab).map (·+n):=by
     rw[Xe,Xe];exact Zg fun p _=>ju c3
    refine⟨?_,fun x hx=>.inr (.inl ⟨rfl,?_⟩)⟩
    ·rw[em];exact rL (fun a b h=>by have h':a+n=b+n:=h;lia) B.nd
    ·obtain⟨p,hp,rfl⟩:=Yc.mp hx;have:=B.le p hp;have:=nA p;rw[ju c3,e];lia
   ·rw[Ah c3];have e:ab n=0-n:=by unfold ab;rw[Af (by lia)];lia
    have em:(blk.reverse.map fun p=>0-f9 p (0-n)).map ab=(blk.reverse.map ab).map (·+(0-n)):=by
     rw[Xe,Xe];exact Zg fun p _=>by
      show ab (0-f9 p (0-n))=ab p+(0-n);rw[w6,ju (by lia)]
    refine⟨?_,fun x hx=>.inr (.inl ⟨rfl,?_⟩)⟩
    ·rw[em];refine rL (fun a b h=>by have h':a+(0-n)=b+(0-n):=h;lia) ?_
     rw[List.map_reverse];exact List.pairwise_reverse.mpr (List.Pairwise.imp (fun h=>AF h) B.nd)
    ·obtain⟨p,hp,rfl⟩:=Yc.mp hx;have:=B.le p (List.mem_reverse.mp hp);have:=nA p;rw[w6,ju (by lia),e];lia
theorem tf {α β:Type} {f:α->List β} {g:β->Int}:∀{l:List α},(∀x∈l,((f x).map g).Nodup)->l.Pairwise (fun x y=>∀a∈f x,∀b∈f y,g a≠g b)->((l.flatMap f).map g).Nodup
 | [],_,_=>by simp
 | x::r,h1,h2=>by
  rw[Qg,Yf];rw[Wj]at h2;refine Zm.mpr ⟨h1 x Xb,tf (fun y hy=>h1 y (Vb _ hy)) h2.2,fun a ha b hb=>?_⟩;obtain⟨a',ha',rfl⟩:=Yc.mp ha;obtain⟨b',hb',rfl⟩:=Yc.mp hb;obtain⟨y,hy,hb2⟩:=List.mem_flatMap.mp hb';exact h2.1 y hy a' ha' b' hb2
theorem Fk {ns blk:List Int} {h last c:Int} (N:Nm c ns) (B:Nm last blk) (hl:0<=last) (hh:h∈ns):Nm (c+last) (kA ns h last blk):=by
 have ne:∀n∈ns,n≠h->ab n≠ab h:=fun n hn z e=>by
  exact z (rM N.nd hn hh e)
 refine⟨tf (fun n hn=>(kO (c:=c) B hl (ne n hn)).1) ?_,fun x hx=>?_⟩
 ·have:=N.nd;rw[List.Nodup,Vh]at this;refine BB (fun {a b} ha hb hab x hx y hy=>?_) this;have p:=(kO (c:=c) B hl (ne a ha)).2 x hx;have q:=(kO (c:=c) B hl (ne b hb)).2 y hy;intro e;rcases p with⟨p1,p2⟩|⟨p1,p2,p3⟩|⟨p1,p2⟩<;>rcases q with⟨q1,q2⟩|⟨q1,q2,q3⟩|⟨q1,q2⟩<;>first|lia|(subst p1;first|(subst q1;exact hab rfl)|lia)|(subst q1;lia)
 ·obtain⟨n,hn,hx⟩:=List.mem_flatMap.mp hx;have:=N.le n hn;have:=N.le h hh;rcases(kO (c:=c) B hl (ne n hn)).2 x hx with⟨p1,p2⟩|⟨p1,p2,p3⟩|⟨p1,p2⟩<;>lia
theorem mq {h last:Int} {blk:List Int} {n:Int}:(fU h last blk n).length=if n=h then blk.length else 1:=by
 unfold fU;by_cases c1:ab h<ab n
 ·rw[Af c1,Ah (fun z=>by rw[z]at c1;lia)];rfl
 ·rw[Ah c1];by_cases c2:n≠h
  ·rw[Af c2,Ah c2];rfl
  ·rw[Ah c2,Af (Classical.not_not.mp c2)];split<;>simp
theorem qq {ns blk:List Int} {h last:Int} (nd:ns.Nodup) (hh:h∈ns):(kA ns h last blk).length+1=ns.length+blk.length:=by
 unfold kA;induction ns with
 | nil=>cases hh
 | cons n r ih =>
  rw[Qg,Yb,mq];rw[Xi]at nd;have all1:∀l:List Int,h∉l->(l.flatMap (fU h last blk)).length=l.length:=fun l=>by
   induction l with
   | nil=>intro _;rfl
   | cons a l ihl =>
    intro ha;rw[Qg,Yb,mq,Ah (fun z=>ha (by rw[z];exact Xb)),ihl (fun z=>ha (Vb _ z)),Ye];lia
  by_cases e:n=h
  ·subst e;rw[Af rfl,all1 r nd.1,Ye];lia
  ·rw[Ah e];have hr:h∈r:=by
    rcases Yd.mp hh with z|z
    ·exact absurd z.symm e
    ·exact z
   have:=ih nd.2 hr;rw[Ye];lia
abbrev IL (xs:List Int):D:=.lst (xs.map D.int)
theorem iQ (n b:Int):cc [.int n,.int b]=some (.int (f9 n b),false):=by
 unfold f9;by_cases c:n<0
 ·rw[Af c];exact bF (o:=.rt (.d (.int (n-b))) [.v (.int n),.v (.int b)]) rfl (n9 (gt (kz (b:=decide (n<0)) (s:=[.v (.int n),.v (.int b)]) rfl (Ag c)) rfl)) rfl
 ·rw[Ah c];exact bF (o:=.rt (.d (.int (n+b))) [.v (.int n),.v (.int b)]) rfl (aB (fk (kz (b:=decide (n<0)) (s:=[.v (.int n),.v (.int b)]) rfl (Ae c)) rfl) rfl) rfl
theorem gG (i:Int):b1 pL [.int i]=some (.int (ab i),false):=rfl
theorem z7 {i j:Int}:bGt (.int i) (.int j)=some (.bl (decide (j<i)),false):=rfl
theorem cU {i:Nat} {d:D} {st st':En} {t:Sl} (h:st[i]?=some t) (hs:t.isIo=false) (h2:st.set i (.v d)=st':=by rfl):gN i d st=some st':=by
 simp only[gN,lp,h,Qa,hs,Ze,if_false,h2]
theorem w9 {ns b0 acc:List Int} {at_ h last n:Int} (hz:acc.length+(b0.length+1)<=100000) :
  dS [.v (IL ns),.v (.int at_),.v (IL (b0++[last])),.v (.int h),.o (IL acc),.v (.int n)]=some (.nx [.v (IL ns),.v (.int at_),.v (IL (b0++[last])),.v (.int h),.o (IL (acc++fU h last (b0++[last]) n)),.v (.int n)]):=by
 unfold fU;have hl:(acc.map D.int).length<1000000:=by rw[Ya];lia
 have lb:bIx (IL (b0++[last])) (.int (-1))=some (.int last,false):=by
  rw[show IL (b0++[last])=.lst (b0.map D.int++[.int last]) by simp[IL]];exact yX
 by_cases c1:ab h<ab n
 ·rw[Af c1];refine gt (aP (ao (bD rfl rfl (gG n)) (bD rfl rfl (gG h)) rfl rfl z7) (c:=true) (by show some (decide (ab h<ab n))=_;rw[Ag c1])) ?_
  refine et (oe rfl rfl rfl (ay (cQ (ay rfl (ay (ao rfl rfl rfl rfl lb) rfl)) rfl (iQ n last) rfl) rfl) rfl rfl rfl (jR hl) (by show [_,_,_,_,Sl.o _,_]=[_,_,_,_,Sl.o _,_];simp))
 ·rw[Ah c1];refine fk (aP (ao (bD rfl rfl (gG n)) (bD rfl rfl (gG h)) rfl rfl z7) (c:=false) (by show some (decide (ab h<ab n))=_;rw[Ae c1])) ?_
  by_cases c2:n≠h
  ·rw[Af c2];refine gt (aP (ao rfl rfl rfl rfl wZ) (c:=true) (by show some (!decide (n=h))=_;rw[Ae c2];rfl)) ?_
   exact et (oe rfl rfl rfl rfl rfl rfl rfl (jR hl) (by show [_,_,_,_,Sl.o _,_]=[_,_,_,_,Sl.o _,_];simp))
  ·rw[Ah c2];have e:n=h:=Classical.not_not.mp c2;refine fk (aP (ao rfl rfl rfl rfl wZ) (c:=false) (by show some (!decide (n=h))=_;rw[Ag e];rfl)) ?_
   have hc:∀l:List Int,l.length=b0.length+1->(true&&decide ((l.map D.int).length<=1000000))=true:=fun l e=>by rw[Ya,Ag (by lia)];rfl
   by_cases c3:0<=h
   ·rw[Af c3];refine gt (kz (b:=decide (0<=h)) (s:=[.v (IL ns),.v (.int at_),.v (IL (b0++[last])),.v (.int h),.o (IL acc),.v (.int n)]) rfl (Ag c3)) ?_;have cl:=ck (fg:=gN 0) (fc:=gp) (fe:=gA) (k:=1) D.int (fun p=>D.int (f9 p h)) [.e,.v (.int h)] (b0++[last]) fun p _=>⟨[.v (.int p),.v (.int h)],[.v (.int p),.v (.int h)],.d (.int (f9 p h)),[.v (.int p),.v (.int h)],[.v (.int p),.v (.int h)],rfl,rfl,cQ rfl rfl (iQ p h) rfl,rfl,rfl⟩;refine et (oe rfl rfl rfl (ay (cN (fY rfl rfl) (hc _ (by simp)) cl) rfl) rfl rfl rfl (sD (by rw[Ya,Ya,Yb,Xf];lia)) (by show [_,_,_,_,Sl.o _,_]=[_,_,_,_,Sl.o _,_];simp))
   ·rw[Ah c3];refine fk (kz (b:=decide (0<=h)) (s:=[.v (IL ns),.v (.int at_),.v (IL (b0++[last])),.v (.int h),.o (IL acc),.v (.int n)]) rfl (Ae c3)) ?_;have cl:=ck (fg:=gN 0) (fc:=gp) (fe:=gB) (k:=1) D.int (fun p=>D.int (0-f9 p (0-h))) [.e,.v (.int h)] (b0++[last]).reverse fun p _=>⟨[.v (.int p),.v (.int h)],[.v (.int p),.v (.int h)],.d (.int (0-f9 p (0-h))),[.v (.int p),.v (.int h)],[.v (.int p),.v (.int h)],rfl,rfl,ao rfl (cQ rfl rfl (iQ p (0-h)) rfl) rfl rfl rfl,rfl,rfl⟩;refine et (oe rfl rfl rfl (ay (cN (Fj rfl rfl) (by rw[Be];exact hc (b0++[last]) (by simp)) (by rw[← List.map_reverse];exact cl)) rfl) rfl rfl rfl (sD (by rw[Ya,Ya,Be,Yb,Xf];lia)) (by show [_,_,_,_,Sl.o _,_]=[_,_,_,_,Sl.o _,_];simp))
theorem qt {α β:Type} (l:List α) (g:α->List β) (n:Nat) (h:∀x∈l,(g x).length<=n):(l.flatMap g).length<=l.length*n:=by
 induction l with
 | nil=>simp
 | cons x r ih =>
  rw[Qg,Yb,Ye,Nat.succ_mul];have h1:=h x Xb;have h2:=ih fun y hy=>h y (Vb _ hy);lia
theorem uM {ns b0:List Int} {i:Nat} {h last:Int} (hi:ns[i]?=some h) (hz:ns.length*(b0.length+1)<=10000):dD [IL ns,.int i,IL (b0++[last])]=some (IL (kA ns h last (b0++[last])),true):=by
 have lenO:∀n,(fU h last (b0++[last]) n).length<=b0.length+1:=fun n=>by rw[mq];split<;>simp
 have n1:1<=ns.length:=by have:=(Xa.mp hi).1;lia
 have b1:b0.length+1<=10000:=by
  have:=Nat.mul_le_mul_right (b0.length+1) n1;lia
 have tot:=qt ns (fun n=>(fU h last (b0++[last]) n).map D.int) (b0.length+1) fun n _=>by rw[Ya];exact lenO n
 have st0:([]:List D).length+(ns.flatMap fun n=>(fU h last (b0++[last]) n).map D.int).length<=10000:=by rw[Wi];lia
 obtain⟨sf,e1,s5,rfl,_⟩:=pO (f:=D.int) (g:=fun n=>(fU h last (b0++[last]) n).map D.int) (B:=dS) (fg:=gN 5) (fun acc st=>∃s5,st=[.v (IL ns),.v (.int i),.v (IL (b0++[last])),.v (.int h),.o (.lst acc),s5]/\s5.isIo=false/\∃as:List Int,acc=as.map D.int) ns 10000 (by
   rintro acc n st hn hb ⟨s5,rfl,hs,as,rfl⟩;rw[Ya]at hb
   exact⟨[.v (IL ns),.v (.int i),.v (IL (b0++[last])),.v (.int h),.o (IL as),.v (.int n)],_,cU (t:=s5) rfl hs,w9 (by lia),⟨.v (.int n),by rw[← Yf],rfl,_,Yf.symm⟩⟩) ns [] [.v (IL ns),.v (.int i),.v (IL (b0++[last])),.v (.int h),.o (.lst []),.e] (fun _ h=>h) st0 ⟨.e,rfl,rfl,[],rfl⟩
 have ef:(ns.flatMap fun n=>(fU h last (b0++[last]) n).map D.int)=(kA ns h last (b0++[last])).map D.int:=by
  unfold kA;rw[List.map_flatMap]
 rw[BS,ef]at e1;have hd:(ns.map D.int)[i]?=some (.int h):=by rw[Qb,hi];rfl
 refine bF (o:=.rt (.s 4) [.v (IL ns),.v (.int i),.v (IL (b0++[last])),.v (.int h),.o (IL (kA ns h last (b0++[last]))),s5]) rfl ?_ rfl;refine aB (s:=[.v (IL ns),.v (.int i),.v (IL (b0++[last])),.v (.int h),.e,.e]) (fm (ao rfl rfl rfl rfl (iO hd)) rfl) ?_;refine aB (s:=[.v (IL ns),.v (.int i),.v (IL (b0++[last])),.v (.int h),.o (.lst []),.e]) rfl ?_;exact aB (cj (fY rfl rfl) e1) rfl
end K42
namespace VF
open PySem L2
theorem gR {i:Nat} {s t:Sl} {st s1:En} (h:st[i]?=some t) (n:t.isIo=false) (e:st.set i s=s1:=by rfl):lp i s st=some s1:=by
 unfold lp;rw[h];show(if t.isIo=true then none else some (st.set i s))=_;rw[Ah (by rw[n];decide),e]
theorem nB {α:Type} (f:α->D):∀(xs:List α) (i:Nat),(xs.map f).eraseIdx i=(xs.eraseIdx i).map f
 | [],_=>by simp
 | x::xs,0=>by simp
 | x::xs,i+1=>by simp[nB f xs i]
theorem xc {xs:List D} {i:Int} (h0:0<=i) (h1:i<xs.length) (h2:xs.length<=1000000) (hk:i.toNat<xs.length):n8 (.lst xs) [.int i]=some (xs[i.toNat],.lst (xs.eraseIdx i.toNat)):=by
 show(if -(2 ^ 63)<=i/\i<2 ^ 63 then(seqIndex? i xs.length).bind fun k=>(xs[k]?).bind fun y=>some (y,D.lst (xs.eraseIdx k)) else none)=_;rw[Af ⟨by lia,by lia⟩,PySem.seqIndex_of h0 h1]
 show(xs[i.toNat]?).bind (fun y=>some (y,D.lst (xs.eraseIdx i.toNat)))=_;rw[Za hk];rfl
theorem yZ {α:Type} {f:α->D} {xs:List α} {i:Nat} {x:α} (h:xs[i]?=some x) (hl:xs.length<=1000):n8 (.lst (xs.map f)) [.int (i:Int)]=some (f x,.lst ((xs.eraseIdx i).map f)):=by
 have hi:=(Xa.mp h).1;have:=xc (xs:=xs.map f) (i:=(i:Int)) (by lia) (by rw[Ya];lia) (by rw[Ya];lia) (by rw[Ya];lia)
 have e1:((i:Int)).toNat=i:=by lia
 have e2:(xs.map f)[((i:Int)).toNat]?=some (f x):=by rw[e1,Qb,h];rfl
 obtain⟨_,e3⟩:=Xa.mp e2;rw[this,e3,e1,nB]
theorem tj {a b:List D} (h:a.length+b.length<=1000000):bK (.lst a) (.lst b)=some (.lst (a++b),true):=by
 have e1:vD (.lst a) (.lst b)=none:=rfl;have e2:vH (.lst a) (.lst b)=none:=rfl;have e3:yn (.lst a) (.lst b)=some (.lst (a++b),true):=by simp only[yn];rw[Af h]
 unfold bK orD;rw[e1,e2,e3]
end VF
namespace K42
open PySem L2 VF VF22
def ups (m:Nat):List Int:=(List.range m).map fun t=>((t+1:Nat):Int)
theorem Fm (m:Nat):(ups m).Nodup:=rL (fun a b h=>by have h':((a+1:Nat):Int)=((b+1:Nat):Int):=h;lia) BF
theorem kP {m:Nat} {x:Int} (h:x∈ups m):1<=x/\x<=m:=by
 obtain⟨t,ht,rfl⟩:=Yc.mp h;have:=Vd.mp ht;lia
theorem y7 (m:Nat):rng 1 m=(ups m).map D.int:=by
 unfold rng ups;rw[Xe];exact Zg fun t _=>by show D.int (1+(t:Int))=D.int ((t+1:Nat):Int);congr 1;lia
theorem rN {l:List Int} {i:Nat} {x:Int} (h:l[i]?=some x):l.Perm (x::l.eraseIdx i):=by
 have hi:i<l.length:=(Xa.mp h).1;have ex:l[i]=x:=(Xa.mp h).2;rw[List.eraseIdx_eq_take_drop_succ];have:l=l.take i++x::l.drop (i+1):=by
  rw[← ex,← Zj hi,Zi]
 exact(List.Perm.of_eq this).trans Cw
structure Blk (most:Int) (b:List Int):Prop where
 mid:∃(mid:List Int) (m:Nat),b=(0::mid)++[((m+1:Nat):Int)]/\(mid.map ab).Perm (ups m)/\1<=m/\(m:Int)<=most
theorem rO {δ:D} {most:Int} {m:Nat} {left mid:List Int} {sg k:Int} (hδ:iP δ) (hl:left≠[]) (hl2:left.length<=100) (hm:mid.length<=100) (hs:sg=1∨sg=-1) (pos:∀y∈left,0<=y) :
  ∃δ' y z left',eN [.io δ,.v (.int most),.v (.int m),.o (IL left),.o (IL [1,sg]),.o (IL (0::mid)),.v (.int k)]=some (.nx [.io δ',.v (.int most),.v (.int m),.o (IL left'),.o (IL [1,sg]),.o (IL (0::(mid++[z]))),.v (.int k)])/\iP δ'/\left.Perm (y::left')/\ab z=y:=by
 have hp:0<left.length:=Zl.mpr hl;obtain⟨d1,δ1,e1,d10,d11,f1⟩:=dE (n:=(left.length:Int)) hδ (by lia) (by lia)
 obtain⟨d2,δ2,e2,d20,d21,f2⟩:=dE (n:=2) f1 (by decide) (by decide)
 obtain⟨i,rfl⟩:=Ym d10;have hi:i<left.length:=by lia
 have hx:left[i]?=some left[i]:=Za hi;have hy:=pos left[i] (Qh hi);obtain⟨s,es,hs'⟩:∃s,bIx (IL [1,sg]) (.int d2)=some (.int s,false)/\(s=1∨s=-1):=by
  have:d2=0∨d2=1:=by lia
  rcases this with rfl|rfl
  ·exact⟨1,rfl,.inl rfl⟩
  ·exact⟨sg,rfl,hs⟩
 refine⟨δ2,left[i],left[i]*s,left.eraseIdx i,?_,f2,rN hx,?_⟩
 ·have ln:cu [IL left]=some (.int left.length,false):=by
   show some (D.int ((left.map D.int).length:Nat),false)=_;rw[Ya]
  refine et (oe rfl rfl rfl (ay (ao (r1:=.d (.int left[i])) (oe rfl rfl rfl (ay (fq rfl rfl (ay (bD rfl rfl ln) rfl) rfl rfl rfl e1) rfl) rfl rfl rfl (yZ hx (by lia))) (ao rfl (fq rfl rfl rfl rfl rfl rfl e2) rfl rfl es) rfl rfl (dY (.inr ?_))) rfl) rfl rfl rfl (jR ?_) ?_)
  ·rcases hs' with rfl|rfl<;>decide
  ·simp only[Ya,Ye];lia
  ·show [_,_,_,_,_,Sl.o _,_]=[_,_,_,_,_,Sl.o _,_];simp[Sl.put]
 ·rcases hs' with rfl|rfl
  ·rw[Int.mul_one];unfold ab;rw[Ah (by lia)]
  ·unfold ab;split<;>lia
theorem qv {δ:D} {most:Int} (hδ:iP δ) (h0:1<=most) (h1:most<=90):∃b δ',cT δ [.int most]=some ((IL b,true),δ')/\Blk most b/\iP δ':=by
 obtain⟨d1,δ1,e1,d10,d11,f1⟩:=dE (n:=most) hδ (by lia) (by lia)
 obtain⟨d2,δ2,e2,d20,d21,f2⟩:=dE (n:=3) f1 (by decide) (by decide)
 obtain⟨c,rfl⟩:=Ym d10;have hm:(1:Int)+(c:Int)=((c+1:Nat):Int):=by lia
 obtain⟨sg,esg,hsg⟩:∃sg:Int,(1:Int)-2*(if decide (d2=0)=true then 1 else 0)=sg/\(sg=1∨sg=-1):=by
  by_cases q:d2=0
  ·exact⟨-1,by simp[q],.inr rfl⟩
  ·exact⟨1,by simp[q],.inl rfl⟩
 obtain⟨sf,el,δ3,left,mid,s6,rfl,f3,pm,ln,_⟩:=br (fg:=gN 6) (B:=eN) (fun t:Nat=>D.int (0+(t:Int))) (List.range (c+1)) (fun gone st=>∃δ' left mid s6,st=[.io δ',.v (.int most),.v (.int ((c+1:Nat):Int)),.o (IL left),.o (IL [1,sg]),.o (IL (0::mid)),s6]/\iP δ'/\(left++mid.map ab).Perm (ups (c+1))/\mid.length=gone.length/\s6.isIo=false)
  (by
   rintro gone t rest st ha ⟨δ',left,mid,s6,rfl,hf,pm,hl,h6⟩;have tl:gone.length+rest.length+1=c+1:=by
    have:=congrArg List.length ha;rw[Zc,Yb,Ye]at this;lia
   have ll:left.length+mid.length=c+1:=by
    have:=pm.length_eq;rw[Yb,Ya]at this;rw[this];unfold ups;rw[Ya,Zc]
   obtain⟨δ4,y,z,left',eb,f4,py,hz⟩:=rO (δ:=δ') (most:=most) (m:=c+1) (left:=left) (mid:=mid) (sg:=sg) (k:=0+(t:Int)) hf (fun z=>by rw[z,Wi]at ll;lia) (by lia) (by lia) hsg (fun y hy=>by
    have:=kP (pm.mem_iff.mp (Bb _ hy));lia)
   refine⟨_,_,cU (t:=s6) rfl h6,eb,δ4,left',mid++[z],.v (.int (0+(t:Int))),rfl,f4,?_,by simp[hl],rfl⟩
   refine List.Perm.trans ?_ pm;rw[Yf,Ca,hz,← Ve];refine List.perm_append_comm.trans ?_
   exact(List.Perm.append_right (mid.map ab) py).symm)
  (List.range (c+1)) [] [.io δ2,.v (.int most),.v (.int ((c+1:Nat):Int)),.o (IL (ups (c+1))),.o (IL [1,sg]),.o (IL [0]),.e] rfl ⟨δ2,ups (c+1),[],.e,rfl,f2,by simp,rfl,rfl⟩
 rw[Zc]at ln;have ll:left=[]:=by
  have:=pm.length_eq;rw[Yb,Ya,ln]at this;unfold ups at this;rw[Ya,Zc]at this;exact Yk (by lia)
 subst ll;rw[BS]at pm;refine⟨(0::mid)++[((c+1+1:Nat):Int)],δ3,?_,⟨mid,c+1,rfl,pm,by lia,by lia⟩,f3⟩
 refine gK (o:=.rt (.f (IL ((0::mid)++[((c+1+1:Nat):Int)]))) [.io δ3,.v (.int most),.v (.int ((c+1:Nat):Int)),.o (IL []),.o (IL [1,sg]),.o (IL (0::mid)),s6]) rfl ?_ rfl;refine aB (s:=[.io δ1,.v (.int most),.v (.int ((c+1:Nat):Int)),.e,.e,.e,.e]) (fm (ao rfl (fq rfl rfl rfl rfl rfl rfl e1) rfl rfl (z:=(.int ((c+1:Nat):Int),false)) (by show some (D.int (1+(c:Int)),false)=_;rw[hm])) rfl) ?_
 refine aB (s:=[.io δ1,.v (.int most),.v (.int ((c+1:Nat):Int)),.o (IL (ups (c+1))),.e,.e,.e]) (gu (x:=IL (ups (c+1))) (s:=[.io δ1,.v (.int most),.v (.int ((c+1:Nat):Int)),.e,.e,.e,.e]) ?_ rfl) ?_
 ·have r:=rK (fa:=ad (fC (.int 1)) (ad (fOp bK (aJ 2) (fC (.int 1))) aq)) (st:=[.io δ1,.v (.int most),.v (.int ((c+1:Nat):Int)),.e,.e,.e,.e]) rfl rfl (i:=1) (j:=((c+1:Nat):Int)+1) ⟨by lia,by lia,by lia,by lia,by lia⟩
  have e:(((c+1:Nat):Int)+1-1).toNat=c+1:=by lia
  rw[e,y7]at r;exact r
 refine aB (s:=[.io δ2,.v (.int most),.v (.int ((c+1:Nat):Int)),.o (IL (ups (c+1))),.o (IL [1,sg]),.e,.e]) (gu (x:=IL [1,sg]) (jQ (ay rfl (ay (ao rfl (ao rfl (bD (ay (ao (fq rfl rfl rfl rfl rfl rfl e2) rfl rfl rfl oK) rfl) rfl (z:=(.int (if decide (d2=0)=true then 1 else 0),false)) rfl) rfl rfl (dY (.inl ⟨by decide,by decide⟩))) rfl rfl (z:=(.int sg,false)) (by rw[← esg];rfl)) rfl)) rfl (by simp)) rfl) ?_
 refine aB (s:=[.io δ2,.v (.int most),.v (.int ((c+1:Nat):Int)),.o (IL (ups (c+1))),.o (IL [1,sg]),.o (IL [0]),.e]) rfl ?_;refine aB (cj (gL (j:=((c+1:Nat):Int)) rfl rfl ⟨by lia,by lia⟩) el) ?_
 exact dM (ao rfl rfl rfl rfl (z:=(IL ((0::mid)++[((c+1+1:Nat):Int)]),true)) (by
  have:=tj (a:=(0::mid).map D.int) (b:=[D.int (((c+1:Nat):Int)+1)]) (by simp only[Ya,Ye,Wi];lia)
  refine this.trans ?_
  rw[IL,Yf];rfl))
theorem xg {most:Int} {b:List Int} (B:Blk most b):∃b0 last,b=b0++[last]/\Nm last b/\2<=last/\last<=most+1/\(b0.length:Int)=last/\∃r,b0=0::r:=by
 obtain⟨mid,m,rfl,pm,h1,h2⟩:=B;have lm:mid.length=m:=by
  have:=pm.length_eq;rw[Ya]at this;rw[this];unfold ups;rw[Ya,Zc]
 have e:(((0::mid)++[((m+1:Nat):Int)]).map ab)=0::(mid.map ab++[((m+1:Nat):Int)]):=by
  rw[Yf,Wd,Ca];have a1:ab 0=0:=rfl;have a2:ab ((m+1:Nat):Int)=((m+1:Nat):Int):=by unfold ab;rw[Ah (by lia)]
  rw[a1,a2];rfl
 refine⟨0::mid,_,rfl,⟨?_,fun n hn=>?_⟩,by lia,by lia,by rw[Ye,lm],_,rfl⟩
 ·rw[e];have pn:(mid.map ab).Nodup:=pm.nodup_iff.mpr (Fm m);rw[Xi];refine⟨fun z=>?_,Zm.mpr ⟨pn,by simp,fun a ha b hb=>?_⟩⟩
  ·rcases Zf.mp z with z|z
   ·have:=kP (pm.mem_iff.mp z);lia
   ·have:=Qc.mp z;lia
  ·have:=kP (pm.mem_iff.mp ha);rw[Qc.mp hb];lia
 ·have hm:ab n∈((0::mid)++[((m+1:Nat):Int)]).map ab:=B2 hn;rw[e]at hm;rcases Yd.mp hm with z|z
  ·lia
  ·rcases Zf.mp z with z|z
   ·have:=kP (pm.mem_iff.mp z);lia
   ·have:=Qc.mp z;lia
theorem dZ (ns:List Int):cu [IL ns]=some (.int ns.length,false):=by
 show some (D.int ((ns.map D.int).length:Nat),false)=_;rw[Ya]
structure Ln (ns:List Int):Prop where
 nm:Nm ((ns.length:Int)-1) ns
 hd:∃r,ns=0::r
 la:∃r,ns=r++[(ns.length:Int)-1]
 two:2<=ns.length
theorem Fn {b0:List Int} {last:Int} (B:Nm last (b0++[last])) (hl:2<=last) (ln:(b0.length:Int)=last) (h0:∃r,b0=0::r):Ln (b0++[last]):=by
 have e:((b0++[last]).length:Int)-1=last:=by rw[Yb,Xf];lia
 refine⟨by rw[e];exact B,?_,⟨b0,by rw[e]⟩,by lia⟩
 obtain⟨r,rfl⟩:=h0;exact⟨r++[last],rfl⟩
theorem Fo {ns b0:List Int} {h last:Int} (L:Ln ns) (B:Nm last (b0++[last])) (hl:2<=last) (ln:(b0.length:Int)=last) (h0:∃r,b0=0::r) (hh:h∈ns):Ln (kA ns h last (b0++[last])):=by
 have hpl:=qq (blk:=b0++[last]) (last:=last) (z0 L.nm.nd) hh;have lb:(((b0++[last]).length:Nat):Int)=last+1:=by rw[Yb,Xf];lia
 have e:((kA ns h last (b0++[last])).length:Int)-1=(ns.length:Int)-1+last:=by lia
 have two:=L.two;refine⟨by rw[e];exact Fk L.nm B (by lia) hh,?_,?_,by lia⟩
 ·obtain⟨r,er⟩:=L.hd;rw[er];unfold kA;rw[Qg];unfold fU;have a0:ab 0=0:=rfl;rw[a0,Ah (by have:=nA h;lia)]
  by_cases c:(0:Int)≠h
  ·rw[Af c];exact⟨_,rfl⟩
  ·rw[Ah c];have:h=0:=by lia
   subst this;rw[Af (by decide)]
   obtain⟨r,rfl⟩:=h0;exact⟨_,rfl⟩
 ·rw[e];obtain⟨r,er⟩:=L.la;have hm:(ns.length:Int)-1∈ns:=by
   have:(ns.length:Int)-1∈r++[(ns.length:Int)-1]:=by simp
   rwa [← er]at this
  have hle:=L.nm.le h hh;generalize (ns.length:Int)-1=m at *;have m1:1<=m:=by lia
  have am:ab m=m:=by unfold ab;rw[Ah (by lia)]
  rw[er];unfold kA;rw[Bg,AY];by_cases c:ab h<ab m
  ·have:fU h last (b0++[last]) m=[m+last]:=by unfold fU;rw[Af c];unfold f9;rw[Ah (by lia)]
   rw[this];exact⟨_,rfl⟩
  ·have hm2:m=h:=rM L.nm.nd hm hh (by lia)
   subst hm2;have:fU m last (b0++[last]) m=b0.map (f9 · m)++[m+last]:=by
    unfold fU;rw[Ah c,Ah (by simp),Af (by lia),Yf]
    congr 1;show [f9 last m]=_;unfold f9;rw[Ah (by lia)];congr 1;lia
   rw[this,← Ve];exact⟨_,rfl⟩
theorem xh {δ:D} {most:Int} {ns:List Int} {k:Int} {s4 s5 s6:Sl} (hδ:iP δ) (h0:5<=most) (h1:most<=40) (N:Ln ns) (l1:(ns.length:Int)<=most+2) (i4:s4.isIo=false) (i5:s5.isIo=false) (i6:s6.isIo=false) :
  ∃δ' ns' t4 t5 t6,de [.io δ,.v (.int most),.o (IL ns),.v (.int k),s4,s5,s6]=some (.nx [.io δ',.v (.int most),.o (IL ns'),.v (.int k),t4,t5,t6])/\iP δ'/\Ln ns'/\(ns'.length:Int)<=most+2/\t4.isIo=false/\t5.isIo=false/\t6.isIo=false:=by
 obtain⟨d1,δ1,e1,d10,d11,f1⟩:=dE (n:=3) hδ (by decide) (by decide)
 obtain⟨v,ev,v0,v1⟩:∃v,bIx (.lst [.int 2,.int 4,.int most]) (.int d1)=some (.int v,false)/\1<=v/\v<=most:=by
  have:d1=0∨d1=1∨d1=2:=by lia
  rcases this with rfl|rfl|rfl
  ·exact⟨2,rfl,by lia,by lia⟩
  ·exact⟨4,rfl,by lia,by lia⟩
  ·exact⟨most,rfl,by lia,by lia⟩
 obtain⟨b,δ2,e2,B,f2⟩:=qv (most:=v) f1 v0 (by lia)
 obtain⟨b0,last,rfl,Bn,hl2,hl3,hl4,hl5⟩:=xg B;have l0:=N.two;obtain⟨d3,δ3,e3,d30,d31,f3⟩:=dE (n:=(ns.length:Int)) f2 (by lia) (by lia)
 obtain⟨i,rfl⟩:=Ym d30;have hi:i<ns.length:=by lia
 have hx:ns[i]?=some ns[i]:=Za hi;have hmem:ns[i]∈ns:=Qh hi;have main:∀st4:En,st4=[.io δ3,.v (.int most),.o (IL ns),.v (.int k),.v (.int (most+2-ns.length)),.o (IL (b0++[last])),.v (.int (i:Int))]->∃ns' t5,(sIf (aT (fOp bLe (fOp fj (fCB cu (ad (aJ 5) aq)) (fC (.int 1))) (aJ 4))) (bC (dr dD (ad (aJ 2) (ad (aJ 6) (ad (aJ 5) aq)))) 2) b9) st4=some (.nx [.io δ3,.v (.int most),.o (IL ns'),.v (.int k),.v (.int (most+2-ns.length)),t5,.v (.int (i:Int))])/\Ln ns'/\(ns'.length:Int)<=most+2/\t5.isIo=false:=by
  rintro st4 rfl;have lb:(((b0++[last]).length:Nat):Int)=last+1:=by rw[Yb,Xf];lia
  by_cases q:((b0++[last]).length:Int)-1<=most+2-ns.length
  ·have hpl:=qq (blk:=b0++[last]) (last:=last) (z0 N.nm.nd) hmem;refine⟨kA ns ns[i] last (b0++[last]),.v (IL (b0++[last])),?_,Fo N Bn hl2 hl4 hl5 hmem,by lia,rfl⟩
   refine gt (aP (ao (ao (bD rfl rfl (dZ _)) rfl rfl rfl rfl) rfl rfl rfl rfl) (c:=true) (by show some (decide (((b0++[last]).length:Int)-1<=most+2-ns.length))=_;rw[Ag q])) ?_
   have hz:ns.length*(b0.length+1)<=10000:=by
    have h1:ns.length<=42:=by lia
    have h2:b0.length+1<=42:=by lia
    exact Qd (Wm h1 h2) (by decide)
   exact gu (cz rfl rfl (uM hx hz)) rfl
  ·refine⟨ns,.o (IL (b0++[last])),?_,N,l1,rfl⟩;exact fk (aP (ao (ao (bD rfl rfl (dZ _)) rfl rfl rfl rfl) rfl rfl rfl rfl) (c:=false) (by show some (decide (((b0++[last]).length:Int)-1<=most+2-ns.length))=_;rw[Ae q])) rfl
 obtain⟨ns',t5,em,m1,m3,m4⟩:=main _ rfl;refine⟨δ3,ns',.v (.int (most+2-ns.length)),t5,.v (.int (i:Int)),?_,f3,m1,m3,rfl,m4,rfl⟩;refine aB (s:=[.io δ,.v (.int most),.o (IL ns),.v (.int k),.v (.int (most+2-ns.length)),s5,s6]) (fm (x:=.int (most+2-ns.length)) (ao (ao rfl rfl rfl rfl rfl) (bD rfl rfl (dZ ns)) rfl rfl rfl) (gR (t:=s4) rfl i4)) ?_;refine aB (s:=[.io δ2,.v (.int most),.o (IL ns),.v (.int k),.v (.int (most+2-ns.length)),.o (IL (b0++[last])),s6]) (gu (fq rfl rfl (ay (ao (jQ rfl rfl (by simp)) (fq rfl rfl rfl rfl rfl rfl e1) rfl rfl ev) rfl) rfl rfl rfl e2) (gR (t:=s5) rfl i5)) ?_
 refine aB (s:=[.io δ3,.v (.int most),.o (IL ns),.v (.int k),.v (.int (most+2-ns.length)),.o (IL (b0++[last])),.v (.int (i:Int))]) (fm (x:=.int (i:Int)) (fq rfl rfl (ay (bD rfl rfl (dZ ns)) rfl) rfl rfl rfl e3) (gR (t:=s6) rfl i6)) ?_;exact em
theorem rP {δ:D} {most:Int} (hδ:iP δ) (h0:5<=most) (h1:most<=40):∃ns δ',eO δ [.int most]=some ((IL ns,true),δ')/\Ln ns/\ns.length<=42/\iP δ':=by
 obtain⟨d1,δ1,e1,d10,d11,f1⟩:=dE (n:=3) hδ (by decide) (by decide)
 obtain⟨ns0,δ2,eA,N0,l1,f2⟩:∃ns0 δ2,(sIf (aT (fOp bEq (fIO bw 0 (ad (fC (.int 3)) aq)) (fC (.int 0)))) (bC (fIO cT 0 (ad (fCB (b2 yx) (ad (aJ 1) (ad (fC (.int 6)) aq))) aq)) 2) b9) [.io δ,.v (.int most),.o (IL [0,1]),.e,.e,.e,.e]=some (.nx [.io δ2,.v (.int most),.o (IL ns0),.e,.e,.e,.e])/\Ln ns0/\(ns0.length:Int)<=most+2/\iP δ2:=by
  by_cases q:d1=0
  ·obtain⟨mn,emn,mn0,mn1⟩:∃mn:Int,(if (6:Int)<most then 6 else most)=mn/\1<=mn/\mn<=most:=by
    by_cases z:(6:Int)<most
    ·exact⟨6,Af z,by lia,by lia⟩
    ·exact⟨most,Ah z,by lia,by lia⟩
   obtain⟨b,δ2,e2,B,f2⟩:=qv (most:=mn) f1 mn0 (by lia)
   obtain⟨b0,last,rfl,Bn,hl2,hl3,hl4,hl5⟩:=xg B;refine⟨b0++[last],δ2,?_,Fn Bn hl2 hl4 hl5,by rw[Yb,Xf];lia,f2⟩
   refine gt (s:=[.io δ1,.v (.int most),.o (IL [0,1]),.e,.e,.e,.e]) (aP (ao (fq rfl rfl rfl rfl rfl rfl e1) rfl rfl rfl oK) (by show some (decide (d1=0))=_;rw[Ag q])) ?_
   exact gu (fq rfl rfl (ay (bD rfl rfl (z:=(.int mn,false)) (by rw[← emn];rfl)) rfl) rfl rfl rfl e2) rfl
  ·refine⟨[0,1],δ1,fk (s:=[.io δ1,.v (.int most),.o (IL [0,1]),.e,.e,.e,.e]) (aP (ao (fq rfl rfl rfl rfl rfl rfl e1) rfl rfl rfl oK) (by show some (decide (d1=0))=_;rw[Ae q])) rfl,⟨⟨by decide,fun n hn=>?_⟩,⟨[1],rfl⟩,⟨[0],rfl⟩,by decide⟩,by show((2:Nat):Int)<=_;lia,f1⟩
   rcases Yd.mp hn with rfl|hn
   ·decide
   ·rw[Qc.mp hn];decide
 obtain⟨d3,δ3,e3,d30,d31,f3⟩:=dE (n:=5) f2 (by decide) (by decide)
 obtain⟨r,rfl⟩:=Ym d30;obtain⟨sf,el,δ4,ns,s3,s4,s5,s6,rfl,f4,N4,l5,_⟩:=br (fg:=gN 3) (B:=de) (fun t:Nat=>D.int (0+(t:Int))) (List.range (r+1)) (fun gone st=>∃δ' ns s3 s4 s5 s6,st=[.io δ',.v (.int most),.o (IL ns),s3,s4,s5,s6]/\iP δ'/\Ln ns/\(ns.length:Int)<=most+2/\s3.isIo=false/\s4.isIo=false/\s5.isIo=false/\s6.isIo=false)
  (by
   rintro gone t rest st ha ⟨δ',ns,s3,s4,s5,s6,rfl,hf,N,k1,i3,i4,i5,i6⟩;obtain⟨δ5,ns',t4,t5,t6,eb,g1,g2,g4,g5,g6,g7⟩:=xh (k:=0+(t:Int)) hf h0 h1 N k1 i4 i5 i6
   exact⟨_,_,cU (t:=s3) rfl i3,eb,δ5,ns',.v (.int (0+(t:Int))),t4,t5,t6,rfl,g1,g2,g4,rfl,g5,g6,g7⟩)
  (List.range (r+1)) [] [.io δ3,.v (.int most),.o (IL ns0),.e,.e,.e,.e] rfl ⟨δ3,ns0,.e,.e,.e,.e,rfl,f3,N0,l1,rfl,rfl,rfl,rfl⟩
 refine⟨ns,δ4,?_,N4,by lia,f4⟩
 refine gK (o:=.rt (.s 2) [.io δ4,.v (.int most),.o (IL ns),s3,s4,s5,s6]) rfl ?_ rfl;refine aB (s:=[.io δ,.v (.int most),.o (IL [0,1]),.e,.e,.e,.e]) rfl ?_;refine aB eA ?_;have hr:(1:Int)+(r:Int)=((r+1:Nat):Int):=by lia
 refine aB (cj (ds:=(List.range (r+1)).map fun t:Nat=>D.int (0+(t:Int))) (s1:=[.io δ3,.v (.int most),.o (IL ns0),.e,.e,.e,.e]) ?_ el) rfl;have:=gL (fa:=ad (fOp bK (fC (.int 1)) (fIO bw 0 (ad (fC (.int 5)) aq))) aq) (st:=[.io δ2,.v (.int most),.o (IL ns0),.e,.e,.e,.e]) (j:=((r+1:Nat):Int)) (rs:=[.d (.int ((r+1:Nat):Int))]) (s1:=[.io δ3,.v (.int most),.o (IL ns0),.e,.e,.e,.e]) (ay (ao rfl (fq rfl rfl rfl rfl rfl rfl e3) rfl rfl (z:=(.int ((r+1:Nat):Int),false)) (by rw[← hr];rfl)) rfl) rfl ⟨by lia,by lia⟩
 exact this
def av (ns:List Int) (i:Nat):Int:=ns.getD i 0
theorem qw {ns:List Int} {i:Nat} (h:i<ns.length):(ns.map D.int)[i]?=some (.int (av ns i)):=by
 rw[Qb,Za h];unfold av;rw[Xc,Za h];rfl
def mn (i j:Int):Int:=if j<i then j else i
def mx (i j:Int):Int:=if j > i then j else i
def lo (ns:List Int) (s:Nat):Nat->Int
 | 0=>ab (av ns s)
 | k+1=>mn (lo ns s k) (ab (av ns (s+1+k)))
def hi (ns:List Int) (s:Nat):Nat->Int
 | 0=>ab (av ns s)
 | k+1=>mx (hi ns s k) (ab (av ns (s+1+k)))
def gH (a b l h:Int):Bool:=decide ((a=l/\b=h)∨(a=-h/\b=-l))
def spK (ns:List Int) (s k:Nat):Bool:=decide (hi ns s k-lo ns s k=(k:Int))&&gH (av ns s) (av ns (s+k)) (lo ns s k) (hi ns s k)
def spB (ns:List Int) (s e:Nat):Bool:=spK ns s (e-s)
def dA (ns:List Int) (s n:Nat):List (Nat×Nat):=(((List.range n).map fun t=>s+1+t).filter (spB ns s)).map fun e=>(s,e)
def frm (ns:List Int) (s:Nat):List (Nat×Nat):=dA ns s (ns.length-(s+1))
def Sp (ns:List Int) (n:Nat):List (Nat×Nat):=(List.range n).flatMap (frm ns)
def S (ns:List Int):List (Nat×Nat):=Sp ns ns.length
def prD (p:Nat×Nat):D:=.tup [.int p.1,.int p.2]
abbrev PL (l:List (Nat×Nat)):D:=.lst (l.map prD)
def DT (l:List (Nat×Nat)):D:=.dt (l.map fun p=>([.inl (p.1:Int),.inl (p.2:Int)],.bl true))
theorem iR (ns:List Int) (s n:Nat):dA ns s (n+1)=dA ns s n++(if spB ns s (s+1+n)=true then [(s,s+1+n)] else []):=by
 unfold dA;rw[CD,Yf,Bp,Yf];congr 1;rw[Ca,Vm];split<;>simp
theorem gS {ns:List Int} {s n:Nat} {p:Nat×Nat} (h:p∈dA ns s n):p.1=s/\s+1<=p.2/\p.2<s+1+n/\spB ns s p.2=true:=by
 obtain⟨e,he,rfl⟩:=Yc.mp h;obtain⟨h1,h2⟩:=List.mem_filter.mp he;obtain⟨t,ht,rfl⟩:=Yc.mp h1;have:=Vd.mp ht;exact⟨rfl,by show s+1<=s+1+t;lia,by show s+1+t<s+1+n;lia,h2⟩
def lex (p q:Nat×Nat):Prop:=p.1<q.1∨(p.1=q.1/\p.2<q.2)
theorem nC (ns:List Int) (s:Nat):∀n,(dA ns s n).Pairwise lex
 | 0=>List.Pairwise.nil
 | n+1=>by
  rw[iR];refine Zh.mpr ⟨nC ns s n,by split<;>simp,fun a ha b hb=>?_⟩
  have h1:=gS ha;split at hb
  ·rw[Qc.mp hb];exact .inr ⟨h1.1,by show a.2<s+1+n;lia⟩
  ·cases hb
theorem jv (ns:List Int) (n:Nat):Sp ns (n+1)=Sp ns n++frm ns n:=by
 unfold Sp;rw[CD,Bg,AY]
theorem mr {ns:List Int} {n:Nat} {p:Nat×Nat} (h:p∈Sp ns n):p.1<n/\p.1<p.2/\p.2<ns.length/\spB ns p.1 p.2=true:=by
 obtain⟨s,hs,hp⟩:=List.mem_flatMap.mp h;have:=Vd.mp hs;obtain⟨h1,h2,h3,h4⟩:=gS hp;subst h1;exact⟨this,by lia,by lia,h4⟩
theorem rQ (ns:List Int):∀n,(Sp ns n).Pairwise lex
 | 0=>List.Pairwise.nil
 | n+1=>by
  rw[jv];refine Zh.mpr ⟨rQ ns n,nC ns n _,fun a ha b hb=>.inl ?_⟩;rw[(gS hb).1];exact(mr ha).1
theorem Fp {p q:Nat×Nat} (h:lex p q):p≠q:=fun e=>by
 subst e;rcases h with h|h<;>lia
theorem z8 (ns:List Int) (n:Nat):(Sp ns n).Nodup:=List.Pairwise.imp Fp (rQ ns n)
theorem jS (ns:List Int) (n:Nat):(Sp ns n).length<=n*ns.length:=by
 have:=qt (List.range n) (frm ns) ns.length fun s _=>by
  unfold frm dA;rw[Ya];refine Qd (Xj _ _) ?_;rw[Ya,Zc];lia
 rwa [Zc]at this
theorem S_mem {ns:List Int} {s e:Nat}:(s,e)∈S ns↔s<e/\e<ns.length/\spB ns s e=true:=by
 constructor
 ·intro h;have:=mr h;exact this.2
 ·rintro⟨h1,h2,h3⟩;refine List.mem_flatMap.mpr ⟨s,Vd.mpr (by lia),Yc.mpr ⟨e,List.mem_filter.mpr ⟨Yc.mpr ⟨e-(s+1),Vd.mpr (by lia),by lia⟩,h3⟩,rfl⟩⟩
theorem fw {n t:Nat} {gone rest:List Nat} (h:List.range n=gone++t::rest):gone=List.range t/\t<n:=by
 have hl:gone.length<n:=by
  have:=congrArg List.length h;rw[Zc,Yb,Ye]at this;lia
 have ht:t=gone.length:=by
  have h1:(List.range n)[gone.length]?=some t:=by rw[h];simp
  rw[AQ hl]at h1;exact(Option.some.inj h1).symm
 subst ht;refine⟨?_,hl⟩;have h2:(List.range n).take gone.length=gone:=by rw[h];simp
 rw[List.take_range,Yn (by lia)]at h2
 exact h2.symm
theorem Fq {l:List (Nat×Nat)} {a b:Nat}:(cb (l.map fun p=>(([.inl (p.1:Int),.inl (p.2:Int)]:List Key),D.bl true)) [.inl (a:Int),.inl (b:Int)]).isSome=decide ((a,b)∈l):=by
 induction l with
 | nil=>rfl
 | cons p r ih =>
  unfold cb at ih ⊢;rw[Wd,Yh];by_cases e:p=(a,b)
  ·subst e;simp
  ·have hk:¬ (([.inl (p.1:Int),.inl (p.2:Int)]:List Key)=[.inl (a:Int),.inl (b:Int)]):=fun z=>e (by
    have h1:(p.1:Int)=a:=by injection z with z1 z2;injection z1
    have h2:(p.2:Int)=b:=by injection z with z1 z2;injection z2 with z3 z4;injection z3
    exact Prod.ext (by lia) (by lia))
   have:decide (([.inl (p.1:Int),.inl (p.2:Int)]:List Key)=[.inl (a:Int),.inl (b:Int)])=false:=Ae hk;simp only[this];rw[ih];have e':¬ (a,b)=p:=fun z=>e z.symm;simp[e']
theorem oM {l:List (Nat×Nat)} {a b:Nat}:p8 false (prD (a,b)) (DT l)=some (.bl (decide ((a,b)∈l)),false):=by
 rw[← Fq];rfl
theorem tw {l:List (Nat×Nat)} {p:Nat×Nat} (h:p∉l) (hl:l.length<100000):jb (DT l) (prD p) (.bl true)=some (DT (l++[p])):=by
 show(if (l.map fun p=>(([.inl (p.1:Int),.inl (p.2:Int)]:List Key),D.bl true)).length<100000 then some (D.dt (mL (l.map fun p=>(([.inl (p.1:Int),.inl (p.2:Int)]:List Key),D.bl true)) [.inl (p.1:Int),.inl (p.2:Int)] (.bl true))) else none)=_;rw[Af (by rw[Ya];exact hl)]
 unfold mL DT;rw[Ah,Yf]
 ·rfl
 ·rw[Vk];rintro⟨x,hx,hk⟩;obtain⟨q,hq,rfl⟩:=Yc.mp hx;have z:=Am hk;have h1:(q.1:Int)=p.1:=by injection z with z1 z2;injection z1
  have h2:(q.2:Int)=p.2:=by injection z with z1 z2;injection z2 with z3 z4;injection z3
  have e:q=p:=Prod.ext (by lia) (by lia)
  exact h (e ▸ hq)
open Classical in
theorem y8 {a b l h:Int}:pN (.tup [.int a,.int b]) (.tup [.tup [.int l,.int h],.tup [.int (-h),.int (-l)]])=some (.bl (gH a b l h),false):=by
 have e1:bIn (.tup [.int a,.int b]) (.tup [.tup [.int l,.int h],.tup [.int (-h),.int (-l)]])=none:=rfl;have pp:∀x y:Int,Pl 40 (.tup [.int x,.int y]):=fun x y=>.tup fun d hd=>by
  rcases Yd.mp hd with rfl|hd
  ·exact .int _ _
  ·rw[Qc.mp hd];exact .int _ _
 unfold pN orD;rw[e1];show v5 false _ _=_;unfold v5;show(if _ then _ else _)=_
 rw[Af ⟨pp a b,fun d hd=>by
  rcases Yd.mp hd with rfl|hd
  ·exact pp _ _
  ·rw[Qc.mp hd];exact pp _ _⟩]
 have inj:∀x y:Int,D.tup [.int a,.int b]=D.tup [.int x,.int y]↔a=x/\b=y:=fun x y=>by
  constructor
  ·intro z;injection z with z;injection z with z1 z2;injection z2 with z2 z3;injection z1 with z1;injection z2 with z2;exact⟨z1,z2⟩
  ·rintro⟨rfl,rfl⟩;rfl
 unfold gH;congr 3;simp only[Ze,if_false];refine decide_eq_decide.mpr ?_;rw[Yd,Qc,inj,inj]
theorem uN {ns:List Int} {s t:Nat} {acc:List (Nat×Nat)} {l h:Int} {s6:Sl} (h1:s+1+t<ns.length) (ha:acc.length<1000) (h6:s6.isIo=false) (hs:spB ns s (s+1+t)=(decide (mx h (ab (av ns (s+1+t)))-mn l (ab (av ns (s+1+t)))=((s+1+t:Nat):Int)-s)&&gH (av ns s) (av ns (s+1+t)) (mn l (ab (av ns (s+1+t)))) (mx h (ab (av ns (s+1+t)))))) :
  dR [.v (IL ns),.v (.int s),.o (PL acc),.v (.int l),.v (.int h),.v (.int ((s+1+t:Nat):Int)),s6]=some (.nx [.v (IL ns),.v (.int s),.o (PL (acc++if spB ns s (s+1+t)=true then [(s,s+1+t)] else [])),.v (.int (mn l (ab (av ns (s+1+t))))),.v (.int (mx h (ab (av ns (s+1+t))))),.v (.int ((s+1+t:Nat):Int)),.v (.bl (decide (mx h (ab (av ns (s+1+t)))-mn l (ab (av ns (s+1+t)))=((s+1+t:Nat):Int)-s)))]):=by
 have ix:=iO (qw h1);have ix0:=iO (qw (ns:=ns) (i:=s) (by lia))
 generalize ea:av ns (s+1+t)=a at *;generalize e0:av ns s=a0 at *;refine aB (s:=[.v (IL ns),.v (.int s),.o (PL acc),.v (.int (mn l (ab a))),.v (.int h),.v (.int ((s+1+t:Nat):Int)),s6]) (fm (x:=.int (mn l (ab a))) (bD (ay rfl (ay (bD (ay (ao rfl rfl rfl rfl ix) rfl) rfl (gG a)) rfl)) rfl rfl) rfl) ?_;refine aB (s:=[.v (IL ns),.v (.int s),.o (PL acc),.v (.int (mn l (ab a))),.v (.int (mx h (ab a))),.v (.int ((s+1+t:Nat):Int)),s6]) (fm (x:=.int (mx h (ab a))) (bD (ay rfl (ay (bD (ay (ao rfl rfl rfl rfl ix) rfl) rfl (gG a)) rfl)) rfl rfl) rfl) ?_;generalize mn l (ab a)=l' at *;generalize mx h (ab a)=h' at *;refine aB (s:=[.v (IL ns),.v (.int s),.o (PL acc),.v (.int l'),.v (.int h'),.v (.int ((s+1+t:Nat):Int)),.v (.bl (decide (h'-l'=((s+1+t:Nat):Int)-s)))]) (fm (ao (ao rfl rfl rfl rfl rfl) (ao rfl rfl rfl rfl rfl) rfl rfl gQ) (gR (t:=s6) rfl h6)) ?_;by_cases q1:h'-l'=((s+1+t:Nat):Int)-s
 ·rw[Ag q1]at hs ⊢;have tst:aT (fOp pN (ff (ad (fOp bIx (aJ 0) (aJ 1)) (ad (fOp bIx (aJ 0) (aJ 5)) aq))) (ff (ad (ff (ad (aJ 3) (ad (aJ 4) aq))) (ad (ff (ad (fUn pF (aJ 4)) (ad (fUn pF (aJ 3)) aq))) aq)))) [.v (IL ns),.v (.int s),.o (PL acc),.v (.int l'),.v (.int h'),.v (.int ((s+1+t:Nat):Int)),.v (.bl true)]=some (gH a0 a l' h',[.v (IL ns),.v (.int s),.o (PL acc),.v (.int l'),.v (.int h'),.v (.int ((s+1+t:Nat):Int)),.v (.bl true)]) :=
   aP (ao (cJ (ay (ao rfl rfl rfl rfl ix0) (ay (ao rfl rfl rfl rfl ix) rfl)) rfl (by simp)) (cJ (ay (cJ rfl rfl (by simp)) (ay (cJ rfl rfl (by simp)) rfl)) rfl (by simp)) rfl rfl y8) rfl
  rw[Qk]at hs;by_cases q2:gH a0 a l' h'=true
  ·rw[q2]at tst;rw[hs,Af q2];refine gt (zM rfl tst) ?_;exact et (oe rfl rfl rfl (ay (r:=.d (prD (s,s+1+t))) (cJ rfl rfl (by simp)) rfl) rfl rfl rfl (jR (by rw[Ya];lia)) (by simp only[PL,Yf,Wd,BM];rfl))
  ·rw[A8]at q2;rw[q2]at tst;rw[hs,q2,Ah Vc,Qe];exact fk (zM rfl tst) rfl
 ·rw[Ae q1]at hs ⊢;rw[CO]at hs;rw[hs,Ah Vc,Qe];exact fk (GB rfl) rfl
theorem mN {ns:List Int} {s:Nat} (hs:s<ns.length) (hl:ns.length<=100):fR [IL ns,.int s]=some (PL (frm ns s),true):=by
 obtain⟨sf,el,s5,s6,rfl,_⟩:=br (fg:=gN 5) (B:=dR) (fun t:Nat=>D.int ((s+1+t:Nat):Int)) (List.range (ns.length-(s+1))) (fun gone st=>∃s5 s6,st=[.v (IL ns),.v (.int s),.o (PL (dA ns s gone.length)),.v (.int (lo ns s gone.length)),.v (.int (hi ns s gone.length)),s5,s6]/\s5.isIo=false/\s6.isIo=false)
  (by
   rintro gone t rest st ha ⟨s5,s6,rfl,i5,i6⟩;obtain⟨rfl,ht⟩:=fw ha;rw[Yb,Zc,Xf];refine⟨_,_,cU (t:=s5) rfl i5,uN (s:=s) (t:=t) (acc:=dA ns s t) (l:=lo ns s t) (h:=hi ns s t) (by lia) ?_ i6 ?_,⟨.v (.int ((s+1+t:Nat):Int)),.v (.bl _),by rw[iR];rfl,rfl,rfl⟩⟩
   ·unfold dA;rw[Ya];have:=Xj (spB ns s) ((List.range t).map fun t=>s+1+t);rw[Ya,Zc]at this;lia
   ·show spK ns s (s+1+t-s)=_;have e1:s+1+t-s=t+1:=by lia
    have e2:s+(t+1)=s+1+t:=by lia
    have e3:((s+1+t:Nat):Int)-s=((t+1:Nat):Int):=by lia
    rw[e1,e3];unfold spK
    rw[e2];rfl)
  (List.range (ns.length-(s+1))) [] [.v (IL ns),.v (.int s),.o (.lst []),.v (.int (ab (av ns s))),.v (.int (ab (av ns s))),.e,.e] rfl ⟨.e,.e,rfl,rfl,rfl⟩
 rw[Zc]at el;refine bF (o:=.rt (.s 2) [.v (IL ns),.v (.int s),.o (PL (dA ns s (ns.length-(s+1)))),.v (.int (lo ns s (ns.length-(s+1)))),.v (.int (hi ns s (ns.length-(s+1)))),s5,s6]) rfl ?_ rfl;refine aB (s:=[.v (IL ns),.v (.int s),.o (.lst []),.e,.e,.e,.e]) rfl ?_;refine aB (s:=[.v (IL ns),.v (.int s),.o (.lst []),.v (.int (ab (av ns s))),.e,.e,.e]) (fm (x:=.int (ab (av ns s))) (bD (ay (ao rfl rfl rfl rfl (iO (qw hs))) rfl) rfl (gG _)) rfl) ?_;refine aB (s:=[.v (IL ns),.v (.int s),.o (.lst []),.v (.int (ab (av ns s))),.v (.int (ab (av ns s))),.e,.e]) rfl ?_;refine aB (cj (ds:=(List.range (ns.length-(s+1))).map fun t:Nat=>D.int ((s+1+t:Nat):Int)) (s1:=[.v (IL ns),.v (.int s),.o (.lst []),.v (.int (ab (av ns s))),.v (.int (ab (av ns s))),.e,.e]) ?_ el) rfl;have r:=ja (fa:=ad (fOp bK (aJ 1) (fC (.int 1))) (ad (fCB cu (ad (aJ 0) aq)) aq)) (st:=[.v (IL ns),.v (.int s),.o (.lst []),.v (.int (ab (av ns s))),.v (.int (ab (av ns s))),.e,.e]) (i:=((s+1:Nat):Int)) (j:=(ns.length:Int)) (rs:=[.d (.int ((s+1:Nat):Int)),.d (.int (ns.length:Int))]) (ay rfl (ay (bD rfl rfl (dZ ns)) rfl)) rfl ⟨by lia,by lia,by lia,by lia⟩
 have e:((ns.length:Int)-((s+1:Nat):Int)).toNat=ns.length-(s+1):=by lia
 rw[e,gM]at r;exact r
theorem y9 {ns:List Int} {l:List (Nat×Nat)} {p:Nat×Nat} {b:D} {s3:Sl} (h:p∉l) (hl:l.length<100000) (h3:s3.isIo=false) :
  ∃s1,gN 3 (prD p) [.v (IL ns),.o (DT l),.v b,s3]=some s1/\fS s1=some (.nx [.v (IL ns),.o (DT (l++[p])),.v b,.v (prD p)]) :=
 ⟨_,cU (t:=s3) rfl h3,iN rfl rfl rfl rfl rfl rfl rfl rfl (tw h hl)⟩
theorem qx {ns:List Int} (hl:ns.length<=100):iI [IL ns]=some (DT (S ns),true):=by
 have small:∀n,n<=ns.length->(Sp ns n).length<100000:=fun n hn=>by
  have:=jS ns n;have:n*ns.length<=100*100:=Wm (by lia) hl
  lia
 obtain⟨sf,el,s2,s3,rfl,_⟩:=br (fg:=gN 2) (B:=jj) (fun t:Nat=>D.int (0+(t:Int))) (List.range ns.length) (fun gone st=>∃s2 s3,st=[.v (IL ns),.o (DT (Sp ns gone.length)),s2,s3]/\s2.isIo=false/\s3.isIo=false)
  (by
   rintro gone t rest st ha ⟨s2,s3,rfl,i2,i3⟩;obtain⟨rfl,ht⟩:=fw ha;rw[Yb,Zc,Xf];have nd:=z8 ns (t+1);rw[jv]at nd;have sm:=small (t+1) (by lia)
   rw[jv,Yb]at sm;obtain⟨sf,el,s3',rfl,i3'⟩:=br (fg:=gN 3) (B:=fS) prD (frm ns t) (fun gone st=>∃s3,st=[.v (IL ns),.o (DT (Sp ns t++gone)),.v (.int (t:Int)),s3]/\s3.isIo=false)
    (by
     rintro g2 p r2 st hp ⟨s3,rfl,i3⟩
     obtain⟨s1,e1,e2⟩:=y9 (ns:=ns) (l:=Sp ns t++g2) (p:=p) (b:=.int (t:Int)) (s3:=s3) (fun z=>by
      rw[hp,← Ve]at nd;have:=(Zm.mp nd).2.2 p z p Xb;exact this rfl) (by
      rw[hp]at sm;rw[Yb]at sm ⊢
      lia) i3
     exact⟨s1,_,e1,e2,.v (prD p),by rw[Ve],rfl⟩)
    (frm ns t) [] [.v (IL ns),.o (DT (Sp ns t)),.v (.int (t:Int)),s3] rfl ⟨s3,by rw[Qe],i3⟩
   refine⟨[.v (IL ns),.o (DT (Sp ns t)),.v (.int (t:Int)),s3],_,cU (t:=s2) rfl i2 (by rw[BN];rfl),cj (fY (cz rfl rfl (mN ht hl)) rfl) el,.v (.int (t:Int)),s3',by rw[jv],rfl,i3'⟩)
  (List.range ns.length) [] [.v (IL ns),.o (DT []),.e,.e] rfl ⟨.e,.e,rfl,rfl,rfl⟩
 rw[Zc]at el;refine bF (o:=.rt (.s 1) [.v (IL ns),.o (DT (Sp ns ns.length)),s2,s3]) rfl ?_ rfl;refine aB (s:=[.v (IL ns),.o (DT []),.e,.e]) rfl ?_;exact aB (cj (gL (j:=(ns.length:Int)) (ay (bD rfl rfl (dZ ns)) rfl) rfl ⟨by lia,by lia⟩) el) rfl
def bM (l:List (Nat×Nat)) (s e:Nat):Bool:=(List.range (e-(s+1))).any fun t=>decide ((s,s+1+t)∈l)&&decide ((s+1+t,e)∈l)
theorem nE {α:Type} (f:α->Bool):∀l:List α,nh (l.map fun x=>D.bl (f x))=some (l.map f)
 | []=>rfl
 | x::r=>by
  show(nh (r.map fun x=>D.bl (f x))).bind (fun bs=>some (f x::bs))=_;rw[nE f r];rfl
theorem qy {α:Type} (f:α->Bool) (l:List α):wD [.lst (l.map fun x=>D.bl (f x))]=some (.bl (l.any f),false):=by
 show(nh (l.map fun x=>D.bl (f x))).bind (fun bs=>some (D.bl (bs.any id),false))=_;rw[nE];show some (D.bl ((l.map f).any id),false)=_;rw[Ck];rfl
theorem jw {fa fb:FE} {st s:En} {r:Rs} {c:Bool} {d:Bool} {s2:En} (h:fa st=some (r,s)) (h1:tru s r=some c) (h2:c=true->fb s=some (.d (.bl d),s2)) (h3:c=false->d=false/\s2=s):g8 fa fb st=some (.d (.bl d),s2):=by
 cases c with
 | true=>exact Ex h h1 (h2 rfl)
 | false =>
  obtain⟨rfl,rfl⟩:=h3 rfl;simp only[g8,h,h1,Qa,Ze,if_false]
theorem xi {l:List (Nat×Nat)} {s e:Nat} (hs:s<=1000) (he:e<=1000):eL [prD (s,e),DT l]=some (.bl (bM l s e),false):=by
 have cl:=ck (fg:=gN 0) (fc:=gp) (fe:=fZ) (k:=1) (fun t:Nat=>D.int ((s+1+t:Nat):Int)) (fun t=>D.bl (decide ((s,s+1+t)∈l)&&decide ((s+1+t,e)∈l))) [.e,.v (DT l),.v (prD (s,e))] (List.range (e-(s+1))) fun t _=>by
  refine⟨[.v (.int ((s+1+t:Nat):Int)),.v (DT l),.v (prD (s,e))],[.v (.int ((s+1+t:Nat):Int)),.v (DT l),.v (prD (s,e))],.d (.bl (decide ((s,s+1+t)∈l)&&decide ((s+1+t,e)∈l))),[.v (.int ((s+1+t:Nat):Int)),.v (DT l),.v (prD (s,e))],[.v (.int ((s+1+t:Nat):Int)),.v (DT l),.v (prD (s,e))],rfl,rfl,?_,rfl,rfl⟩;refine jw (c:=decide ((s,s+1+t)∈l)) (ao (cJ (ay (ao rfl rfl rfl rfl (bP (i:=0) rfl)) rfl) rfl (by simp)) rfl rfl rfl (oM (a:=s) (b:=s+1+t))) rfl (fun q=>?_) (fun q=>⟨by rw[q];rfl,rfl⟩)
  rw[q,Qk];exact ao (cJ (ay rfl (ay (ao rfl rfl rfl rfl (bP (i:=1) rfl)) rfl)) rfl (by simp)) rfl rfl rfl (oM (a:=s+1+t) (b:=e))
 have r:=ja (fa:=ad (fOp bK (fOp bIx (aJ 0) (fC (.int 0))) (fC (.int 1))) (ad (fOp bIx (aJ 0) (fC (.int 1))) aq)) (st:=[.v (prD (s,e)),.v (DT l)]) (i:=((s+1:Nat):Int)) (j:=(e:Int)) (rs:=[.d (.int ((s+1:Nat):Int)),.d (.int (e:Int))]) (s1:=[.v (prD (s,e)),.v (DT l)]) (ay (ao (ao rfl rfl rfl rfl (bP (i:=0) rfl)) rfl rfl rfl rfl) (ay (ao rfl rfl rfl rfl (bP (i:=1) rfl)) rfl)) rfl ⟨by lia,by lia,by lia,by lia⟩
 have e1:((e:Int)-((s+1:Nat):Int)).toNat=e-(s+1):=by lia
 rw[e1,gM]at r;exact bF (o:=.rt (.d (.bl (bM l s e))) [.v (prD (s,e)),.v (DT l)]) rfl (dM (bD (ay (cN r (qp (n:=1000) (by rw[Ya,Zc];lia) rfl) cl) rfl) rfl (qy _ _))) rfl
theorem GX {p q:Nat×Nat} (h:lex p q):ltN 40 (prD p) (prD q)=true:=by
 show ltL (ltN 39) [.int p.1,.int p.2] [.int q.1,.int q.2]=true;rcases h with h|⟨h1,h2⟩
 ·rw[bi (by intro z;injection z with z;lia)]
  show decide ((p.1:Int)<q.1)=true;rw[Ag (by lia)]
 ·rw[h1,bR,bi (by intro z;injection z with z;lia)]
  show decide ((p.2:Int)<q.2)=true;rw[Ag (by lia)]
theorem GY (p q:Nat×Nat):Cp 40 (prD p) (prD q):=by
 show ∀(i:Nat) x y,([.int p.1,.int p.2]:List D)[i]?=some x->([.int q.1,.int q.2]:List D)[i]?=some y->Cp 39 x y;intro i x y h1 h2
 match i with
 | 0=>cases h1;cases h2;trivial
 | 1=>cases h1;cases h2;trivial
 | n+2=>simp at h1
theorem xj (p:Nat×Nat):Pl 40 (prD p):=.tup fun d hd=>by
 rcases Yd.mp hd with rfl|hd
 ·exact .int _ _
 ·rw[Qc.mp hd];exact .int _ _
theorem xk {l:List (Nat×Nat)} (h:l.Pairwise lex):lR [DT l]=some (PL l,true):=by
 have e:kJ (DT l)=some (l.map prD):=by
  show some ((l.map fun p=>(([.inl (p.1:Int),.inl (p.2:Int)]:List Key),D.bl true)).map fun kv=>D.tup (kv.1.map b8))=_;rw[Xe];rfl
 have ca:CA 40 (l.map prD):=fun a ha b hb=>by
  obtain⟨p,_,rfl⟩:=Yc.mp ha;obtain⟨q,_,rfl⟩:=Yc.mp hb;exact GY p q
 have es:l.map prD=gx 40 (l.map prD):=iG ca (List.Perm.refl _) (by
  unfold Srt;rw[Vh]
  exact List.Pairwise.imp (fun {a b} hab=>om _ _ _ (GX hab)) h)
 unfold lR;simp only[e]
 rw[Af ⟨fun x hx=>by obtain⟨p,_,rfl⟩:=Yc.mp hx;exact xj p,ca,_,.tp (T:="int") fun d hd=>by
  obtain⟨p,_,rfl⟩:=Yc.mp hd
  exact⟨_,_,rfl,by simp,rfl⟩⟩,← es]
def W (ns:List Int):List (Nat×Nat):=(S ns).filter fun p=>!bM (S ns) p.1 p.2
theorem xn {ns:List Int} (hl:ns.length<=100):eM [IL ns]=some (PL (W ns),true):=by
 have cl:=dN (fg:=gN 0) (fc:=f7) (fe:=f8) (k:=1) prD prD (fun p=>!bM (S ns) p.1 p.2) [.e,.o (DT (S ns))] (S ns) fun p hp=>by
  have hm:=mr hp;refine⟨[.v (prD p),.o (DT (S ns))],[.v (prD p),.o (DT (S ns))],rfl,jF (aP (cQ rfl rfl (xi (l:=S ns) (s:=p.1) (e:=p.2) (by lia) (by lia)) rfl) rfl),fun _=>rfl,fun _=>⟨.d (prD p),[.v (prD p),.o (DT (S ns))],[.v (prD p),.o (DT (S ns))],rfl,rfl,rfl⟩⟩
 have sl:(S ns).length<=10000:=by
  have:=jS ns ns.length;have:ns.length*ns.length<=100*100:=Wm hl hl;unfold S;lia
 refine bF (o:=.rt (.f (PL (W ns))) [.v (IL ns),.o (DT (S ns))]) rfl ?_ rfl;refine aB (s:=[.v (IL ns),.o (DT (S ns))]) (gu (cz rfl rfl (qx hl)) rfl) ?_;exact dM (cN (fY (bD rfl rfl (xk (rQ ns _))) rfl) (qp (n:=10000) (by rw[Ya];exact sl) rfl) cl)
end K42
namespace VF
open PySem L2
theorem nF (xs:List Int):∃L:List Int,L.Perm xs/\L.Pairwise (·<=·)/\∀d:D,d.seq=some (xs.map D.int)->fP [d]=some (.lst (L.map D.int),true):=by
 refine⟨xs.mergeSort,List.mergeSort_perm _ _,?_,fun d hd=>?_⟩
 ·have:=C4 (le:=fun a b:Int=>decide (a<=b)) (fun a b c h1 h2=>by simp only[decide_eq_true_eq]at *;lia) (fun a b=>by simp only[Bool.or_eq_true,decide_eq_true_eq];lia) xs
  exact List.Pairwise.imp (fun h=>Am h) this
 ·have ca:CA 40 (xs.map D.int):=fun a ha b hb=>by
   obtain⟨p,_,rfl⟩:=Yc.mp ha;obtain⟨q,_,rfl⟩:=Yc.mp hb;trivial
  have pw:=C4 (le:=fun a b:Int=>decide (a<=b)) (fun a b c h1 h2=>by simp only[decide_eq_true_eq]at *;lia) (fun a b=>by simp only[Bool.or_eq_true,decide_eq_true_eq];lia) xs
  have es:(xs.mergeSort).map D.int=gx 40 (xs.map D.int):=iG ca ((List.mergeSort_perm _ _).map _) (by
   unfold Srt;rw[Vh];refine List.Pairwise.imp (fun {a b} hab=>?_) pw;have h:=Am hab
   exact Ae (by lia))
  unfold fP;simp only[hd]
  rw[Af ⟨fun x hx=>by obtain⟨p,_,rfl⟩:=Yc.mp hx;exact .int _ _,ca,_,.sc (T:="int") (by decide) fun d hd=>by
   obtain⟨p,_,rfl⟩:=Yc.mp hd
   exact⟨by simp,rfl⟩⟩,← es]
theorem Fr {ds:List D} {a b:Nat} (h:a<=b) (hb:b<=ds.length):bSl (.lst ds) (some (a:Int)) (some (b:Int))=some (.lst ((ds.drop a).take (b-a)),true):=by
 have e1:Ek (.lst ds) (some (a:Int)) (some (b:Int))=some (.lst ((ds.drop a).take (b-a)),true):=by
  show some (D.lst (cutD ds (some (a:Int)) (some (b:Int))),true)=_;unfold cutD;rw[HT.sIx_nat,HT.sIx_nat,Yn (by lia),Yn (by lia)]
 unfold bSl orS;rw[e1]
open Classical in
theorem xo {a b:List Int} (h:b≠[]):gX (.lst (a.map D.int)) (.lst (b.map D.int))=some (.bl (!decide (a=b)),false):=by
 have pl:∀l:List Int,Pl 40 (.lst (l.map D.int)):=fun l=>.lst fun d hd=>by
  obtain⟨p,_,rfl⟩:=Yc.mp hd;exact .int _ _
 have e1:qZ true (.lst (a.map D.int)) (.lst (b.map D.int))=none:=rfl;have inj:(D.lst (a.map D.int)=D.lst (b.map D.int))↔a=b:=by
  constructor
  ·intro z;injection z with z;exact List.map_inj_right (fun x y e=>by injection e) |>.mp z
  ·rintro rfl;rfl
 have e3:kx true (.lst (a.map D.int)) (.lst (b.map D.int))=some (.bl (!decide (a=b)),false):=by
  unfold kx;rw[Af ⟨pl a,pl b⟩];simp only[if_true];congr 4;exact decide_eq_decide.mpr inj
 cases b with
 | nil=>exact absurd rfl h
 | cons y ys =>
  have e2:vM (.lst (a.map D.int)) (.lst ((y::ys).map D.int))=none:=rfl;unfold gX bNe orD;rw[e1,e2];exact e3
end VF
namespace K42
open PySem L2 VF VF22
theorem GZ (a b:Int):mn a b<=a/\mn a b<=b/\(mn a b=a∨mn a b=b):=by unfold mn;split<;>lia
theorem G0 (a b:Int):a<=mx a b/\b<=mx a b/\(mx a b=a∨mx a b=b):=by unfold mx;split<;>lia
theorem qz (ns : List Int) (s : Nat) : ∀ k, (∀ t, t ≤ k → lo ns s k ≤ ab (av ns (s + t))) ∧ ∃ t, t ≤ k ∧ lo ns s k = ab (av ns (s + t))
  | 0 => ⟨fun t ht => by have : t = 0 := by lia
                         subst this; exact Int.le_refl _, 0, BX _, rfl⟩
  | k + 1 => by
    obtain ⟨h1, t0, h2, h3⟩ := qz ns s k;have m := GZ (lo ns s k) (ab (av ns (s + 1 + k)));have e : s + 1 + k = s + (k + 1) := by lia
    refine ⟨fun t ht => ?_, ?_⟩
    · show mn _ _ ≤ _
      by_cases q : t ≤ k
      · have := h1 t q; lia
      · have : t = k + 1 := by lia
        subst this;rw [← e]; lia
    · rcases m.2.2 with q | q
      · exact ⟨t0, by lia, q.trans h3⟩
      · exact ⟨k + 1, BX _, by rw [← e]; exact q⟩
theorem xp (ns : List Int) (s : Nat) : ∀ k, (∀ t, t ≤ k → ab (av ns (s + t)) ≤ hi ns s k) ∧ ∃ t, t ≤ k ∧ hi ns s k = ab (av ns (s + t))
  | 0 => ⟨fun t ht => by have : t = 0 := by lia
                         subst this; exact Int.le_refl _, 0, BX _, rfl⟩
  | k + 1 => by
    obtain ⟨h1, t0, h2, h3⟩ := xp ns s k;have m := G0 (hi ns s k) (ab (av ns (s + 1 + k)));have e : s + 1 + k = s + (k + 1) := by lia
    refine ⟨fun t ht => ?_, ?_⟩
    · show _ ≤ mx _ _
      by_cases q : t ≤ k
      · have := h1 t q; lia
      · have : t = k + 1 := by lia
        subst this;rw [← e]; lia
    · rcases m.2.2 with q | q
      · exact ⟨t0, by lia, q.trans h3⟩
      · exact ⟨k + 1, BX _, by rw [← e]; exact q⟩
theorem nG:∀{L:List Int},L.Pairwise (·<·)->∀{i j:Nat} {x y:Int},i<=j->L[i]?=some x->L[j]?=some y->x+((j-i:Nat):Int)<=y
 | [],_,i,j,x,y,_,h,_=>by simp at h
 | a::L,p,i,j,x,y,hij,h1,h2=>by
  rw[Wj]at p;cases j with
  | zero =>
   have:i=0:=by lia
   subst this;rw[h1]at h2;cases h2;simp
  | succ j =>
   cases i with
   | succ i =>
    have:=nG p.2 (i:=i) (j:=j) (by lia) (by simpa using h1) (by simpa using h2)
    rw[show j+1 - (i+1)=j - i by lia];exact this
   | zero =>
    cases h1;have hj:L[j]?=some y:=by simpa using h2
    have hl:=(Xa.mp hj).1;have h0:L[0]?=some (L[0]'(by lia)):=Za (by lia)
    have a1:=nG p.2 (i:=0) (j:=j) (by lia) h0 hj
    have a2:=p.1 _ (Wa h0);lia
theorem zc {L:List Int} {k:Nat} {l h:Int} (p:L.Pairwise (·<·)) (hl:L.length=k+1) (h0:L[0]?=some l) (h1:L[k]?=some h):L=(List.range (k+1)).map (fun t:Nat=>l+(t:Int))↔h-l=(k:Int):=by
 constructor
 ·intro e;rw[e,Qb,AQ (by lia)]at h1
  have:l+((k:Nat):Int)=h:=Option.some.inj h1;lia
 ·intro e;refine AK fun i=>?_;by_cases hi:i<k+1
  ·rw[Qb,AQ hi];have hx:L[i]?=some (L[i]'(by lia)):=Za (by lia)
   have a1:=nG p (i:=0) (j:=i) (by lia) h0 hx
   have a2:=nG p (i:=i) (j:=k) (by lia) hx h1
   rw[hx];have e3:L[i]=l+(i:Int):=by lia
   rw[e3];rfl
  ·rw[Xn (by lia),Xn (by rw[Ya,Zc];lia)]
theorem xq {ns:List Int} {s k:Nat} (h:s+k<ns.length):(ns.drop s).take (k+1)=(List.range (k+1)).map fun t=>av ns (s+t):=by
 refine AK fun i=>?_;by_cases hi:i<k+1
 ·rw[Wl,Af hi,Qf,Qb,AQ hi,Za (by lia)]
  show some _=some (ns.getD (s+i) 0);rw[Xc,Za (by lia)];rfl
 ·rw[Wl,Ah hi,Xn (by rw[Ya,Zc];lia)]
theorem rR {c:Int} {ns:List Int} {s k:Nat} (N:Nm c ns) (h:s+k<ns.length):∃L:List Int,L.Pairwise (·<·)/\L.length=k+1/\L[0]?=some (lo ns s k)/\L[k]?=some (hi ns s k)/\∀d:D,d.seq=some (((List.range (k+1)).map fun t=>ab (av ns (s+t))).map D.int)->fP [d]=some (IL L,true):=by
 obtain⟨L,pm,pw,ev⟩:=nF ((List.range (k+1)).map fun t=>ab (av ns (s+t)));have nd:((List.range (k+1)).map fun t=>ab (av ns (s+t))).Nodup:=by
  have e:((List.range (k+1)).map fun t=>ab (av ns (s+t)))=((ns.map ab).drop s).take (k+1):=by
   rw[← CY,← CW,xq h,Xe];rfl
  rw[e];exact Cb ((List.take_sublist _ _).trans (List.drop_sublist _ _)) N.nd
 have ndL:L.Nodup:=pm.nodup_iff.mpr nd;have lt:L.Pairwise (·<·):=(pw.and ndL).imp fun h=>by have:=h.1;have:=h.2;lia
 have ln:L.length=k+1:=by rw[pm.length_eq,Ya,Zc]
 have mem:∀x,x∈L↔∃t,t<=k/\x=ab (av ns (s+t)):=fun x=>by
  rw[pm.mem_iff,Yc];constructor
  ·rintro⟨t,ht,rfl⟩;exact⟨t,by have:=Vd.mp ht;lia,rfl⟩
  ·rintro⟨t,ht,rfl⟩;exact⟨t,Vd.mpr (by lia),rfl⟩
 obtain⟨l1,l2⟩:=qz ns s k;obtain⟨u1,u2⟩:=xp ns s k;have h0:L[0]?=some (L[0]'(by lia)):=Za (by lia)
 have hk:L[k]?=some (L[k]'(by lia)):=Za (by lia)
 obtain⟨i,hi⟩:=Ql ((mem _).mpr l2);obtain⟨j,hj⟩:=Ql ((mem _).mpr u2);have hil:=(Xa.mp hi).1;have hjl:=(Xa.mp hj).1;have a1:=nG lt (i:=0) (j:=i) (by lia) h0 hi
 have a2:=nG lt (i:=j) (j:=k) (by lia) hj hk
 obtain⟨t1,ht1,e1⟩:=(mem _).mp (Wa h0);obtain⟨t2,ht2,e2⟩:=(mem _).mp (Wa hk);have b1:=l1 t1 ht1;have b2:=u1 t2 ht2;refine⟨L,lt,ln,?_,?_,ev⟩
 ·rw[h0];congr 1;lia
 ·rw[hk];congr 1;lia
theorem zd {L:List Int} {k:Nat} {x:Int} (hl:L.length=k+1) (h:L[k]?=some x):bIx (IL L) (.int (-1))=some (.int x,false):=rJ (by
 unfold atI ixN;rw[Ya,hl,Ah (by lia),Af (by lia)]
 show(L.map D.int)[((-1:Int)+((k+1:Nat):Int)).toNat]?=_;have:((-1:Int)+((k+1:Nat):Int)).toNat=k:=by lia
 rw[this,Qb,h];rfl)
theorem G1 {a b l h:Int} {k:Nat} (hk:1<=k) (hl:0<=l) (hh:h-l=(k:Int)):gH a b l h=if a=l then decide (b=h) else(decide (a=0-h)&&decide (b=0-l)):=by
 unfold gH;by_cases q:a=l
 ·rw[Af q];refine decide_eq_decide.mpr ⟨fun z=>?_,fun z=>.inl ⟨q,z⟩⟩;rcases z with z|z
  ·exact z.2
  ·lia
 ·rw[Ah q,← Bool.decide_and];refine decide_eq_decide.mpr ⟨fun z=>?_,fun z=>.inr ⟨by lia,by lia⟩⟩
  rcases z with z|z
  ·exact absurd z.1 q
  ·exact⟨by lia,by lia⟩
theorem rS {c:Int} {ns:List Int} {s e:Nat} (N:Nm c ns) (hc:c<=2000) (h:s<e) (he:e<ns.length) (hl:ns.length<=100):eP [IL ns,.int s,.int e]=some (.bl (spB ns s e),false):=by
 obtain⟨k,rfl⟩:∃k,e=s+k:=⟨e-s,by lia⟩
 obtain⟨L,lt,ln,h0,hk,ev⟩:=rR N he;have l0:0<=lo ns s k:=by
  obtain⟨_,t,_,e⟩:=qz ns s k;rw[e];exact nA _
 have lc:lo ns s k<=2000:=by
  obtain⟨_,t,ht,e⟩:=qz ns s k;rw[e];have:av ns (s+t)∈ns:=by
   unfold av;rw[Xc,Za (by lia)]
   exact Qh _
  exact Int.le_trans (N.le _ this) hc
 have sp:spB ns s (s+k)=(decide (hi ns s k-lo ns s k=(k:Int))&&gH (av ns s) (av ns (s+k)) (lo ns s k) (hi ns s k)):=by
  unfold spB;rw[show s+k - s=k by lia];rfl
 have ri:=zc lt ln h0 hk;have ix0:bIx (IL L) (.int 0)=some (.int (lo ns s k),false):=iO (i:=0) (by rw[Qb,h0];rfl)
 have ixk:=zd ln hk;have ixs:=iO (qw (ns:=ns) (i:=s) (by lia))
 have ixe:=iO (qw (ns:=ns) (i:=s+k) he);generalize lo ns s k=l at *;generalize hi ns s k=u at *;generalize av ns s=a at *;have fst:∀st,st=[.v (IL ns),.v (.int (s:Int)),.v (.int ((s+k:Nat):Int)),.e]->(bC (fCB fP (ad (du 1 [] (fIA (fSl bSl (aJ 0) (lB (aJ 1)) (lB (fOp bK (aJ 2) (fC (.int 1)))))) (gN 0) gp df) aq)) 3) st=some (.nx [.v (IL ns),.v (.int (s:Int)),.v (.int ((s+k:Nat):Int)),.o (IL L)]):=by
  rintro st rfl;have cl:=ck (fg:=gN 0) (fc:=gp) (fe:=df) (k:=1) D.int (fun x=>D.int (ab x)) [.e] ((List.range (k+1)).map fun t=>av ns (s+t)) fun x _=>⟨[.v (.int x)],[.v (.int x)],.d (.int (ab x)),[.v (.int x)],[.v (.int x)],rfl,rfl,bD rfl rfl (gG x),rfl,rfl⟩;have sl:=Fr (ds:=ns.map D.int) (a:=s) (b:=s+k+1) (by lia) (by rw[Ya];lia)
  rw[show s+k+1 - s=k+1 by lia,← CY,← CW,xq he]at sl
  have e2:(((List.range (k+1)).map fun t=>av ns (s+t)).map fun x=>D.int (ab x))=(((List.range (k+1)).map fun t=>ab (av ns (s+t))).map D.int):=by
   rw[Xe,Xe];rfl
  rw[e2]at cl;refine gu (bD (ay (cN (fY (GC rfl (qm rfl rfl) (qm (i:=((s+k+1:Nat):Int)) rfl rfl) rfl sl) rfl) (qp (n:=1000) (by rw[Ya,Ya,Zc];lia) rfl) cl) rfl) rfl (ev _ rfl)) rfl
 have snd:(sIf (aT (fOp gX (aJ 3) (fLR2 (ad (fOp bIx (aJ 3) (fC (.int 0))) (ad (fOp bK (fOp fj (fOp bK (fOp bIx (aJ 3) (fC (.int 0))) (aJ 2)) (aJ 1)) (fC (.int 1))) aq))))) (cg (fC (.bl false))) b9) [.v (IL ns),.v (.int (s:Int)),.v (.int ((s+k:Nat):Int)),.o (IL L)]=if u-l=(k:Int) then some (.nx [.v (IL ns),.v (.int (s:Int)),.v (.int ((s+k:Nat):Int)),.o (IL L)]) else some (.rt (.d (.bl false)) [.v (IL ns),.v (.int (s:Int)),.v (.int ((s+k:Nat):Int)),.o (IL L)]):=by
  have r:=rK (fa:=ad (fOp bIx (aJ 3) (fC (.int 0))) (ad (fOp bK (fOp fj (fOp bK (fOp bIx (aJ 3) (fC (.int 0))) (aJ 2)) (aJ 1)) (fC (.int 1))) aq)) (st:=[.v (IL ns),.v (.int (s:Int)),.v (.int ((s+k:Nat):Int)),.o (IL L)]) (i:=l) (j:=l+((s+k:Nat):Int)-s+1) (rs:=[.d (.int l),.d (.int (l+((s+k:Nat):Int)-s+1))]) (s:=[.v (IL ns),.v (.int (s:Int)),.v (.int ((s+k:Nat):Int)),.o (IL L)]) (ay (ao rfl rfl rfl rfl ix0) (ay (ao (ao (ao (ao rfl rfl rfl rfl ix0) rfl rfl rfl rfl) rfl rfl rfl rfl) rfl rfl rfl rfl) rfl)) rfl ⟨by lia,by lia,by lia,by lia,by lia⟩
  have e1:(l+((s+k:Nat):Int)-s+1-l).toNat=k+1:=by lia
  have e2:rng l (k+1)=((List.range (k+1)).map fun t:Nat=>l+(t:Int)).map D.int:=by unfold rng;rw[Xe];rfl
  rw[e1,e2]at r;have ne:=xo (a:=L) (b:=(List.range (k+1)).map fun t:Nat=>l+(t:Int)) (by intro z;have:=congrArg List.length z;simp at this)
  by_cases q:u-l=(k:Int)
  ·rw[Af q];rw[Ag (ri.mpr q)]at ne;exact fk (aP (ao rfl r rfl rfl ne) rfl) rfl
  ·rw[Ah q];rw[Ae (fun z=>q (ri.mp z))]at ne;exact gt (aP (ao rfl r rfl rfl ne) rfl) rfl
 rw[sp];by_cases q:u-l=(k:Int)
 ·rw[Af q]at snd;rw[Ag q,Qk,G1 (by lia) l0 q]
  by_cases q2:a=l
  ·rw[Af q2];refine bF (o:=.rt (.d (.bl (decide (av ns (s+k)=u)))) [.v (IL ns),.v (.int (s:Int)),.v (.int ((s+k:Nat):Int)),.o (IL L)]) rfl (aB (fst _ rfl) (aB snd (n9 ?_))) rfl;exact gt (aP (ao (ao rfl rfl rfl rfl ixs) (ao rfl rfl rfl rfl ix0) rfl rfl gQ) (by show some (decide (a=l))=_;rw[Ag q2])) (dM (ao (ao rfl rfl rfl rfl ixe) (ao rfl rfl rfl rfl ixk) rfl rfl gQ))
  ·rw[Ah q2];refine bF (o:=.rt (.d (.bl (decide (a=0-u)&&decide (av ns (s+k)=0-l)))) [.v (IL ns),.v (.int (s:Int)),.v (.int ((s+k:Nat):Int)),.o (IL L)]) rfl (aB (fst _ rfl) (aB snd (aB (s:=[.v (IL ns),.v (.int (s:Int)),.v (.int ((s+k:Nat):Int)),.o (IL L)]) (fk (aP (ao (ao rfl rfl rfl rfl ixs) (ao rfl rfl rfl rfl ix0) rfl rfl gQ) (by show some (decide (a=l))=_;rw[Ae q2])) rfl) ?_))) rfl
   refine dM (jw (c:=decide (a=0-u)) (ao (ao rfl rfl rfl rfl ixs) (ao rfl (ao rfl rfl rfl rfl ixk) rfl rfl rfl) rfl rfl gQ) rfl (fun z=>?_) (fun z=>⟨by rw[z];rfl,rfl⟩))
   rw[z,Qk];exact ao (ao rfl rfl rfl rfl ixe) (ao rfl (ao rfl rfl rfl rfl ix0) rfl rfl rfl) rfl rfl gQ
 ·rw[Ah q]at snd;rw[Ae q,CO];exact bF (o:=.rt (.d (.bl false)) [.v (IL ns),.v (.int (s:Int)),.v (.int ((s+k:Nat):Int)),.o (IL L)]) rfl (aB (fst _ rfl) (n9 snd)) rfl
theorem Ft {i j:Nat} {a b:D} {st s1 s2:En} {t u:Sl} (h1:st[i]?=some t) (ht:t.isIo=false) (e1:st.set i (.v a)=s1) (h2:s1[j]?=some u) (hu:u.isIo=false) (e2:s1.set j (.v b)=s2):gT 2 (gsC (gN i) (gsC (gN j) gsN)) (.tup [a,b]) st=some s2:=by
 show(gN i a st).bind (fun st1=>(gN j b st1).bind fun st2=>some st2)=_;rw[cU h1 ht e1,Qa,cU h2 hu e2];rfl
theorem rT {c:Int} {ns:List Int} {s t:Nat} (N:Nm c ns) (hc:c<=2000) (hl:ns.length<=100) (ht:s+1+t<ns.length) {l:List (Nat×Nat)} (hn:(s,s+1+t)∉l) (hk:l.length<100000) :
  dU [.v (IL ns),.o (DT l),.v (.int (s:Int)),.v (.int ((s+1+t:Nat):Int)),.e]=some (.nx [.v (IL ns),.o (DT (l++if spB ns s (s+1+t)=true then [(s,s+1+t)] else [])),.v (.int (s:Int)),.v (.int ((s+1+t:Nat):Int)),.e]):=by
 have ev:=rS (e:=s+1+t) N hc (s:=s) (by lia) ht hl
 by_cases q:spB ns s (s+1+t)=true
 ·rw[Af q];rw[q]at ev;refine gt (aP (cQ rfl rfl ev rfl) rfl) ?_;exact iN rfl rfl rfl rfl (cJ rfl rfl (by simp)) rfl rfl rfl (tw (p:=(s,s+1+t)) hn hk)
 ·rw[A8]at q;rw[q]at ev ⊢;rw[Ah Vc,Qe];exact fk (aP (cQ rfl rfl ev rfl) rfl) rfl
theorem rV {c:Int} {ns:List Int} (N:Nm c ns) (hc:c<=2000) (hl:ns.length<=100):∃s2 s3,eJ (mI (ad (fCB cu (ad (aJ 0) aq)) aq)) (gN 2) dW [.v (IL ns),.o (DT []),.e,.e,.e]=some (.nx [.v (IL ns),.o (DT (S ns)),s2,s3,.e])/\s2.isIo=false/\s3.isIo=false:=by
 have small:∀n,n<=ns.length->(Sp ns n).length<50000:=fun n hn=>by
  have:=jS ns n;have:n*ns.length<=100*100:=Wm (by lia) hl
  lia
 obtain⟨sf,el,s2,s3,rfl,i2,i3⟩:=br (fg:=gN 2) (B:=dW) (fun t:Nat=>D.int (0+(t:Int))) (List.range ns.length) (fun gone st=>∃s2 s3,st=[.v (IL ns),.o (DT (Sp ns gone.length)),s2,s3,.e]/\s2.isIo=false/\s3.isIo=false)
  (by
   rintro gone t rest st ha ⟨s2,s3,rfl,i2,i3⟩;obtain⟨rfl,ht⟩:=fw ha;rw[Yb,Zc,Xf];obtain⟨sf,el,s3',rfl,i3'⟩:=br (fg:=gN 3) (B:=dU) (fun u:Nat=>D.int ((t+1+u:Nat):Int)) (List.range (ns.length-(t+1))) (fun gone st=>∃s3,st=[.v (IL ns),.o (DT (Sp ns t++dA ns t gone.length)),.v (.int (t:Int)),s3,.e]/\s3.isIo=false)
    (by
     rintro g2 u r2 st hp ⟨s3,rfl,i3⟩;obtain⟨rfl,hu⟩:=fw hp;rw[Yb,Zc,Xf,iR,← Ve];refine⟨_,_,cU (t:=s3) rfl i3,rT N hc hl (s:=t) (t:=u) (by lia) (fun z=>?_) ?_,_,rfl,rfl⟩
     ·rcases Zf.mp z with z|z
      ·have:=(mr z).1;exact absurd this (Yi t)
      ·have:=(gS z).2.2.1;exact absurd this (Yi _)
     ·have a:=small t (by lia)
      have b:(dA ns t u).length<=u:=by
       unfold dA;rw[Ya];refine Qd (Xj _ _) ?_;rw[Ya,Zc];lia
      rw[Yb];lia)
    (List.range (ns.length-(t+1))) [] [.v (IL ns),.o (DT (Sp ns t)),.v (.int (t:Int)),s3,.e] rfl ⟨s3,by rw[show dA ns t ([]:List Nat).length=[] from rfl,Qe],i3⟩
   rw[Zc]at el;have r:=ja (fa:=ad (fOp bK (aJ 2) (fC (.int 1))) (ad (fCB cu (ad (aJ 0) aq)) aq)) (st:=[.v (IL ns),.o (DT (Sp ns t)),.v (.int (t:Int)),s3,.e]) (i:=((t+1:Nat):Int)) (j:=(ns.length:Int)) (rs:=[.d (.int ((t+1:Nat):Int)),.d (.int (ns.length:Int))]) (s1:=[.v (IL ns),.o (DT (Sp ns t)),.v (.int (t:Int)),s3,.e]) (ay rfl (ay (bD rfl rfl (dZ ns)) rfl)) rfl ⟨by lia,by lia,by lia,by lia⟩
   have e:((ns.length:Int)-((t+1:Nat):Int)).toNat=ns.length-(t+1):=by lia
   rw[e,gM]at r
   exact⟨[.v (IL ns),.o (DT (Sp ns t)),.v (.int (t:Int)),s3,.e],_,cU (t:=s2) rfl i2 (by rw[BN];rfl),cj r el,.v (.int (t:Int)),s3',by rw[jv];rfl,rfl,i3'⟩)
  (List.range ns.length) [] [.v (IL ns),.o (DT []),.e,.e,.e] rfl ⟨.e,.e,rfl,rfl,rfl⟩
 rw[Zc]at el;exact⟨s2,s3,cj (gL (j:=(ns.length:Int)) (ay (bD rfl rfl (dZ ns)) rfl) rfl ⟨by lia,by lia⟩) el,i2,i3⟩
theorem Fu {ns:List Int} {l f:List (Nat×Nat)} {s e:Nat} (hs:s<=1000) (he:e<=1000):aT (fCB wD (ad (du 1 [1,2,3] (nZ (ad (fOp bK (aJ 2) (fC (.int 1))) (ad (aJ 3) aq))) (gN 0) gp dX) aq)) [.v (IL ns),.v (DT l),.v (.int (s:Int)),.v (.int (e:Int)),.o (PL f)]=some (bM l s e,[.v (IL ns),.v (DT l),.v (.int (s:Int)),.v (.int (e:Int)),.o (PL f)]):=by
 have cl:=ck (fg:=gN 0) (fc:=gp) (fe:=dX) (k:=1) (fun t:Nat=>D.int ((s+1+t:Nat):Int)) (fun t=>D.bl (decide ((s,s+1+t)∈l)&&decide ((s+1+t,e)∈l))) [.e,.v (DT l),.v (.int (s:Int)),.v (.int (e:Int))] (List.range (e-(s+1))) fun t _=>by
  refine⟨[.v (.int ((s+1+t:Nat):Int)),.v (DT l),.v (.int (s:Int)),.v (.int (e:Int))],[.v (.int ((s+1+t:Nat):Int)),.v (DT l),.v (.int (s:Int)),.v (.int (e:Int))],.d (.bl (decide ((s,s+1+t)∈l)&&decide ((s+1+t,e)∈l))),[.v (.int ((s+1+t:Nat):Int)),.v (DT l),.v (.int (s:Int)),.v (.int (e:Int))],[.v (.int ((s+1+t:Nat):Int)),.v (DT l),.v (.int (s:Int)),.v (.int (e:Int))],rfl,rfl,?_,rfl,rfl⟩;refine jw (c:=decide ((s,s+1+t)∈l)) (ao (cJ rfl rfl (by simp)) rfl rfl rfl (oM (a:=s) (b:=s+1+t))) rfl (fun q=>?_) (fun q=>⟨by rw[q];rfl,rfl⟩)
  rw[q,Qk];exact ao (cJ rfl rfl (by simp)) rfl rfl rfl (oM (a:=s+1+t) (b:=e))
 have r:=ja (fa:=ad (fOp bK (aJ 2) (fC (.int 1))) (ad (aJ 3) aq)) (st:=[.v (IL ns),.v (DT l),.v (.int (s:Int)),.v (.int (e:Int)),.o (PL f)]) (i:=((s+1:Nat):Int)) (j:=(e:Int)) (rs:=[.d (.int ((s+1:Nat):Int)),.d (.int (e:Int))]) (s1:=[.v (IL ns),.v (DT l),.v (.int (s:Int)),.v (.int (e:Int)),.o (PL f)]) rfl rfl ⟨by lia,by lia,by lia,by lia⟩
 have e1:((e:Int)-((s+1:Nat):Int)).toNat=e-(s+1):=by lia
 rw[e1,gM]at r;exact aP (bD (ay (cN r (qp (n:=1000) (by rw[Ya,Zc];lia) rfl) cl) rfl) rfl (qy _ _)) rfl
theorem uO {c:Int} {ns:List Int} (N:Nm c ns) (hc:c<=2000) (hl:ns.length<=100):fT [IL ns]=some (PL (W ns),true):=by
 obtain⟨s2,s3,e1,i2,i3⟩:=rV N hc hl;have sl:(S ns).length<=10000:=by
  have:=jS ns ns.length;have:ns.length*ns.length<=100*100:=Wm hl hl;unfold S;lia
 obtain⟨sf,el,t2,t3,rfl,_⟩:=br (fg:=gT 2 (gsC (gN 2) (gsC (gN 3) gsN))) (B:=gC) prD (S ns) (fun gone st=>∃s2 s3,st=[.v (IL ns),.v (DT (S ns)),s2,s3,.o (PL (gone.filter fun p=>!bM (S ns) p.1 p.2))]/\s2.isIo=false/\s3.isIo=false)
  (by
   rintro gone p rest st ha ⟨s2,s3,rfl,i2,i3⟩;have hm:=mr (n:=ns.length) (show p∈S ns by rw[ha];simp)
   have hg:gone.length<=(S ns).length:=by rw[ha,Yb];lia
   have hf:=Xj (fun p=>!bM (S ns) p.1 p.2) gone;refine⟨[.v (IL ns),.v (DT (S ns)),.v (.int (p.1:Int)),.v (.int (p.2:Int)),.o (PL (gone.filter fun p=>!bM (S ns) p.1 p.2))],[.v (IL ns),.v (DT (S ns)),.v (.int (p.1:Int)),.v (.int (p.2:Int)),.o (PL ((gone++[p]).filter fun p=>!bM (S ns) p.1 p.2))],Ft (t:=s2) (u:=s3) rfl i2 rfl rfl i3 rfl,?_,_,_,rfl,rfl,rfl⟩;rw[Bp,Vm];have tst:=Fu (ns:=ns) (l:=S ns) (f:=gone.filter fun p=>!bM (S ns) p.1 p.2) (s:=p.1) (e:=p.2) (by lia) (by lia)
   cases q:bM (S ns) p.1 p.2 with
   | true =>
    rw[q]at tst;simp only[C0,Ze,if_false,BT,Qe];exact fk (jF tst) rfl
   | false =>
    rw[q]at tst;simp only[Bool.not_false,if_true,BT];refine gt (jF tst) ?_
    exact et (oe rfl rfl rfl (ay (r:=.d (prD p)) (cJ rfl rfl (by simp)) rfl) rfl rfl rfl (jR (by rw[Ya];lia)) (by simp only[PL,Yf,Wd,BM];rfl)))
  (S ns) [] [.v (IL ns),.v (DT (S ns)),s2,s3,.o (.lst [])] rfl ⟨s2,s3,rfl,i2,i3⟩
 refine bF (o:=.rt (.s 4) [.v (IL ns),.v (DT (S ns)),t2,t3,.o (PL (W ns))]) rfl ?_ rfl;refine aB (s:=[.v (IL ns),.o (DT []),.e,.e,.e]) rfl ?_;refine aB e1 ?_;refine aB (s:=[.v (IL ns),.o (DT (S ns)),s2,s3,.o (.lst [])]) rfl ?_;refine aB (cj (ds:=(S ns).map prD) (s1:=[.v (IL ns),.v (DT (S ns)),s2,s3,.o (.lst [])]) ?_ el) rfl;show some (((S ns).map fun p=>(([.inl (p.1:Int),.inl (p.2:Int)]:List Key),D.bl true)).map fun kv=>D.tup (kv.1.map b8),_)=_;rw[Xe];rfl
theorem tz {α:Type} [DecidableEq α]:∀{l m:List α},l.Nodup->(∀x∈l,x∈m)->l.length<=m.length
 | [],_,_,_=>Wh _
 | x::r,m,nd,sb=>by
  obtain⟨h1,h2⟩:=Xi.mp nd;have hx:=sb x Xb;have:=tz (m:=m.erase x) h2 fun y hy=>(List.mem_erase_of_ne (fun z:y=x=>h1 (z ▸ hy))).mpr (sb y (Vb _ hy));rw[List.length_erase_of_mem hx]at this;have:=List.length_pos_of_mem hx;rw[Ye];lia
theorem xt {a:Nat->Int} {s k:Nat} (inj:∀i j,s<=i->i<=s+k->s<=j->j<=s+k->a i=a j->i=j):((List.range (k+1)).map fun t=>a (s+t)).Nodup:=by
 unfold List.Nodup;rw[Vh]
 exact BB (fun {x y} hx hy hne heq=>hne (by
  have:=Vd.mp hx;have:=Vd.mp hy;have:=inj (s+x) (s+y) (by lia) (by lia) (by lia) (by lia) heq
  lia)) BF
theorem tE {a:Nat->Int} {s k m:Nat} {l h:Int} (b:∀i,s<=i->i<=s+k->l<=a i/\a i<=h) (e:h-l<(m:Int)):∀x∈(List.range (k+1)).map fun t=>a (s+t),x∈(List.range m).map fun t:Nat=>l+(t:Int):=fun x hx=>by
 obtain⟨t,ht,rfl⟩:=Yc.mp hx;have:=Vd.mp ht;have:=b (s+t) (by lia) (by lia)
 exact Yc.mpr ⟨(a (s+t)-l).toNat,Vd.mpr (by lia),by lia⟩
theorem kQ {a:Nat->Int} {s k:Nat} {l h:Int} (inj:∀i j,s<=i->i<=s+k->s<=j->j<=s+k->a i=a j->i=j) (b:∀i,s<=i->i<=s+k->l<=a i/\a i<=h):(k:Int)<=h-l:=by
 have h0:=b s (by lia) (by lia)
 have:=tz (xt inj) (tE (m:=(h-l+1).toNat) b (by lia))
 simp only[Ya,Zc]at this;lia
theorem hit {a:Nat->Int} {s k:Nat} {l h:Int} (inj:∀i j,s<=i->i<=s+k->s<=j->j<=s+k->a i=a j->i=j) (b:∀i,s<=i->i<=s+k->l<=a i/\a i<=h) (e:h-l=(k:Int)) {v:Int} (h1:l<=v) (h2:v<=h):∃i,s<=i/\i<=s+k/\a i=v:=by
 by_cases c:∃i,s<=i/\i<=s+k/\a i=v
 ·exact c
 exfalso
 have nd:(v::(List.range (k+1)).map fun t=>a (s+t)).Nodup:=Xi.mpr ⟨fun m=>by
  obtain⟨t,ht,e⟩:=Yc.mp m;have:=Vd.mp ht
  exact c ⟨s+t,by lia,by lia,e⟩,xt inj⟩
 have:=tz nd (m:=(List.range (k+1)).map fun t:Nat=>l+(t:Int)) fun x hx=>by
  rcases Yd.mp hx with rfl|hx
  ·exact Yc.mpr ⟨(x-l).toNat,Vd.mpr (by lia),by lia⟩
  ·exact tE b (by lia) x hx
 simp only[Ya,Zc,Ye]at this;lia
def Spn (x:Nat->Int) (s e:Nat):Prop:=∃l h:Int,0<=l/\h-l=(e:Int)-s/\(∀i,s<=i->i<=e->l<=ab (x i)/\ab (x i)<=h)/\((x s=l/\x e=h)∨(x s=-h/\x e=-l))
theorem jT {x:Int} (h:0<=x):ab x=x:=by unfold ab;split<;>lia
theorem nH {x:Int} (h:0<=x):ab (-x)=x:=by unfold ab;split<;>lia
theorem cross {x:Nat->Int} {n:Nat} (inj:∀i j,i<n->j<n->ab (x i)=ab (x j)->i=j) {s1 e1 s2 e2:Nat} (A:Spn x s1 e1) (B:Spn x s2 e2) (h1:s1<s2) (h2:s2<e1) (h3:e1<e2) (h4:e2<n):Spn x s1 s2/\Spn x s2 e1:=by
 obtain⟨l1,u1,p1,d1,b1,w1⟩:=A;obtain⟨l2,u2,p2,d2,b2,w2⟩:=B;have y1:=b1 s2 (by lia) (by lia)
 have y2:=b2 e1 (by lia) (by lia)
 have out:∀i,s1<=i->i<s2->¬ (l2<=ab (x i)/\ab (x i)<=u2):=fun i hi1 hi2 z=>by
  obtain⟨j,j1,j2,ej⟩:=hit (a:=fun i=>ab (x i)) (s:=s2) (k:=e2-s2) (l:=l2) (h:=u2) (fun i j _ hi _ hj e=>inj i j (by lia) (by lia) e) (fun i hi hj=>b2 i hi (by lia)) (by lia) z.1 z.2
  have:=inj j i (by lia) (by lia) ej
  lia
 rcases w1 with⟨xs1,xe1⟩|⟨xs1,xe1⟩<;>rcases w2 with⟨xs2,xe2⟩|⟨xs2,xe2⟩
 ·have v1:ab (x s2)=l2:=by rw[xs2];exact jT p2
  have v2:ab (x e1)=u1:=by rw[xe1];exact jT (by lia)
  have c1:=kQ (a:=fun i=>ab (x i)) (s:=s2) (k:=e1-s2) (l:=l2) (h:=u1) (fun i j _ hi _ hj e=>inj i j (by lia) (by lia) e) (fun i hi hj=>⟨(b2 i (by lia) (by lia)).1,(b1 i (by lia) (by lia)).2⟩)
  have bo:∀i,s1<=i->i<s2->l1<=ab (x i)/\ab (x i)<=l2-1:=fun i hi hj=>by
   have:=b1 i hi (by lia)
   have:=out i hi hj;lia
  have c2:=kQ (a:=fun i=>ab (x i)) (s:=s1) (k:=s2-1-s1) (l:=l1) (h:=l2-1) (fun i j _ hi _ hj e=>inj i j (by lia) (by lia) e) (fun i hi hj=>bo i hi (by lia))
  refine⟨⟨l1,l2,p1,by lia,fun i hi hj=>?_,.inl ⟨xs1,xs2⟩⟩,⟨l2,u1,p2,by lia,fun i hi hj=>⟨(b2 i (by lia) (by lia)).1,(b1 i (by lia) (by lia)).2⟩,.inl ⟨xs2,xe1⟩⟩⟩
  rcases BK i s2 with q|q
  ·have:=bo i hi q;lia
  ·obtain rfl:i=s2:=by lia
   lia
 ·exfalso
  have v1:ab (x s2)=u2:=by rw[xs2];exact nH (by lia)
  have v2:ab (x e1)=u1:=by rw[xe1];exact jT (by lia)
  have:=inj s2 e1 (by lia) (by lia) (by lia)
  lia
 ·exfalso
  have v1:ab (x s2)=l2:=by rw[xs2];exact jT p2
  have v2:ab (x e1)=l1:=by rw[xe1];exact nH p1
  have:=inj s2 e1 (by lia) (by lia) (by lia)
  lia
 ·have v1:ab (x s2)=u2:=by rw[xs2];exact nH (by lia)
  have v2:ab (x e1)=l1:=by rw[xe1];exact nH p1
  have c1:=kQ (a:=fun i=>ab (x i)) (s:=s2) (k:=e1-s2) (l:=l1) (h:=u2) (fun i j _ hi _ hj e=>inj i j (by lia) (by lia) e) (fun i hi hj=>⟨(b1 i (by lia) (by lia)).1,(b2 i (by lia) (by lia)).2⟩)
  have bo:∀i,s1<=i->i<s2->u2+1<=ab (x i)/\ab (x i)<=u1:=fun i hi hj=>by
   have:=b1 i hi (by lia)
   have:=out i hi hj;lia
  have c2:=kQ (a:=fun i=>ab (x i)) (s:=s1) (k:=s2-1-s1) (l:=u2+1) (h:=u1) (fun i j _ hi _ hj e=>inj i j (by lia) (by lia) e) (fun i hi hj=>bo i hi (by lia))
  refine⟨⟨u2,u1,by lia,by lia,fun i hi hj=>?_,.inr ⟨xs1,xs2⟩⟩,⟨l1,u2,p1,by lia,fun i hi hj=>⟨(b1 i (by lia) (by lia)).1,(b2 i (by lia) (by lia)).2⟩,.inr ⟨xs2,xe1⟩⟩⟩
  rcases BK i s2 with q|q
  ·have:=bo i hi q;lia
  ·obtain rfl:i=s2:=by lia
   lia
theorem Fv {c:Int} {ns:List Int} (N:Nm c ns):∀i j,i<ns.length->j<ns.length->ab (av ns i)=ab (av ns j)->i=j:=fun i j hi hj e=>by
 have ei:(ns.map ab)[i]'(by rw[Ya];exact hi)=ab (av ns i):=by
  rw[AO];unfold av;rw[Xc,Za hi];rfl
 have ej:(ns.map ab)[j]'(by rw[Ya];exact hj)=ab (av ns j):=by
  rw[AO];unfold av;rw[Xc,Za hj];rfl
 exact(BG N.nd).mp (ei.trans (e.trans ej.symm))
theorem mt {ns:List Int} {s e:Nat} (h:s<e):spB ns s e=true↔Spn (av ns) s e:=by
 obtain⟨k,rfl⟩:∃k,e=s+k:=⟨e-s,by lia⟩
 have ek:s+k-s=k:=by lia
 obtain⟨l1,tl,ql,el⟩:=qz ns s k;obtain⟨u1,tu,qu,eu⟩:=xp ns s k;unfold spB spK gH;rw[ek,Wg,decide_eq_true_eq,decide_eq_true_eq];constructor
 ·rintro⟨h1,h2⟩;refine⟨lo ns s k,hi ns s k,by rw[el];exact nA _,by lia,fun i hi hj=>?_,h2⟩
  obtain⟨t,rfl⟩:∃t,i=s+t:=⟨i-s,by lia⟩
  exact⟨l1 t (by lia),u1 t (by lia)⟩
 ·rintro⟨l,u,p,d,b,w⟩;have bl:=b (s+tl) (by lia) (by lia)
  have bu:=b (s+tu) (by lia) (by lia)
  have b0:=l1 0 (by lia)
  have b0':=u1 0 (by lia)
  have bk:=l1 k (by lia)
  have bk':=u1 k (by lia)
  rw[C9]at b0 b0';rcases w with⟨w1,w2⟩|⟨w1,w2⟩
  ·have v1:ab (av ns s)=l:=by rw[w1];exact jT p
   have v2:ab (av ns (s+k))=u:=by rw[w2];exact jT (by lia)
   exact⟨by lia,.inl ⟨by lia,by lia⟩⟩
  ·have v1:ab (av ns s)=u:=by rw[w1];exact nH (by lia)
   have v2:ab (av ns (s+k))=l:=by rw[w2];exact nH p
   exact⟨by lia,.inr ⟨by lia,by lia⟩⟩
theorem uP {l:List (Nat×Nat)} {s e:Nat}:bM l s e=true↔∃m,s<m/\m<e/\(s,m)∈l/\(m,e)∈l:=by
 unfold bM;rw[Vk];constructor
 ·rintro⟨t,ht,h⟩;rw[Wg,decide_eq_true_eq,decide_eq_true_eq]at h;have:=Vd.mp ht;exact⟨s+1+t,by lia,by lia,h.1,h.2⟩
 ·rintro⟨m,h1,h2,h3,h4⟩;refine⟨m-(s+1),Vd.mpr (by lia),?_⟩
  rw[show s+1+(m - (s+1))=m by lia,Wg,decide_eq_true_eq,decide_eq_true_eq]
  exact⟨h3,h4⟩
theorem W_mem {ns:List Int} {s e:Nat}:(s,e)∈W ns↔(s,e)∈S ns/\¬ ∃m,s<m/\m<e/\(s,m)∈S ns/\(m,e)∈S ns:=by
 unfold W;rw[List.mem_filter,← uP (l:=S ns)];simp
theorem z9 {c:Int} {ns:List Int} (N:Nm c ns) {s1 e1 s2 e2:Nat} (A:(s1,e1)∈W ns) (B:(s2,e2)∈W ns) (h1:s1<s2) (h2:s2<e1):e2<=e1:=by
 rcases BK e1 e2 with h3|h3
 ·exfalso
  obtain⟨a1,a2⟩:=W_mem.mp A;obtain⟨q1,q2,q3⟩:=S_mem.mp a1;obtain⟨r1,r2,r3⟩:=S_mem.mp (W_mem.mp B).1;have:=cross (Fv N) ((mt q1).mp q3) ((mt r1).mp r3) h1 h2 h3 r2;exact a2 ⟨s2,h1,h2,S_mem.mpr ⟨h1,by lia,(mt h1).mpr this.1⟩,S_mem.mpr ⟨h2,q2,(mt h2).mpr this.2⟩⟩
 ·exact h3
theorem xu {ns:List Int}:∀(n s e k:Nat),e-s<=n->(s,e)∈S ns->s<=k->k<e->∃s' e',(s',e')∈W ns/\s'<=k/\k<e'/\s<=s'/\e'<=e
 | 0,s,e,k,h,m,_,_=>by have:=(S_mem.mp m).1;lia
 | n+1,s,e,k,h,m,k1,k2=>by
  by_cases f:∃m,s<m/\m<e/\(s,m)∈S ns/\(m,e)∈S ns
  ·obtain⟨p,p1,p2,p3,p4⟩:=f;rcases BK k p with q|q
   ·obtain⟨s',e',w,a,b,c,d⟩:=xu n s p k (by lia) p3 k1 q
    exact⟨s',e',w,a,b,c,by lia⟩
   ·obtain⟨s',e',w,a,b,c,d⟩:=xu n p e k (by lia) p4 q k2
    exact⟨s',e',w,a,b,by lia,d⟩
  ·exact⟨s,e,W_mem.mpr ⟨m,f⟩,k1,k2,Va _,Va _⟩
def Own (ns:List Int) (p:Nat×Nat) (k:Nat):Prop:=p∈W ns/\p.1<=k/\k<p.2/\¬ ∃q∈W ns,q≠p/\p.1<=q.1/\q.2<=p.2/\q.1<=k/\k<q.2
theorem own_one {c:Int} {ns:List Int} (N:Nm c ns) {p q:Nat×Nat} {k:Nat} (A:Own ns p k) (B:Own ns q k):p=q:=by
 by_cases ne:p=q
 ·exact ne
 exfalso
 obtain⟨a1,a2,a3,a4⟩:=A;obtain⟨b1,b2,b3,b4⟩:=B;rcases Nat.lt_trichotomy p.1 q.1 with h|h|h
 ·exact a4 ⟨q,b1,fun z=>ne z.symm,by lia,z9 N a1 b1 h (by lia),b2,b3⟩
 ·rcases BK p.2 q.2 with g|g
  ·exact b4 ⟨p,a1,ne,by lia,by lia,a2,a3⟩
  ·exact a4 ⟨q,b1,fun z=>ne z.symm,by lia,by lia,b2,b3⟩
 ·exact b4 ⟨p,a1,ne,by lia,z9 N b1 a1 h (by lia),a2,a3⟩
theorem xw {ns:List Int} {k:Nat}:∀(n:Nat) (p:Nat×Nat),p.2-p.1<=n->p∈W ns->p.1<=k->k<p.2->∃q,Own ns q k
 | 0,p,h,_,h1,h2=>by lia
 | n+1,p,h,w,h1,h2=>by
  by_cases f:∃q∈W ns,q≠p/\p.1<=q.1/\q.2<=p.2/\q.1<=k/\k<q.2
  ·obtain⟨q,q1,q2,q3,q4,q5,q6⟩:=f;have:¬ (q.1=p.1/\q.2=p.2):=fun z=>q2 (Prod.ext z.1 z.2);exact xw n q (by lia) q1 q5 q6
  ·exact⟨p,w,h1,h2,f⟩
theorem Fw {ns:List Int} {i:Nat} (h:i<ns.length):av ns i∈ns:=by
 unfold av;rw[Xc,Za h];exact Qh h
theorem uQ {ns:List Int} (L:Ln ns):(0,ns.length-1)∈S ns:=by
 have h2:=L.two;refine S_mem.mpr ⟨by lia,by lia,(mt (by lia)).mpr ⟨0,(ns.length:Int)-1,by lia,by lia,fun i _ hi=>⟨nA _,L.nm.le _ (Fw (by lia))⟩,.inl ⟨?_,?_⟩⟩⟩
 ·obtain⟨r,e⟩:=L.hd;unfold av;rw[e];rfl
 ·obtain⟨r,e⟩:=L.la;have hr:r.length=ns.length-1:=by have:=congrArg List.length e;rw[Yb,Xf]at this;lia
  unfold av;rw[Xc];have:ns[ns.length-1]?=some ((ns.length:Int)-1):=by
   conv=>lhs;rw[e]
   rw[Xg (by rw[← e];lia)]
   simp only[← e,hr,Ch];rfl
  rw[this];rfl
theorem ze {ns:List Int} (L:Ln ns) {k:Nat} (h:k<ns.length-1):∃q,Own ns q k:=by
 obtain⟨s,e,w,a,b,_,_⟩:=xu _ 0 (ns.length-1) k (Va _) (uQ L) (Wh _) h;exact xw _ (s,e) (Va _) w a b
theorem xz:∀{L M:List Int},L.Pairwise (·<·)->M.Pairwise (·<·)->(∀x,x∈L↔x∈M)->L=M
 | [],[],_,_,_=>rfl
 | [],y::M,_,_,h=>nomatch (h y).mpr Xb
 | x::L,[],_,_,h=>nomatch (h x).mp Xb
 | x::L,y::M,p,q,h=>by
  rw[Wj]at p q;have e:x=y:=by
   rcases Yd.mp ((h x).mp Xb) with e|e
   ·exact e
   rcases Yd.mp ((h y).mpr Xb) with g|g
   ·exact g.symm
   have:=p.1 _ g;have:=q.1 _ e;lia
  subst e;refine congrArg (x::·) (xz p.2 q.2 fun z=>⟨fun hz=>?_,fun hz=>?_⟩)
  ·have:=p.1 z hz;rcases Yd.mp ((h z).mp (Vb _ hz)) with e|e
   ·lia
   ·exact e
  ·have:=q.1 z hz;rcases Yd.mp ((h z).mpr (Vb _ hz)) with e|e
   ·lia
   ·exact e
def inB (p q:Nat×Nat) (k:Nat):Bool:=decide (q≠p/\p.1<=q.1/\q.2<=p.2/\q.1<=k/\k<q.2)
def bO (p:Nat×Nat):List Nat:=(List.range (p.2-p.1)).map fun t=>p.1+t
def iS (w:List (Nat×Nat)) (p:Nat×Nat):List Nat:=(bO p).filter fun k=>!w.any fun q=>inB p q k
theorem pts_mem {p:Nat×Nat} {k:Nat}:k∈bO p↔p.1<=k/\k<p.2:=by
 unfold bO;rw[Yc];constructor
 ·rintro⟨t,ht,rfl⟩;have:=Vd.mp ht;lia
 ·rintro⟨h1,h2⟩;exact⟨k-p.1,Vd.mpr (by lia),by lia⟩
theorem kR {ns:List Int} {p:Nat×Nat} {k:Nat} (h:p∈W ns):k∈iS (W ns) p↔Own ns p k:=by
 unfold iS Own;rw[List.mem_filter,pts_mem,Bx,← A8,Vk];unfold inB;constructor
 ·rintro⟨⟨h1,h2⟩,h3⟩;exact⟨h,h1,h2,fun⟨q,q1,q2⟩=>h3 ⟨q,q1,Ag q2⟩⟩
 ·rintro⟨_,h1,h2,h3⟩;exact⟨⟨h1,h2⟩,fun⟨q,q1,q2⟩=>h3 ⟨q,q1,Am q2⟩⟩
theorem Fx (p:Nat×Nat):(bO p).Nodup:=by
 unfold bO List.Nodup;rw[Vh];exact List.Pairwise.imp (fun {a b} h z=>h (by lia)) BF
theorem zf (ns:List Int):(W ns).Nodup:=Cb List.filter_sublist (z8 ns _)
def fV (ns:List Int):List Nat:=(W ns).flatMap (iS (W ns))
theorem Fy {c:Int} {ns:List Int} (N:Nm c ns):(fV ns).Nodup:=by
 unfold fV List.Nodup;rw[List.pairwise_flatMap];refine⟨fun p _=>Cb List.filter_sublist (Fx p),?_⟩;exact BB (fun {p q} hp hq ne x hx y hy e=>ne (own_one N ((kR hp).mp hx) (e ▸ (kR hq).mp hy))) (zf ns)
theorem zg {ns:List Int} (L:Ln ns) {k:Nat}:k∈fV ns↔k<ns.length-1:=by
 unfold fV;rw[List.mem_flatMap];constructor
 ·rintro⟨p,hp,hk⟩;have o:=(kR hp).mp hk;have:=(S_mem.mp (W_mem.mp o.1).1).2.1;have:=o.2.2.1;lia
 ·intro h;obtain⟨p,o⟩:=ze L h;exact⟨p,o.1,(kR o.1).mpr o⟩
theorem xA {ns:List Int} (L:Ln ns):∀d:D,d.seq=some (((fV ns).map fun k:Nat=>(k:Int)).map D.int)->fP [d]=some (.lst (((List.range (ns.length-1)).map fun k:Nat=>(k:Int)).map D.int),true):=by
 obtain⟨M,pm,pw,ev⟩:=nF ((fV ns).map fun k:Nat=>(k:Int))
 have nd:M.Nodup:=pm.nodup_iff.mpr (by
  unfold List.Nodup;rw[Vh]
  exact List.Pairwise.imp (fun {a b} h z=>h (by lia)) (Fy L.nm))
 have e:M=(List.range (ns.length-1)).map fun k:Nat=>(k:Int):=xz ((pw.and nd).imp fun h=>by have:=h.1;have:=h.2;lia) (by
  rw[Vh]
  exact List.Pairwise.imp (fun h=>by lia) List.pairwise_lt_range) fun x=>by
  rw[pm.mem_iff,Yc,Yc];simp only[zg L,Vd]
 rw[← e];exact ev
theorem Dj (p q:Nat×Nat):gX (prD p) (prD q)=some (.bl (decide (p≠q)),false):=by
 have e1:qZ true (prD p) (prD q)=none:=rfl;have e2:vM (prD p) (prD q)=none:=rfl;have inj:(prD p=prD q)↔p=q:=by
  constructor
  ·intro z;injection z with z;injection z with z1 z2;injection z2 with z2 _;injection z1 with z1;injection z2 with z2;exact Prod.ext (by lia) (by lia)
  ·rintro rfl;rfl
 unfold gX bNe orD;rw[e1,e2];show kx true _ _=_;unfold kx;rw[Af ⟨xj p,xj q⟩];simp only[if_true];congr 3;by_cases h:p=q
 ·have hh:=inj.mpr h;simp[hh,h]
 ·have hh:¬ prD p=prD q:=fun z=>h (inj.mp z);simp[hh,h]
theorem uR {p q:Nat×Nat}:jk [prD p,prD q]=some (.bl (decide (p≠q)&&(decide (q.1<=p.1)&&decide (p.2<=q.2))),false):=by
 refine bF (o:=.rt (.d (.bl (decide (p≠q)&&(decide (q.1<=p.1)&&decide (p.2<=q.2))))) [.v (prD p),.v (prD q)]) rfl (dM ?_) rfl;refine jw (c:=decide (p≠q)) (ao rfl rfl rfl rfl (Dj p q)) rfl (fun z=>?_) (fun z=>⟨by rw[z];rfl,rfl⟩)
 rw[z,Qk];have le (a b:Nat):bLe (.int a) (.int b)=some (.bl (decide (a<=b)),false):=by
  show some (D.bl (decide ((a:Int)<=b)),false)=_;rw[decide_eq_decide.mpr Int.ofNat_le]
 refine jw (c:=decide (q.1<=p.1)) (ao (ao rfl rfl rfl rfl (bP (i:=0) rfl)) (ao rfl rfl rfl rfl (bP (i:=0) rfl)) rfl rfl (le _ _)) rfl (fun z=>?_) (fun z=>⟨by rw[z];rfl,rfl⟩)
 rw[z,Qk];exact ao (ao rfl rfl rfl rfl (bP (i:=1) rfl)) (ao rfl rfl rfl rfl (bP (i:=1) rfl)) rfl rfl (le _ _)
theorem nI {p:Nat×Nat} (h1:p.1<=1000) (h2:p.2<=1000):cS [prD p]=some (.lst ((bO p).map fun k:Nat=>D.int k),true):=by
 have r:=rK (fa:=ad (fOp bIx (aJ 0) (fC (.int 0))) (ad (fOp bIx (aJ 0) (fC (.int 1))) aq)) (st:=[.v (prD p)]) (i:=(p.1:Int)) (j:=(p.2:Int)) (rs:=[.d (.int (p.1:Int)),.d (.int (p.2:Int))]) (s:=[.v (prD p)]) (ay (ao rfl rfl rfl rfl (bP (i:=0) rfl)) (ay (ao rfl rfl rfl rfl (bP (i:=1) rfl)) rfl)) rfl (by unfold RB;lia)
 have e1:((p.2:Int)-(p.1:Int)).toNat=p.2-p.1:=by lia
 rw[e1,gM]at r;refine bF (o:=.rt (.f (.lst ((bO p).map fun k:Nat=>D.int k))) [.v (prD p)]) rfl (dM ?_) rfl;unfold bO;rw[Xe];exact r
def DK (l:List Nat):D:=.dk (l.map fun k:Nat=>((.inl (k:Int):Key),.bl true))
def qA (l:List Nat) (k:Nat):List Nat:=if k∈l then l else l++[k]
theorem xB {a b:Nat} (z:(.inl (a:Int):Key)=.inl (b:Int)):a=b:=by injection z with z;lia
theorem Fz {l:List Nat} {k:Nat}:((l.map fun k:Nat=>((.inl (k:Int):Key),D.bl true)).any fun kv=>decide (kv.1=.inl (k:Int)))=decide (k∈l):=by
 rw[Vf,Vk,decide_eq_true_eq];constructor
 ·rintro⟨x,hx,e⟩;obtain⟨q,hq,rfl⟩:=Yc.mp hx;exact xB (Am e) ▸ hq
 ·intro h;exact⟨_,Yc.mpr ⟨k,h,rfl⟩,Ag rfl⟩
theorem FB {l:List Nat} {k:Nat} (hl:l.length<100000):jb (DK l) (.int k) (.bl true)=some (DK (qA l k)):=by
 show(if (l.map fun k:Nat=>((.inl (k:Int):Key),D.bl true)).length<100000 then some (D.dk (mL (l.map fun k:Nat=>((.inl (k:Int):Key),D.bl true)) (.inl (k:Int)) (.bl true))) else none)=_;rw[Af (by rw[Ya];exact hl)]
 unfold mL DK qA;rw[Fz];by_cases h:k∈l
 ·rw[Af (Ag h),Af h,Xe];congr 2;refine Zg fun a _=>?_;show(if (.inl (a:Int):Key)=.inl (k:Int) then _ else _)=_;split<;>rfl
 ·rw[Ah (by rw[Ae h];decide),Ah h,Yf];rfl
theorem G2 {l:List Nat} {k:Nat}:p8 true (.int k) (DK l)=some (.bl (!decide (k∈l)),false):=by
 have:(cb (l.map fun k:Nat=>((.inl (k:Int):Key),D.bl true)) (.inl (k:Int))).isSome=decide (k∈l):=by
  induction l with
  | nil=>rfl
  | cons a r ih =>
   unfold cb at ih ⊢;rw[Wd,Yh];by_cases e:a=k
   ·subst e;simp
   ·have:decide ((.inl (a:Int):Key)=.inl (k:Int))=false:=Ae fun z=>e (xB z);simp only[this];rw[ih];have e':¬ k=a:=fun z=>e z.symm;simp[e']
 rw[← this];rfl
theorem add_mem {l:List Nat} {k x:Nat}:x∈qA l k↔x∈l∨x=k:=by
 unfold qA;split
 ·rename_i h
  exact⟨.inl,fun z=>z.elim id fun e=>e ▸ h⟩
 ·rw[Zf,Qc]
theorem FC {l:List Nat} {k:Nat} (h:l.Nodup):(qA l k).Nodup:=by
 unfold qA;split
 ·exact h
 ·rename_i q
  exact Zm.mpr ⟨h,by simp,fun a ha b hb e=>q (by rw[← Qc.mp hb,← e];exact ha)⟩
structure Tk (l:List Nat) (P:Nat->Prop):Prop where
 nd:l.Nodup
 le:∀x∈l,x<1000
 mem:∀x,x∈l↔P x
theorem Tk.len {l:List Nat} {P:Nat->Prop} (h:Tk l P):l.length<=1000:=by
 have:=tz h.nd (m:=List.range 1000) fun x hx=>Vd.mpr (h.le x hx);rwa [Zc]at this
theorem Tk.add {l:List Nat} {P:Nat->Prop} {k:Nat} (h:Tk l P) (hk:k<1000):Tk (qA l k) fun x=>P x∨x=k :=
 ⟨FC h.nd,fun x hx=>(add_mem.mp hx).elim (h.le x) fun e=>e ▸ hk,fun x=>add_mem.trans (or_congr (h.mem x) Iff.rfl)⟩
theorem zh {p q:Nat×Nat} {w:List (Nat×Nat)} {l:List Nat} {P:Nat->Prop} {s4:Sl} (T:Tk l P) (h1:q.1<=1000) (h2:q.2<=1000) (i4:s4.isIo=false) :
  ∃l' t4,eJ (fIA (dr cS (ad (aJ 3) aq))) (gN 4) iJ [.v (prD p),.v (PL w),.o (DK l),.v (prD q),s4]=some (.nx [.v (prD p),.v (PL w),.o (DK l'),.v (prD q),t4])/\Tk l' (fun x=>P x∨x∈bO q)/\t4.isIo=false:=by
 obtain⟨sf,el,l',t4,rfl,T',i'⟩:=br (fg:=gN 4) (B:=iJ) (fun k:Nat=>D.int k) (bO q) (fun gone st=>∃l' t4,st=[.v (prD p),.v (PL w),.o (DK l'),.v (prD q),t4]/\Tk l' (fun x=>P x∨x∈gone)/\t4.isIo=false)
  (by
   rintro gone k rest st ha ⟨l',t4,rfl,T',i'⟩;have hk:=pts_mem.mp (show k∈bO q by rw[ha];simp)
   have T2:=T'.add (k:=k) (by lia)
   have hl:=T'.len;refine⟨[.v (prD p),.v (PL w),.o (DK l'),.v (prD q),.v (.int k)],[.v (prD p),.v (PL w),.o (DK (qA l' k)),.v (prD q),.v (.int k)],cU rfl i' rfl,?_,_,_,rfl,⟨T2.nd,T2.le,fun x=>(T2.mem x).trans ?_⟩,rfl⟩
   ·exact iN rfl rfl rfl rfl rfl rfl rfl rfl (FB (by lia)) rfl
   ·rw[Zf,Qc,or_assoc])
  (bO q) [] [.v (prD p),.v (PL w),.o (DK l),.v (prD q),s4] rfl ⟨l,s4,rfl,⟨T.nd,T.le,fun x=>by rw[T.mem];simp⟩,i4⟩
 exact⟨l',t4,cj (fY (cz rfl rfl (nI h1 h2) rfl) rfl) el,T',i'⟩
theorem uS {p:Nat×Nat} {w:List (Nat×Nat)} (hw:∀q∈w,q.1<=1000/\q.2<=1000) (h1:p.1<=1000) (h2:p.2<=1000):me [prD p,PL w]=some (.lst ((iS w p).map fun k:Nat=>D.int k),true):=by
 obtain⟨sf,el,l,t3,t4,rfl,T,i3,i4⟩:=br (fg:=gN 3) (B:=lZ) prD w (fun gone st=>∃l t3 t4,st=[.v (prD p),.v (PL w),.o (DK l),t3,t4]/\Tk l (fun x=>∃q∈gone,(q≠p/\p.1<=q.1/\q.2<=p.2)/\x∈bO q)/\t3.isIo=false/\t4.isIo=false)
  (by
   rintro gone q rest st ha ⟨l,t3,t4,rfl,T,i3,i4⟩;have hq:=hw q (by rw[ha];simp)
   have tst:aT (dI jk (ad (aJ 3) (ad (aJ 0) aq))) [.v (prD p),.v (PL w),.o (DK l),.v (prD q),t4]=some (decide (q≠p)&&(decide (p.1<=q.1)&&decide (q.2<=p.2)),[.v (prD p),.v (PL w),.o (DK l),.v (prD q),t4]):=aP (cQ rfl rfl (uR (p:=q) (q:=p)) rfl) rfl;by_cases c:q≠p/\p.1<=q.1/\q.2<=p.2
   ·rw[Ag c.1,Ag c.2.1,Ag c.2.2]at tst;obtain⟨l',t4',e,T',i'⟩:=zh (p:=p) (q:=q) (w:=w) (s4:=t4) T hq.1 hq.2 i4;refine⟨_,_,cU rfl i3 rfl,gt tst e,l',_,t4',rfl,⟨T'.nd,T'.le,fun x=>(T'.mem x).trans ⟨?_,?_⟩⟩,rfl,i'⟩
    ·rintro(⟨r,hr,z⟩|z)
     ·exact⟨r,Zf.mpr (.inl hr),z⟩
     ·exact⟨q,by simp,c,z⟩
    ·rintro⟨r,hr,z⟩;rcases Zf.mp hr with hr|hr
     ·exact .inl ⟨r,hr,z⟩
     ·rw[Qc.mp hr]at z;exact .inr z.2
   ·have f:(decide (q≠p)&&(decide (p.1<=q.1)&&decide (q.2<=p.2)))=false:=by
     rw[← A8];intro z;simp only[Wg,decide_eq_true_eq]at z;exact c z
    rw[f]at tst;refine⟨_,_,cU rfl i3 rfl,fk tst rfl,l,_,t4,rfl,⟨T.nd,T.le,fun x=>(T.mem x).trans ⟨?_,?_⟩⟩,rfl,i4⟩
    ·rintro⟨r,hr,z⟩;exact⟨r,Zf.mpr (.inl hr),z⟩
    ·rintro⟨r,hr,z⟩;rcases Zf.mp hr with hr|hr
     ·exact⟨r,hr,z⟩
     ·rw[Qc.mp hr]at z;exact absurd z.1 c)
  w [] [.v (prD p),.v (PL w),.o (DK []),.e,.e] rfl ⟨[],.e,.e,rfl,⟨BZ,by simp,by simp⟩,rfl,rfl⟩
 have cl:=dN (fg:=gN 0) (fc:=ma) (fe:=md) (k:=1) (fun k:Nat=>D.int k) (fun k:Nat=>D.int k) (fun k=>!decide (k∈l)) [.e,.o (DK l)] (bO p) fun k _=>by
  exact⟨[.v (.int k),.o (DK l)],[.v (.int k),.o (DK l)],rfl,aP (ao rfl rfl rfl rfl G2) rfl,fun _=>rfl,fun _=>⟨.d (.int k),[.v (.int k),.o (DK l)],[.v (.int k),.o (DK l)],rfl,rfl,rfl⟩⟩
 have ef:(bO p).filter (fun k=>!decide (k∈l))=iS w p:=by
  unfold iS;refine List.filter_congr fun k _=>?_;congr 1;rw[Vf,decide_eq_true_eq,T.mem,Vk];unfold inB;constructor
  ·rintro⟨q,hq,z,hz⟩;have:=pts_mem.mp hz;exact⟨q,hq,Ag ⟨z.1,z.2.1,z.2.2,this.1,this.2⟩⟩
  ·rintro⟨q,hq,z⟩;obtain⟨a,b,c,d,e⟩:=Am z;exact⟨q,hq,⟨a,b,c⟩,pts_mem.mpr ⟨d,e⟩⟩
 rw[ef]at cl;have hp:(bO p).length<=1000:=by unfold bO;rw[Ya,Zc];lia
 refine bF (o:=.rt (.f (.lst ((iS w p).map fun k:Nat=>D.int k))) [.v (prD p),.v (PL w),.o (DK l),t3,t4]) rfl ?_ rfl;refine aB (s:=[.v (prD p),.v (PL w),.o (DK []),.e,.e]) rfl ?_;refine aB (cj (fY rfl rfl) el) ?_;exact dM (cN (fY (cz rfl rfl (nI h1 h2) rfl) rfl) (qp (n:=1000) (by rw[Ya];exact hp) rfl) cl)
def oD (w:List (Nat×Nat)) (p:Nat×Nat):D:=.lst ((iS w p).map fun k:Nat=>D.int k)
def DO (w l:List (Nat×Nat)):D:=.dt (l.map fun p=>([.inl (p.1:Int),.inl (p.2:Int)],oD w p))
theorem qB {w l:List (Nat×Nat)} {p:Nat×Nat} (h:p∉l) (hl:l.length<100000):jb (DO w l) (prD p) (oD w p)=some (DO w (l++[p])):=by
 show(if (l.map fun p=>(([.inl (p.1:Int),.inl (p.2:Int)]:List Key),oD w p)).length<100000 then some (D.dt (mL (l.map fun p=>(([.inl (p.1:Int),.inl (p.2:Int)]:List Key),oD w p)) [.inl (p.1:Int),.inl (p.2:Int)] (oD w p))) else none)=_;rw[Af (by rw[Ya];exact hl)]
 unfold mL DO;rw[Ah,Yf]
 ·rfl
 ·rw[Vk];rintro⟨x,hx,hk⟩;obtain⟨q,hq,rfl⟩:=Yc.mp hx;have z:=Am hk;have h1:(q.1:Int)=p.1:=by injection z with z1 z2;injection z1
  have h2:(q.2:Int)=p.2:=by injection z with z1 z2;injection z2 with z3 z4;injection z3
  have e:q=p:=Prod.ext (by lia) (by lia)
  exact h (e ▸ hq)
theorem zi {ns:List Int} {p:Nat×Nat} (h:p∈W ns):p.1<p.2/\p.2<ns.length:=by
 have:=S_mem.mp ((W_mem (s:=p.1) (e:=p.2)).mp h).1;exact⟨this.1,this.2.1⟩
theorem eX {ns:List Int} (hl:ns.length<=100):bV [IL ns]=some (DO (W ns) (W ns),true):=by
 have sl:(W ns).length<=10000:=by
  have h0:(S ns).length<=ns.length*ns.length:=jS ns ns.length;have:ns.length*ns.length<=100*100:=Wm hl hl;have:(W ns).length<=(S ns).length:=Xj _ _;lia
 obtain⟨sf,el,t3,rfl,i3⟩:=br (fg:=gN 3) (B:=gz) prD (W ns) (fun gone st=>∃t3,st=[.v (IL ns),.v (PL (W ns)),.o (DO (W ns) gone),t3]/\t3.isIo=false)
  (by
   rintro gone p rest st ha ⟨t3,rfl,i3⟩;have hp:p∈W ns:=by rw[ha];simp
   have nd:=zf ns;rw[ha]at nd;have hn:p∉gone:=fun z=>(Zm.mp nd).2.2 p z p Xb rfl;have hg:gone.length<=(W ns).length:=by rw[ha,Yb];lia
   have b:=zi hp
   refine⟨_,_,cU rfl i3 rfl,iN (cz rfl rfl (uS (p:=p) (w:=W ns) (fun q hq=>by have:=zi hq;lia) (by lia) (by lia)) rfl) rfl rfl rfl rfl rfl rfl rfl (qB hn (by lia)) rfl,_,rfl,rfl⟩)
  (W ns) [] [.v (IL ns),.v (PL (W ns)),.o (DO (W ns) []),.e] rfl ⟨.e,rfl,rfl⟩
 refine bF (o:=.rt (.s 2) [.v (IL ns),.v (PL (W ns)),.o (DO (W ns) (W ns)),t3]) rfl ?_ rfl;refine aB (s:=[.v (IL ns),.o (PL (W ns)),.e,.e]) (gu (cz rfl rfl (xn hl) rfl) rfl) ?_;refine aB (s:=[.v (IL ns),.o (PL (W ns)),.o (DO (W ns) []),.e]) rfl ?_;exact aB (cj (fY rfl rfl) el) rfl
theorem oN {b:D->D->Option Rz} {fe:FE} {rest:FCh} {ry rx:Rs} {st s s2:En} {d1 d2:D} {c d:Bool} (h1:fe st=some (rx,s)) (h2:cont s ry=some d1) (h3:cont s rx=some d2) (h4:b d1 d2=some (.bl c,false)) (h5:c=true->rest rx s=some (.d (.bl d),s2)) (h6:c=false->d=false/\s2=s):cO b fe rest ry st=some (.d (.bl d),s2):=by
 simp only[cO,h1,h2,h3,h4,Qa];cases c with
 | true=>exact h5 rfl
 | false=>obtain⟨rfl,rfl⟩:=h6 rfl;rfl
theorem FD (a b:Nat):bLe (.int a) (.int b)=some (.bl (decide (a<=b)),false):=by
 show some (D.bl (decide ((a:Int)<=b)),false)=_;rw[decide_eq_decide.mpr Int.ofNat_le]
theorem lt_n (a b:Nat):bLt (.int a) (.int b)=some (.bl (decide (a<b)),false):=by
 show some (D.bl (decide ((a:Int)<b)),false)=_;rw[decide_eq_decide.mpr Int.ofNat_lt]
theorem FF {p q:Nat×Nat} {k:Nat}:eQ [.v (prD q),.v (.int k),.v (prD p)]=some (inB p q k,[.v (prD q),.v (.int k),.v (prD p)]):=by
 have ch:yC (fOp bIx (aJ 2) (fC (.int 0))) (cO bLe (fOp bIx (aJ 0) (fC (.int 0))) (cO bLe (aJ 1) (cO bLt (fOp bIx (aJ 0) (fC (.int 1))) (kE bLe (fOp bIx (aJ 2) (fC (.int 1))))))) [.v (prD q),.v (.int k),.v (prD p)]=some (.d (.bl (decide (p.1<=q.1)&&(decide (q.1<=k)&&(decide (k<q.2)&&decide (q.2<=p.2))))),[.v (prD q),.v (.int k),.v (prD p)]):=by
  unfold yC;have e0:fOp bIx (aJ 2) (fC (.int 0)) [.v (prD q),.v (.int k),.v (prD p)]=some (.d (.int p.1),[.v (prD q),.v (.int k),.v (prD p)]):=ao rfl rfl rfl rfl (bP (i:=0) rfl);rw[e0,Qa];show cO _ _ _ (.d (.int p.1)) [.v (prD q),.v (.int k),.v (prD p)]=_;refine oN (c:=decide (p.1<=q.1)) (ao rfl rfl rfl rfl (bP (i:=0) rfl)) rfl rfl (FD _ _) (fun z=>?_) (fun z=>⟨by rw[z];rfl,rfl⟩)
  rw[z,Qk];refine oN (c:=decide (q.1<=k)) rfl rfl rfl (FD _ _) (fun z=>?_) (fun z=>⟨by rw[z];rfl,rfl⟩)
  rw[z,Qk];refine oN (c:=decide (k<q.2)) (ao rfl rfl rfl rfl (bP (i:=1) rfl)) rfl rfl (lt_n _ _) (fun z=>?_) (fun z=>⟨by rw[z];rfl,rfl⟩)
  rw[z,Qk];have e1:fOp bIx (aJ 2) (fC (.int 1)) [.v (prD q),.v (.int k),.v (prD p)]=some (.d (.int p.2),[.v (prD q),.v (.int k),.v (prD p)]):=ao rfl rfl rfl rfl (bP (i:=1) rfl);simp only[kE,e1,Qa];have ea:cont [.v (prD q),.v (.int k),.v (prD p)] (mk (D.int q.2,false))=some (.int q.2):=rfl;have eb:cont [.v (prD q),.v (.int k),.v (prD p)] (.d (D.int p.2))=some (.int p.2):=rfl;simp only[ea,eb,Qa,FD];rfl
 have t1:=aP (c:=decide (p.1<=q.1)&&(decide (q.1<=k)&&(decide (k<q.2)&&decide (q.2<=p.2)))) ch rfl;have t2:aT (fOp gX (aJ 0) (aJ 2)) [.v (prD q),.v (.int k),.v (prD p)]=some (decide (q≠p),[.v (prD q),.v (.int k),.v (prD p)]):=aP (ao rfl rfl rfl rfl (Dj q p)) rfl;show iY _ _ _=_;unfold iY;rw[t1];simp only[Qa,t2];unfold inB;by_cases h:p.1<=q.1/\q.1<=k/\k<q.2/\q.2<=p.2
 ·rw[Af (by simp[h])]
  congr 2;rw[decide_eq_decide];exact⟨fun z=>⟨z,h.1,h.2.2.2,h.2.1,h.2.2.1⟩,fun z=>z.1⟩
 ·rw[Ah (by simpa using h),Ae fun z=>h ⟨z.2.1,z.2.2.2.1,z.2.2.2.2,z.2.2.1⟩]
open Classical in
theorem FJ (l:List (Nat×Nat)):ky (PL l) (.lst [])=some (.bl l.isEmpty,false):=by
 have e1:bEq (PL l) (.lst [])=none:=rfl;have p1:Pl 40 (PL l):=.lst fun d hd=>by
  obtain⟨p,_,rfl⟩:=Yc.mp hd;exact .tup fun d hd=>by
   rcases Yd.mp hd with rfl|hd
   ·exact .int _ _
   ·rw[Qc.mp hd];exact .int _ _
 have p2:Pl 40 (.lst []):=.lst fun d hd=>by cases hd
 unfold ky orD;rw[e1];show kx false _ _=_;unfold kx;rw[Af ⟨p1,p2⟩];simp only[Ze,if_false];congr 3;cases l with
 | nil=>exact Ag rfl
 | cons x r=>exact Ae fun z=>by injection z with z;cases z
theorem xC {p:Nat×Nat} {w:List (Nat×Nat)} (hw:w.length<=10000) (h1:p.1<=1000) (h2:p.2<=1000):gE [PL w,prD p]=some (oD w p,true):=by
 have r:=ja (fa:=ad (fOp bIx (aJ 1) (fC (.int 0))) (ad (fOp bIx (aJ 1) (fC (.int 1))) aq)) (st:=[.v (PL w),.v (prD p),.o (.lst []),.e,.e]) (i:=(p.1:Int)) (j:=(p.2:Int)) (rs:=[.d (.int (p.1:Int)),.d (.int (p.2:Int))]) (s1:=[.v (PL w),.v (prD p),.o (.lst []),.e,.e]) (ay (ao rfl rfl rfl rfl (bP (i:=0) rfl)) (ay (ao rfl rfl rfl rfl (bP (i:=1) rfl)) rfl)) rfl ⟨by lia,by lia,by lia,by lia⟩
 have e1:((p.2:Int)-(p.1:Int)).toNat=p.2-p.1:=by lia
 rw[e1,gM]at r;have e2:((List.range (p.2-p.1)).map fun t:Nat=>D.int ((p.1+t:Nat):Int))=(bO p).map fun k:Nat=>D.int k:=by
  unfold bO;rw[Xe];rfl
 rw[e2]at r;have hp:(bO p).length<=1000:=by unfold bO;rw[Ya,Zc];lia
 obtain⟨sf,el,t3,t4,rfl,_⟩:=br (fg:=gN 3) (B:=ig) (fun k:Nat=>D.int k) (bO p) (fun gone st=>∃t3 t4,st=[.v (PL w),.v (prD p),.o (.lst ((gone.filter fun k=>!w.any fun q=>inB p q k).map fun k:Nat=>D.int k)),t3,t4]/\t3.isIo=false/\t4.isIo=false)
  (by
   rintro gone k rest st ha ⟨t3,t4,rfl,i3,i4⟩;have cl:=dN (fg:=gN 0) (fc:=eQ) (fe:=ie) (k:=1) prD prD (fun q=>inB p q k) [.e,.v (.int k),.v (prD p)] w fun q _=>by
    exact⟨[.v (prD q),.v (.int k),.v (prD p)],[.v (prD q),.v (.int k),.v (prD p)],rfl,FF,fun _=>rfl,fun _=>⟨.d (prD q),[.v (prD q),.v (.int k),.v (prD p)],[.v (prD q),.v (.int k),.v (prD p)],rfl,rfl,rfl⟩⟩
   have hg:gone.length<=(bO p).length:=by rw[ha,Yb];lia
   have hf:=Xj (fun k=>!w.any fun q=>inB p q k) gone;have an:(w.filter fun q=>inB p q k).isEmpty=!w.any fun q=>inB p q k:=by
    rw[Vf];simp
   refine⟨[.v (PL w),.v (prD p),.o (.lst ((gone.filter fun k=>!w.any fun q=>inB p q k).map fun k:Nat=>D.int k)),.v (.int k),t4],[.v (PL w),.v (prD p),.o (.lst (((gone++[k]).filter fun k=>!w.any fun q=>inB p q k).map fun k:Nat=>D.int k)),.v (.int k),.o (PL (w.filter fun q=>inB p q k))],cU rfl i3 rfl,?_,_,_,rfl,rfl,rfl⟩;refine aB (s:=[.v (PL w),.v (prD p),.o (.lst ((gone.filter fun k=>!w.any fun q=>inB p q k).map fun k:Nat=>D.int k)),.v (.int k),.o (PL (w.filter fun q=>inB p q k))]) (gu (cN (fY rfl rfl) (qp (n:=10000) (by rw[Ya];exact hw) rfl) cl) (gR rfl i4)) ?_
   have tst:aT (fOp ky (aJ 4) (eI aq)) [.v (PL w),.v (prD p),.o (.lst ((gone.filter fun k=>!w.any fun q=>inB p q k).map fun k:Nat=>D.int k)),.v (.int k),.o (PL (w.filter fun q=>inB p q k))]=some (!w.any fun q=>inB p q k,[.v (PL w),.v (prD p),.o (.lst ((gone.filter fun k=>!w.any fun q=>inB p q k).map fun k:Nat=>D.int k)),.v (.int k),.o (PL (w.filter fun q=>inB p q k))]):=aP (ao rfl rfl rfl rfl (FJ _)) (by rw[an];rfl)
   rw[Bp,Vm];cases q:(!w.any fun q=>inB p q k) with
   | true =>
    rw[q]at tst;simp only[if_true,BT];exact gt tst (et (oe rfl rfl rfl (ay (r:=.d (.int k)) rfl rfl) rfl rfl rfl (jR (by rw[Ya];lia)) (by simp only[Yf,Wd,BM];rfl)))
   | false =>
    rw[q]at tst;simp only[Ze,if_false,BT,Qe]
    exact fk tst rfl)
  (bO p) [] [.v (PL w),.v (prD p),.o (.lst []),.e,.e] rfl ⟨.e,.e,rfl,rfl,rfl⟩
 refine bF (o:=.rt (.s 2) [.v (PL w),.v (prD p),.o (oD w p),t3,t4]) rfl ?_ rfl;refine aB (s:=[.v (PL w),.v (prD p),.o (.lst []),.e,.e]) rfl ?_;exact aB (cj r el) rfl
def idl (n:Nat):List Int:=(List.range n).map fun t:Nat=>(t:Int)
theorem gU (n:Nat):(idl n).length=n:=by unfold idl;rw[Ya,Zc]
theorem jU {n i:Nat} (h:i<n):av (idl n) i=i:=by
 unfold av idl;rw[Xc,Qb,AQ h];rfl
theorem oO (i:Nat):ab (i:Int)=i:=by unfold ab;rw[Ah (by lia)]
theorem xD {n s:Nat}:∀{k:Nat},s+k<n->lo (idl n) s k=s
 | 0,h=>by show ab (av (idl n) s)=s;rw[jU (by lia),oO]
 | k+1,h=>by
  show mn (lo (idl n) s k) (ab (av (idl n) (s+1+k)))=s;rw[xD (by lia),jU (by lia),oO]
  unfold mn;rw[Ah (by lia)]
theorem xE {n s:Nat}:∀{k:Nat},s+k<n->hi (idl n) s k=((s+k:Nat):Int)
 | 0,h=>by show ab (av (idl n) s)=s;rw[jU (by lia),oO]
 | k+1,h=>by
  show mx (hi (idl n) s k) (ab (av (idl n) (s+1+k)))=_;rw[xE (by lia),jU (by lia),oO]
  unfold mx;rw[Af (by lia)];lia
theorem xF {n s e:Nat} (h1:s<e) (h2:e<n):spB (idl n) s e=true:=by
 unfold spB spK;have h:s+(e-s)<n:=by lia
 rw[xD h,xE h,jU (by lia),jU h,Ag (by lia),Qk]
 unfold gH;exact Ag (.inl ⟨rfl,rfl⟩)
theorem nJ {n s e:Nat} (h1:s<e) (h2:e<n):bM (S (idl n)) s e=decide (s+2<=e):=by
 have mem:∀a b,a<b->b<n->(a,b)∈S (idl n):=fun a b x y=>S_mem.mpr ⟨x,by rw[gU];exact y,xF x y⟩
 unfold bM;by_cases q:s+2<=e
 ·rw[Ag q,Vk];exact⟨0,Vd.mpr (by lia),by rw[Ag (mem s (s+1+0) (by lia) (by lia)),Ag (mem (s+1+0) e (by lia) h2)];rfl⟩
 ·rw[Ae q,show e - (s+1)=0 by lia];rfl
theorem xG {n s:Nat} (h:s<n):(frm (idl n) s).filter (fun p=>!bM (S (idl n)) p.1 p.2)=if s+1<n then [(s,s+1)] else []:=by
 unfold frm dA;rw[gU];have e1:((List.range (n-(s+1))).map fun t=>s+1+t).filter (spB (idl n) s)=(List.range (n-(s+1))).map fun t=>s+1+t:=List.filter_eq_self.mpr fun e he=>by
  obtain⟨t,ht,rfl⟩:=Yc.mp he;have:=Vd.mp ht;exact xF (by lia) (by lia)
 rw[e1,Xe];cases hm:n-(s+1) with
 | zero=>rw[Ah (by lia)];rfl
 | succ m =>
  rw[Af (by lia),BL,Wd,Vm]
  have a1:(!bM (S (idl n)) s (s+1+0))=true:=by rw[nJ (by lia) (by lia),Ae (by lia)];rfl
  have a2:(((List.range m).map Nat.succ).map ((fun e=>(s,e)) ∘ fun t=>s+1+t)).filter (fun p=>!bM (S (idl n)) p.1 p.2)=[]:=List.filter_eq_nil_iff.mpr fun p hp=>by
   rw[Xe]at hp;obtain⟨t,ht,rfl⟩:=Yc.mp hp;have:=Vd.mp ht;show ¬ (!bM (S (idl n)) s (s+1+(t+1)))=true;rw[nJ (by lia) (by lia),Ag (by lia)];decide
  rw[a2];show(if (!bM (S (idl n)) s (s+1+0))=true then _ else _)=_;rw[Af a1];rfl
theorem kh {α β:Type} (f:α->List β) (p:β->Bool):∀l:List α,(l.flatMap f).filter p=l.flatMap fun x=>(f x).filter p
 | []=>rfl
 | x::r=>by rw[Qg,Bp,kh f p r,Qg]
theorem iT {α β:Type} {f g:α->List β}:∀{l:List α},(∀x∈l,f x=g x)->l.flatMap f=l.flatMap g
 | [],_=>rfl
 | x::r,h=>by rw[Qg,Qg,h x Xb,iT fun y hy=>h y (Vb _ hy)]
theorem qC {α β:Type} (f:α->β):∀l:List α,(l.flatMap fun x=>[f x])=l.map f
 | []=>rfl
 | x::r=>by rw[Qg,qC f r];rfl
theorem Dk (n:Nat):W (idl (n+1))=(List.range n).map fun k=>(k,k+1):=by
 unfold W S Sp;rw[kh,gU];have e:(List.range (n+1)).flatMap (fun x=>(frm (idl (n+1)) x).filter fun p=>!bM ((List.range (idl (n+1)).length).flatMap (frm (idl (n+1)))) p.1 p.2)=(List.range (n+1)).flatMap fun s=>if s+1<n+1 then [(s,s+1)] else []:=iT fun s hs=>xG (Vd.mp hs);rw[gU]at e;rw[e,CD,Bg];have e1:(List.range n).flatMap (fun s=>if s+1<n+1 then [(s,s+1)] else [])=(List.range n).flatMap fun s=>[(s,s+1)]:=iT fun s hs=>by rw[Af (by have:=Vd.mp hs;lia)]
 rw[e1,qC,AY,Ah (by lia),Qe]
theorem zj {n k:Nat} (h:k<n):iS (W (idl (n+1))) (k,k+1)=[k]:=by
 unfold iS;have e:bO (k,k+1)=[k]:=by
  unfold bO;show(List.range (k+1-k)).map _=_;rw[show k+1 - k=1 by lia];rfl
 rw[e,Vm,Af]
 ·rfl
 ·rw[Bx,← A8,Vk];rintro⟨q,hq,z⟩;rw[Dk]at hq;obtain⟨j,_,rfl⟩:=Yc.mp hq;obtain⟨a,b,c,_,_⟩:=Am z;have b':k<=j:=b;have c':j+1<=k+1:=c;exact a (by rw[show j=k by lia])
theorem FK (n:Nat):DO (W (idl (n+1))) (W (idl (n+1)))=.dt ((List.range n).map fun k:Nat=>([.inl (k:Int),.inl ((k+1:Nat):Int)],.lst [.int k])):=by
 unfold DO;congr 1
 conv=>lhs;arg 2;rw[Dk]
 rw[Xe];refine Zg fun k hk=>?_;show(_,oD _ _)=_;unfold oD;rw[zj (Vd.mp hk)];rfl
end K42
namespace VF
open PySem L2
open Classical in
theorem xH {n:Nat} {ds:List D} (h:∀d∈ds,Pl n d) (hn:n<=39):gX (.lst ds) (.lst ds)=some (.bl false,false):=by
 have up:∀(k:Nat) {m:Nat} {d:D},Pl m d->Pl (m+k) d:=fun k=>by
  induction k with
  | zero=>intro m d h;exact h
  | succ k ih=>intro m d h;exact(ih h).up
 have e1:qZ true (.lst ds) (.lst ds)=none:=rfl;have p:Pl 40 (.lst ds):=.lst fun d hd=>by
  have:=up (39-n) (h d hd);rwa [show n+(39-n)=39 by lia]at this
 cases ds with
 | nil=>unfold gX bNe orD;rw[e1];rfl
 | cons x r =>
  have e2:vM (.lst (x::r)) (.lst (x::r))=none:=rfl;have e3:kx true (.lst (x::r)) (.lst (x::r))=some (.bl false,false):=by
   unfold kx;rw[Af ⟨p,p⟩];simp
  unfold gX bNe orD;rw[e1,e2];exact e3
end VF
namespace K42
open PySem L2 VF VF22
theorem Dm (l:List Int):gX (IL l) (IL l)=some (.bl false,false):=xH (n:=1) (fun d hd=>by obtain⟨p,_,rfl⟩:=Yc.mp hd;exact .int _ _) (by decide)
theorem xI (l:List Int):pN (.bl true) (.lst (l.map fun _=>D.bl false))=some (.bl false,false):=by
 have e1:ng (l.map fun _=>D.bl false)=some (l.map fun _=>V.bl false):=by
  induction l with
  | nil=>rfl
  | cons x l ih=>simp[ng,scD,ih]
 have e0:eqV (.bl false) (.bl true)=false:=by decide
 have e2:inV (.bl true) (l.map fun _=>V.bl false)=false:=by
  unfold inV;rw[List.any_eq_false];intro x hx;obtain⟨_,_,rfl⟩:=Yc.mp hx;rw[e0];decide
 have e3:bIn (.bl true) (.lst (l.map fun _=>D.bl false))=some (.bl false,false):=by
  show(ng (l.map fun _=>D.bl false)).bind (fun ws=>some (D.bl (inV (.bl true) ws),false))=_;rw[e1,Qa,e2]
 unfold pN orD;rw[e3]
def kyN (p:Nat×Nat):List Key:=[.inl (p.1:Int),.inl (p.2:Int)]
def toZ (l:List Nat):List Int:=l.map fun k:Nat=>(k:Int)
def klW (ns:List Int):KL:=(W ns).map fun p=>(kyN p,toZ (iS (W ns) p))
theorem Ha (w:List (Nat×Nat)) (p:Nat×Nat):oD w p=.lst (iD (toZ (iS w p))):=by
 show D.lst _=D.lst ((toZ _).map D.int);unfold toZ;rw[Xe];rfl
theorem xJ (ns:List Int):DO (W ns) (W ns)=.dt (dKL (klW ns)):=by
 unfold DO dKL klW;rw[Xe];congr 1;exact Zg fun p _=>by show(_,oD _ _)=(kyN p,_);rw[Ha];rfl
theorem nK {ns:List Int} {p:Nat×Nat} (h:p∈W ns):(iS (W ns) p).length+1<=ns.length:=by
 have h1:(iS (W ns) p).length<=p.2-p.1:=by
  have:=Xj (fun k=>!(W ns).any fun q=>inB p q k) (bO p);unfold bO at this;rw[Ya,Zc]at this;exact this
 have:=zi h;lia
theorem xK {ns:List Int} (hl:ns.length<=42):(W ns).length<=2000:=by
 have h0:(S ns).length<=ns.length*ns.length:=jS ns ns.length;have:ns.length*ns.length<=42*42:=Wm hl hl;have:(W ns).length<=(S ns).length:=Xj _ _;lia
theorem oP (l:List Nat):(toZ l).length=l.length:=by unfold toZ;rw[Ya]
theorem Do {ns:List Int} {y:List Key×List Int} (h:y∈klW ns):∃p∈W ns,y=(kyN p,toZ (iS (W ns) p)):=by
 obtain⟨p,hp,e⟩:=Yc.mp h;exact⟨p,hp,e.symm⟩
theorem FL {ns:List Int} (hl:ns.length<=42):Nk ns (dKL (klW ns)) (klW ns):=⟨rfl,fun y hy=>by
 obtain⟨p,hp,rfl⟩:=Do hy;have:=nK hp;refine⟨fun e=>?_,by rw[oP];lia⟩
 have e':=congrArg List.length e;rw[oP]at e'
 lia⟩
theorem xL {kl:KL} {n:Nat} {ks:List Key} {l:List Int} (h:kl[n]?=some (ks,l)):fQ kl (n+1)=fQ kl n++l:=by
 unfold fQ;rw[BY,h,Bg];show _++([(ks,l)]:KL).flatMap (·.2)=_;rw[AY]
theorem nL {n:Nat}:∀{kl:KL},(∀y∈kl,y.2.length<=n)->(kl.flatMap (·.2)).length<=n*kl.length
 | [],_=>Va _
 | y::kl,h=>by
  rw[Qg,Yb,Ye];have:=nL (kl:=kl) fun z hz=>h z (Vb _ hz);have:=h y Xb;rw[Nat.mul_succ];lia
theorem zk {ns:List Int} (hl:ns.length<=42) (n:Nat):(fQ (klW ns) n).length<=84000:=by
 have h1:(fQ (klW ns) n).length<=42*((klW ns).take n).length:=nL fun y hy=>by
  obtain⟨p,hp,rfl⟩:=Do (B0 hy);have:=nK hp;rw[oP];lia
 have h2:((klW ns).take n).length<=2000:=by
  rw[Xl];have:=xK hl;unfold klW;rw[Ya];lia
 lia
theorem oQ (ns:List Int):fQ (klW ns) (klW ns).length=toZ (fV ns):=by
 unfold fQ;rw[BE];unfold klW fV toZ;rw[List.flatMap_map,List.map_flatMap]
theorem tF {ks:List Key}:∀{kl:KL},ks∈kl.map (·.1)->∃l,cb (dKL kl) ks=some (.lst (iD l))/\∃y∈kl,y.2=l
 | y::kl,h=>by
  by_cases e:y.1=ks
  ·refine⟨y.2,?_,y,Xb,rfl⟩;simp[cb,dKL,Yh,e]
  ·rcases Yd.mp h with h|h
   ·exact absurd h.symm e
   ·obtain⟨l,e1,z,hz,e2⟩:=tF h;refine⟨l,?_,z,Vb _ hz,e2⟩;rw[← e1];simp[cb,dKL,Yh,e]
theorem rW {kl:KL} {ks:List Key} {d:D} (h:cb (dKL kl) ks=some d):p7 (.dt (dKL kl)) (.tup (ks.map b8))=some (d,false):=by
 show((j7 (ks.map b8)).bind fun k=>some (cb (dKL kl) k)).bind _=_;rw[iH,Qa,Qa,h];rfl
theorem mw {kl:KL} (neg:Bool):uF neg (.dt (dKL kl)) (.dt (dKL kl))=some (.bl (!neg),false):=by
 have h:∀kv∈dKL kl,Pl 38 kv.2:=fun x hx=>by
  obtain⟨y,_,rfl⟩:=Yc.mp hx;refine .lst fun d hd=>?_;obtain⟨i,_,rfl⟩:=Yc.mp hd;exact .int _ _
 exact Af ⟨rfl,h⟩
theorem tG:∀{kl:KL},(kl.map (·.1)).Nodup->∀{n:Nat} {ks:List Key} {l:List Int},kl[n]?=some (ks,l)->cb (dKL kl) ks=some (.lst (iD l))
 | [],_,n,_,_,h=>by simp at h
 | y::kl,nd,n,ks,l,h=>by
  rw[Wd,Xi]at nd;cases n with
  | zero =>
   cases h;simp[cb,dKL,Yh]
  | succ n =>
   have h':kl[n]?=some (ks,l):=by simpa using h
   have ne:¬ y.1=ks:=fun e=>nd.1 (e ▸ Yc.mpr ⟨_,Wa h',rfl⟩);rw[← tG nd.2 h'];simp[cb,dKL,Yh,ne]
theorem FM (ns:List Int):((klW ns).map (·.1)).Nodup:=by
 unfold klW;rw[Xe];unfold List.Nodup;rw[Vh];refine List.Pairwise.imp (fun {p q} h e=>h ?_) (zf ns);have e1:(p.1:Int)=q.1:=by injection e with z1 z2;injection z1
 have e2:(p.2:Int)=q.2:=by injection e with z1 z2;injection z2 with z3 z4;injection z3
 exact Prod.ext (by lia) (by lia)
theorem FN {ns:List Int} {t5 t6:Sl} (hl:ns.length<=42):∃t4,t4.isIo=false/\eJ (fIA (aJ 2)) (gN 4) eR [.v (IL ns),.o (IL ns),.o (PL (W ns)),.o (.dt []),.e,t5,t6]=some (.nx [.v (IL ns),.o (IL ns),.v (PL (W ns)),.o (DO (W ns) (W ns)),t4,t5,t6]):=by
 have sl:=xK hl;obtain⟨sf,el,t4,rfl,i4⟩:=br (fg:=gN 4) (B:=eR) prD (W ns) (fun gone st=>∃t4,st=[.v (IL ns),.o (IL ns),.v (PL (W ns)),.o (DO (W ns) gone),t4,t5,t6]/\t4.isIo=false)
  (by
   rintro gone p rest st ha ⟨t4,rfl,i4⟩;have hp:p∈W ns:=by rw[ha];simp
   have nd:=zf ns;rw[ha]at nd;have hn:p∉gone:=fun z=>(Zm.mp nd).2.2 p z p Xb rfl;have hg:gone.length<=(W ns).length:=by rw[ha,Yb];lia
   have b:=zi hp
   refine⟨_,_,cU rfl i4 rfl,iN (cz rfl rfl (xC (p:=p) (w:=W ns) (by lia) (by lia) (by lia)) rfl) rfl rfl rfl rfl rfl rfl rfl (qB hn (by lia)) rfl,_,rfl,rfl⟩)
  (W ns) [] [.v (IL ns),.o (IL ns),.v (PL (W ns)),.o (.dt []),.e,t5,t6] rfl ⟨.e,rfl,rfl⟩
 exact⟨t4,i4,cj (fY rfl rfl) el⟩
theorem zl (ns:List Int):(klW ns).length=(W ns).length:=by unfold klW;rw[Ya]
theorem FP {ns:List Int} {st:En} (h2:2<=ns.length) (hl:ns.length<=42) (h0:st[0]?=some (.v (IL ns))):VF22.fLR1 (ad (fOp fj (fCB cu (ad (aJ 0) aq)) (fC (.int 1))) aq) st=some (.f (.lst (iD (toZ (List.range (ns.length-1))))),st):=by
 obtain⟨m,hm⟩:∃m,ns.length=m+1:=⟨ns.length-1,by lia⟩
 have v0:aJ 0 st=some (.d (IL ns),st):=by unfold aJ;rw[h0]
 have r:=w5 (fa:=ad (fOp fj (fCB cu (ad (aJ 0) aq)) (fC (.int 1))) aq) (st:=st) (j:=(m:Int)) (rs:=[.d (.int (m:Int))]) (s:=st) (ay (ao (bD (ay v0 rfl) rfl (dZ ns)) rfl rfl rfl (z:=(.int (m:Int),false)) (by show some (D.int ((ns.length:Int) - 1),false)=_;rw[show(ns.length:Int) - 1=m by lia])) rfl) rfl ⟨by lia,by lia,by lia,by lia,by lia⟩
 have e1:((m:Int)-0).toNat=m:=by lia
 have e2:rng 0 m=iD (toZ (List.range m)):=by
  unfold rng toZ;show _=((List.range m).map _).map D.int;rw[Xe];exact Zg fun t _=>by show D.int (0+(t:Int))=D.int (t:Int);rw[BN]
 rw[e1,e2]at r;rw[show ns.length - 1=m by lia]
 exact r
theorem FQ {ns:List Int} {t4:Sl} (L:Ln ns) (hl:ns.length<=42) (i4:t4.isIo=false):uH bV 3 1 5 6 4 eS eT eU eV eW [.v (IL ns),.o (IL ns),.v (PL (W ns)),.o (DO (W ns) (W ns)),t4,.e,.e] =
  some (.nx [.v (IL ns),.o (IL ns),.v (PL (W ns)),.v (DO (W ns) (W ns)),.e,.e,.o (.lst (iD (toZ (fV ns))))]):=by
 have bk:wP 4 [.v (IL ns),.o (IL ns),.v (PL (W ns)),.v (DO (W ns) (W ns)),t4,.e,.e]=some [.v (IL ns),.o (IL ns),.v (PL (W ns)),.v (DO (W ns) (W ns)),.e,.e,.e]:=by
  cases t4 with
  | io d=>cases i4
  | _=>rfl
 have lk:(klW ns).length<=2000:=by rw[zl];exact xK hl
 have ow:Ow [.v (IL ns),.o (IL ns),.v (PL (W ns)),.v (DO (W ns) (W ns)),.e,.e,.e] 1 5 6 4 eS eT eU eV eW ns (dKL (klW ns)) (klW ns):=by
  refine⟨FL hl,lk,⟨rfl,rfl,rfl,rfl,by decide,by decide,by decide,fun k s h=>?_⟩,?_,rfl,fun n ks l h=>?_,?_,fun kl' hk hn ks hks=>?_⟩
  ·match k,h with
   | 0,h=>cases h;exact .inr (.inl ⟨_,rfl⟩)
   | 1,_=>exact .inr (.inr rfl)
   | 2,h=>cases h;exact .inr (.inl ⟨_,rfl⟩)
   | 3,h=>cases h;exact .inr (.inl ⟨_,rfl⟩)
   | 4,h=>cases h;exact .inl rfl
   | 5,h=>cases h;exact .inl rfl
   | 6,h=>cases h;exact .inl rfl
   | k+7,h=>simp at h
  ·rw[xJ];exact Ew (jF (c:=true) (aP (bD rfl rfl (z:=(.bl true,false)) rfl) rfl)) (Ew (aP (ao rfl rfl rfl rfl (mw true)) rfl) (aP (ao rfl rfl rfl rfl (Dm _)) rfl))
  ·have hks:ks∈(klW ns).map (·.1):=Yc.mpr ⟨_,Wa h,rfl⟩;have lg:cb (dKL (klW ns)) ks=some (.lst (iD l)):=tG (FM ns) h;have:=zk hl n;have hll:l.length<=1000:=((FL hl).ne _ (Wa h)).2;rw[xL h,show iD (fQ (klW ns) n++l)=iD (fQ (klW ns) n)++iD l from Yf];exact ao rfl (ao rfl rfl rfl rfl (rW lg)) rfl rfl (tj (by rw[Ya,Ya];lia))
  ·rw[oQ];refine aP (ao (bD rfl rfl (xA L _ rfl)) (FP L.two hl rfl) rfl rfl (Dm _)) rfl
  ·obtain⟨l,e1,y,hy,rfl⟩:=tF (kl:=kl') (ks:=ks) (by rw[hk];exact hks)
   have ll:=hn y hy;rw[oQ];have cl:=ck (fg:=gN 0) (fc:=gp) (fe:=ii) (k:=1) D.int (fun _=>D.bl false) [.e] y.2 fun x _=>⟨[.v (.int x)],[.v (.int x)],.d (.bl false),[.v (.int x)],[.v (.int x)],rfl,rfl,bD rfl rfl (z:=(.bl false,false)) rfl,rfl,rfl⟩;exact Ew (jF (c:=true) (aP (bD (ay (ao rfl rfl rfl rfl (rW e1)) rfl) rfl (z:=(.bl true,false)) rfl) rfl)) (aP (ao rfl (cN (fY (ao rfl rfl rfl rfl (rW e1)) rfl) (qp (n:=3000) (by rw[Ya];lia) rfl) cl) rfl rfl (xI _)) rfl)
 have r:=yT (g:=bV) (m:=3) (st0:=[.v (IL ns),.o (IL ns),.v (PL (W ns)),.o (DO (W ns) (W ns)),t4,.e,.e]) rfl bk rfl (by rw[← xJ];exact eX (by lia)) ow
 rw[oQ]at r;exact r
def kl2 (l:List Nat):KL:=l.map fun t:Nat=>([.inl (t:Int),.inl ((t+1:Nat):Int)],[(t:Int)])
theorem tH:∀l:List Nat,uK (l.map fun t:Nat=>D.tup [.tup [.int (t:Int),.int ((t+1:Nat):Int)],.lst [.int (t:Int)]])=some (dKL (kl2 l))
 | []=>rfl
 | t::l=>by
  show(VF22.prD _).bind (fun x=>(uK (l.map _)).bind fun xs=>some (x::xs))=_;rw[tH l];rfl
theorem FR {l:List Nat} (h:l.Nodup):((kl2 l).map (·.1)).Nodup:=by
 unfold kl2;rw[Xe];unfold List.Nodup;rw[Vh];refine List.Pairwise.imp (fun {p q} h e=>h ?_) h;have e1:(p:Int)=q:=by injection e with z1 z2;injection z1
 lia
theorem FU {l:List Nat} (h:l.Nodup) (hl:l.length<=1000):bDP [.lst (l.map fun t:Nat=>D.tup [.tup [.int (t:Int),.int ((t+1:Nat):Int)],.lst [.int (t:Int)]])]=some (.dt (dKL (kl2 l)),true):=by
 show(uK _).bind _=_;rw[tH,Qa,Af];refine⟨by rw[jg];exact FR h,?_⟩
 unfold kl2;rw[Ya,Ya];lia
theorem xM {ns:List Int} (L:Ln ns) (hl:ns.length<=42):gF [IL ns]=some (.bl true,false):=by
 have l2:=L.two;obtain⟨m,hm⟩:∃m,ns.length=m+1:=⟨ns.length-1,by lia⟩
 obtain⟨t4,i4,ed⟩:=FN (ns:=ns) (t5:=.e) (t6:=.e) hl;have eo:=FQ L hl i4;have op:=eX (ns:=ns) (by lia)
 have oi:=eX (ns:=idl ns.length) (by rw[gU];lia)
 have di:DO (W (idl ns.length)) (W (idl ns.length))=.dt (dKL (kl2 (List.range m))):=by
  rw[hm,FK];unfold kl2 dKL;rw[Xe];rfl
 rw[di]at oi;rw[xJ]at eo ed op;have lr:VF22.fLR1 (ad (fCB cu (ad (aJ 0) aq)) aq) [.v (IL ns),.o (IL ns),.v (PL (W ns)),.v (.dt (dKL (klW ns))),.e,.e,.o (.lst (iD (toZ (fV ns))))]=some (.f (IL (idl ns.length)),[.v (IL ns),.o (IL ns),.v (PL (W ns)),.v (.dt (dKL (klW ns))),.e,.e,.o (.lst (iD (toZ (fV ns))))]):=by
  have r:=w5 (fa:=ad (fCB cu (ad (aJ 0) aq)) aq) (st:=[.v (IL ns),.o (IL ns),.v (PL (W ns)),.v (.dt (dKL (klW ns))),.e,.e,.o (.lst (iD (toZ (fV ns))))]) (j:=(ns.length:Int)) (rs:=[.d (.int (ns.length:Int))]) (s:=[.v (IL ns),.o (IL ns),.v (PL (W ns)),.v (.dt (dKL (klW ns))),.e,.e,.o (.lst (iD (toZ (fV ns))))]) (ay (bD rfl rfl (dZ ns)) rfl) rfl ⟨by lia,by lia,by lia,by lia,by lia⟩
  have e1:((ns.length:Int)-0).toNat=ns.length:=by lia
  have e2:rng 0 ns.length=(idl ns.length).map D.int:=by
   unfold rng idl;rw[Xe];exact Zg fun t _=>by show D.int (0+(t:Int))=D.int (t:Int);rw[BN]
  rw[e1,e2]at r;exact r
 have cl:=ck (fg:=gN 0) (fc:=gp) (fe:=ij) (k:=1) (fun t:Nat=>D.int (0+(t:Int))) (fun t:Nat=>D.tup [.tup [.int (t:Int),.int ((t+1:Nat):Int)],.lst [.int (t:Int)]]) [.e] (List.range m) fun t _=>by
  rw[BN];exact⟨[.v (.int (t:Int))],[.v (.int (t:Int))],.d (.tup [.tup [.int (t:Int),.int ((t+1:Nat):Int)],.lst [.int (t:Int)]]),[.v (.int (t:Int))],[.v (.int (t:Int))],rfl,rfl,cJ (ay (cJ rfl rfl (by simp)) (ay (jQ rfl rfl (by simp)) rfl)) rfl (by simp),rfl,rfl⟩
 refine bF (o:=.rt (.d (.bl true)) [.v (IL ns),.v (IL (idl ns.length)),.v (PL (W ns)),.v (.dt (dKL (klW ns))),.e,.e,.o (.lst (iD (toZ (fV ns))))]) rfl ?_ rfl;refine aB (s:=[.v (IL ns),.o (IL ns),.e,.e,.e,.e,.e]) rfl ?_;refine aB (s:=[.v (IL ns),.o (IL ns),.o (PL (W ns)),.e,.e,.e,.e]) (gu (cz rfl rfl (uO L.nm (by lia) (by lia))) rfl) ?_
 refine aB (s:=[.v (IL ns),.o (IL ns),.o (PL (W ns)),.o (.dt []),.e,.e,.e]) rfl ?_;refine aB ed (aB eo ?_);refine aB (s:=[.v (IL ns),.o (IL ns),.v (PL (W ns)),.v (.dt (dKL (klW ns))),.e,.e,.o (.lst (iD (toZ (fV ns))))]) (fk (aP (ao (uI rfl op (FL hl)) rfl rfl rfl (mw true)) rfl) rfl) ?_
 refine aB (s:=[.v (IL ns),.o (IL (idl ns.length)),.v (PL (W ns)),.v (.dt (dKL (klW ns))),.e,.e,.o (.lst (iD (toZ (fV ns))))]) (Fi lr rfl rfl rfl (z':=IL (idl ns.length)) (by
  show(if (ns.map D.int).length+((idl ns.length).map D.int).length<=1000000 then some (D.lst ((idl ns.length).map D.int)) else none)=_
  rw[Af (by rw[Ya,Ya,gU];lia)])) ?_
 refine dM (ao (cz rfl rfl oi) (bD (ay (cN (ds:=(List.range m).map fun t:Nat=>D.int (0+(t:Int))) (s1:=[.v (IL ns),.v (IL (idl ns.length)),.v (PL (W ns)),.v (.dt (dKL (klW ns))),.e,.e,.o (.lst (iD (toZ (fV ns))))]) ?_ (qp (n:=1000) (by rw[Ya,Zc];lia) rfl) cl) rfl) rfl (FU BF (by rw[Zc];lia))) rfl rfl (mw false))
 have r:=gL (fa:=ad (fOp fj (fCB cu (ad (aJ 0) aq)) (fC (.int 1))) aq) (st:=[.v (IL ns),.v (IL (idl ns.length)),.v (PL (W ns)),.v (.dt (dKL (klW ns))),.e,.e,.o (.lst (iD (toZ (fV ns))))]) (j:=(m:Int)) (rs:=[.d (.int (m:Int))]) (s1:=[.v (IL ns),.v (IL (idl ns.length)),.v (PL (W ns)),.v (.dt (dKL (klW ns))),.e,.e,.o (.lst (iD (toZ (fV ns))))]) (ay (ao (bD rfl rfl (dZ ns)) rfl rfl rfl (z:=(.int (m:Int),false)) (by show some (D.int ((ns.length:Int) - 1),false)=_;rw[show(ns.length:Int) - 1=m by lia])) rfl) rfl ⟨by lia,by lia⟩
 exact r
theorem zm (ns:List Int):GW [.fl (ns.map D.int)]=some (.bl true,false):=by
 obtain⟨sf,el,s1,s2,rfl,_⟩:=br (fg:=gN 1) (B:=s9) (fun t:Nat=>D.int (0+(t:Int))) (List.range 3) (fun _ st=>∃s1 s2,st=[.v (.fl (ns.map D.int)),s1,s2]/\s1.isIo=false/\s2.isIo=false)
  (by
   rintro gone t rest st ha ⟨s1,s2,rfl,i1,i2⟩;obtain⟨rfl,ht⟩:=fw ha;obtain⟨δ,e1,f1⟩:=yY ns (k:=0+(t:Int)) (by lia) (by lia)
   obtain⟨d,δ2,e2,d0,d1,f2⟩:=dE (n:=4) f1 (by decide) (by decide)
   obtain⟨x,ex,hx⟩:∃x,bIx (.lst [.int 16,.int 16,.int 16,.int 40]) (.int d)=some (.int x,false)/\(x=16∨x=40):=by
    have:d=0∨d=1∨d=2∨d=3:=by lia
    rcases this with rfl|rfl|rfl|rfl
    ·exact⟨16,rfl,.inl rfl⟩
    ·exact⟨16,rfl,.inl rfl⟩
    ·exact⟨16,rfl,.inl rfl⟩
    ·exact⟨40,rfl,.inr rfl⟩
   obtain⟨y,ey,y0,y1⟩:∃y,bIx (.lst [.int x,.int 9,.int 5]) (.int (0+(t:Int)))=some (.int y,false)/\5<=y/\y<=40:=by
    have:t=0∨t=1∨t=2:=by lia
    rcases this with rfl|rfl|rfl
    ·exact⟨x,rfl,by lia,by lia⟩
    ·exact⟨9,rfl,by lia,by lia⟩
    ·exact⟨5,rfl,by lia,by lia⟩
   obtain⟨ms,δ3,e3,N,l1,f3⟩:=rP f2 y0 y1;have er:=xM N l1;refine⟨[.v (.fl (ns.map D.int)),.v (.int (0+(t:Int))),s2],[.v (.fl (ns.map D.int)),.v (.int (0+(t:Int))),.o δ3],cU (t:=s1) rfl i1,?_,_,_,rfl,rfl,rfl⟩;refine aB (s:=[.v (.fl (ns.map D.int)),.v (.int (0+(t:Int))),.o δ]) (gu (cz rfl rfl e1) (gR (t:=s2) rfl i2)) ?_
   exact fk (jF (c:=true) (aP (cQ (ay (fq rfl rfl (ay (ao (jQ (ay (ao (jQ rfl rfl (by simp)) (fq rfl rfl rfl rfl rfl rfl e2) rfl rfl ex) rfl) rfl (by simp)) rfl rfl rfl ey) rfl) rfl rfl rfl e3) rfl) rfl er rfl) rfl)) rfl)
  (List.range 3) [] [.v (.fl (ns.map D.int)),.e,.e] rfl ⟨.e,.e,rfl,rfl,rfl⟩
 exact bF (o:=.rt (.d (.bl true)) [.v (.fl (ns.map D.int)),s1,s2]) rfl (aB (cj (gL (j:=3) rfl rfl ⟨by decide,by decide⟩) el) rfl) rfl
end K42
namespace K42
open PySem L2 VF VF22
section
variable (P:Program) (w:World) (K:Ab) (mg:Str->Option Value) (base:Heap)
abbrev jx:=Cal P w K mg base "spans_from" 1 ["numbers","begin"] (spV K fR)
abbrev my:=Cal P w K mg base "spans_of" 2 ["numbers"] (spV K iI)
abbrev ik:=Cal P w K mg base "falls_apart" 1 ["span","spans"] (spV K eL)
abbrev il:=Cal P w K mg base "whole_spans" 3 ["numbers"] (spV K eM)
abbrev qD:=Cal P w K mg base "within" 1 ["span","other"] (spV K jk)
abbrev ki:=Cal P w K mg base "points_in" 1 ["span"] (spV K cS)
abbrev qE:=Cal P w K mg base "own_of" 2 ["span","wholes"] (spV K me)
abbrev jy:=Cal P w K mg base "own_points" 4 ["numbers"] (spV K bV)
abbrev mz:=Cal P w K mg base "_law_deal" 1 ["_law_script","_law_at"] (spV K iK)
abbrev fW:=Cal P w K mg base "_law_draw" 1 ["_law_deal_here","_law_many"] (pB K bw)
abbrev im:=Cal P w K mg base "_law_farther" 1 ["_law_number","_law_by"] (spV K cc)
abbrev jz:=Cal P w K mg base "_law_put_in" 2 ["_law_numbers_here","_law_at","_law_block_here"] (spV K dD)
abbrev kj:=Cal P w K mg base "_law_block" 2 ["_law_deal_here","_law_most"] (pB K cT)
abbrev ip:=Cal P w K mg base "_law_numbers" 3 ["_law_deal_here","_law_most"] (pB K eO)
abbrev iq:=Cal P w K mg base "_law_is_span" 1 ["_law_numbers_here","_law_s","_law_e"] (spV K eP)
abbrev jA:=Cal P w K mg base "_law_wholes" 2 ["_law_numbers_here"] (spV K fT)
abbrev km:=Cal P w K mg base "_law_owned" 1 ["_law_wholes_here","_law_span"] (spV K gE)
abbrev kn:=Cal P w K mg base "_law_right" 5 ["_law_numbers_here"] (spV K gF)
end
section
variable {P:Program} {w:World} {K:Ab} {mg:Str->Option Value} {base:Heap}
theorem mO (M:Md mg):Bd' P w K mg base "spans_from" iL ["numbers","begin","found","low","high","place","full"] 0 jh:=fun hr=>⟨_,(ak (be 2 sc_sspansfrom.nd (cF ae))
   (ak (be 3 sc_sspansfrom.nd (aH eZ rfl M.n_abs AE (ap (bd (aE (K:=K) rfl) (pv 0) (pv 1) (fun _ _=>rfl)) ae)))
   (ak (be 4 sc_sspansfrom.nd (pv 3))
   (ak (bX An rfl (eY rfl M.n_range (ap (aK (bm (K:=K) rfl) (pv 1) ah) (ap (aH (bA (K:=K) rfl) rfl M.n_len Ar (ap (pv 0) ae)) ae))) (bN 5 sc_sspansfrom.nd) (ak (be 3 sc_sspansfrom.nd (aH (mV rfl) rfl M.n_min Df (ap (pv 3) (ap (aH eZ rfl M.n_abs AE (ap (bd (aE (K:=K) rfl) (pv 0) (pv 5) (fun _ _=>rfl)) ae)) ae))))
   (ak (be 4 sc_sspansfrom.nd (aH (tQ rfl) rfl M.n_max PyProof.Rows.boot_max (ap (pv 4) (ap (aH eZ rfl M.n_abs AE (ap (bd (aE (K:=K) rfl) (pv 0) (pv 5) (fun _ _=>rfl)) ae)) ae))))
   (ak (be 6 sc_sspansfrom.nd (bZ (jH (K:=K) rfl hr.units) (aK cB (pv 4) (pv 3)) (aK cB (pv 5) (pv 1)) (bq _)))
   (aw (b7 (PW.pt (uY (gi (pv 6)) (rX (bx (v7 (K:=K) rfl hr.units) (cE (ap (bd (aE (K:=K) rfl) (pv 0) (pv 1) (fun _ _=>rfl)) (ap (bd (aE (K:=K) rfl) (pv 0) (pv 5) (fun _ _=>rfl)) ae))) (cE (ap (cE (ap (pv 3) (ap (pv 4) ae))) (ap (cE (ap (o6 kY (pv 4)) (ap (o6 kY (pv 3)) ae))) ae))) (by with_unfolding_all rfl))))) (aw (cL (gZ Ap Av Au cG (pv 2) (ap (cE (ap (pv 1) (ap (pv 5) ae))) ae)))) bH))))))
   (aw (bp (pv 2))))))),
  (aC (aO (cf af))
   (aC (aO (bz jG (ac (ag aX (aa 0) (aa 1)) af)))
   (aC (aO (aa 3))
   (aC (ci (i7 (ac (ag bn (aa 1) (ai _)) (ac (bz cy (ac (aa 0) af)) af))) (aW 5) (aC (aO (bz sC (ac (aa 3) (ac (bz jG (ac (ag aX (aa 0) (aa 5)) af)) af))))
   (aC (aO (bz yw (ac (aa 4) (ac (bz jG (ac (ag aX (aa 0) (aa 5)) af)) af))))
   (aC (aO (ag jI (ag cI (aa 4) (aa 3)) (ag cI (aa 5) (aa 1))))
   (cr (sy (jZ (aa 6)) (bj (ag v8 (cH (ac (ag aX (aa 0) (aa 1)) (ac (ag aX (aa 0) (aa 5)) af))) (cH (ac (cH (ac (aa 3) (ac (aa 4) af))) (ac (cH (ac (pA lw (aa 4)) (ac (pA lw (aa 3)) af))) af)))))) (d9 (n4 dG (ac (cH (ac (aa 1) (ac (aa 5) af))) af))) bU)))))
   (bB (aa 2))))))⟩
theorem qF (M:Md mg) (c0:jx P w K mg base):Bd' P w K mg base "spans_of" mj ["numbers","spans","begin","span"] 1 lY:=fun hr=>⟨_,(ak (be 1 sc_sspansof.nd iU)
   (ak (bX An rfl (dF rfl M.n_range (ap (aH (bA (K:=K) rfl) rfl M.n_len Ar (ap (pv 0) ae)) ae)) (bN 2 sc_sspansof.nd) (aw (bX An rfl (cX (K:=K) rfl (bc c0 hr rfl (ap (pv 0) (ap (pv 2) ae)))) (bN 3 sc_sspansof.nd) (aw (fz gf (ir (pv 1) (pv 3) (fu (d8 hr))))))))
   (aw (bp (pv 1))))),
  (aC (aO jc)
   (aC (ci (gJ (ac (bz cy (ac (aa 0) af)) af)) (aW 2) (ci (cY (cq (ac (aa 0) (ac (aa 2) af)))) (aW 3) (iz ft (jY _) (aa 3))))
   (bB (aa 1))))⟩
theorem mB (M:Md mg):Bd' P w K mg base "falls_apart" eC ["span","spans"] 0 hV:=fun hr=>⟨_,(aw (bp (aH (qc (K:=K) rfl rfl) rfl M.n_any Dg (ap (dB (eG (osc:=(aA eC)) (ON:=["span","spans"]) (N:=["place","spans","span"]) (k:=1) (caps:=[1,0]) (by decide +kernel) rfl rfl) rfl (eY rfl M.n_range (ap (aK (bm (K:=K) rfl) (bd (aE (K:=K) rfl) (pv 0) ah (fun _ _=>rfl)) ah) (ap (bd (aE (K:=K) rfl) (pv 0) ah (fun _ _=>rfl)) ae))) (fun _ _ _ _=>(bN 0 (by show(["place","spans","span"]:List Str).Nodup;decide +kernel))) (fun _ _ _ _=>fE) (fun _ _ _ _=>(kT (bZ (oq (d8 hr)) (cE (ap (bd (aE (K:=K) rfl) (pv 2) ah (fun _ _=>rfl)) (ap (pv 0) ae))) (pv 1) (by with_unfolding_all rfl)) (nN (bZ (oq (d8 hr)) (cE (ap (pv 0) (ap (bd (aE (K:=K) rfl) (pv 2) ah (fun _ _=>rfl)) ae))) (pv 1) (by with_unfolding_all rfl)))))) ae)))),
  (bB (bz wE (ac (cM (i7 (ac (ag bn (ag aX (aa 0) (ai _)) (ai _)) (ac (ag aX (aa 0) (ai _)) af))) (aW 0) (by decide) iy (iZ (ag (lP false) (cH (ac (ag aX (aa 2) (ai _)) (ac (aa 0) af))) (aa 1)) (ag (lP false) (cH (ac (aa 0) (ac (ag aX (aa 2) (ai _)) af))) (aa 1)))) af)))⟩
theorem mC (M:Md mg) (c1:my P w K mg base) (c2:ik P w K mg base):Bd' P w K mg base "whole_spans" eE ["numbers","spans"] 2 hW:=fun hr=>⟨_,(ak (be 1 sc_swholespans.nd (bc c1 hr rfl (ap (pv 0) ae)))
   (aw (bp (dB (eG (osc:=(aA eE)) (ON:=["numbers","spans"]) (N:=["span","spans"]) (k:=1) (caps:=[1]) (by decide +kernel) rfl rfl) rfl (cX (K:=K) rfl (aH (rl (K:=K) rfl rfl hr) rfl M.n_sorted boot_sorted (ap (pv 1) ae))) (fun _ _ _ _=>(bN 0 (by show(["span","spans"]:List Str).Nodup;decide +kernel))) (fun _ _ _ _=>nX (kS (gi (bc c2 hr rfl (ap (pv 0) (ap (pv 1) ae)))))) (fun _ _ _ _=>(pv 0)))))),
  (aC (aO (cq (ac (aa 0) af)))
   (bB (cM (cY (bz wC (ac (aa 1) af))) (aW 0) (by decide) (iX (jZ (dJ (ac (aa 0) (ac (aa 1) af))))) (aa 0))))⟩
theorem uT (M:Md mg):Bd' P w K mg base "within" oF ["span","other"] 0 qj:=fun hr=>⟨_,(aw (bp (kT (bZ (lD (K:=K) rfl hr.units) (pv 0) (pv 1) (bq _)) (kT (bZ mU (bd (aE (K:=K) rfl) (pv 1) ah (fun _ _=>rfl)) (bd (aE (K:=K) rfl) (pv 0) ah (fun _ _=>rfl)) (bq _)) (nN (bZ mU (bd (aE (K:=K) rfl) (pv 0) ah (fun _ _=>rfl)) (bd (aE (K:=K) rfl) (pv 1) ah (fun _ _=>rfl)) (bq _))))))),
  (bB (iZ (ag lE (aa 0) (aa 1)) (iZ (ag nc (ag aX (aa 1) (ai _)) (ag aX (aa 0) (ai _))) (ag nc (ag aX (aa 0) (ai _)) (ag aX (aa 1) (ai _))))))⟩
theorem oR (M:Md mg):Bd' P w K mg base "points_in" jN ["span"] 0 j9:=fun hr=>⟨_,(aw (bp (cn (dQ rfl) rfl M.n_list ce (ap (lS rfl M.n_range (ap (bd (aE (K:=K) rfl) (pv 0) ah (fun _ _=>rfl)) (ap (bd (aE (K:=K) rfl) (pv 0) ah (fun _ _=>rfl)) ae))) ae)))),
  (bB (rm (ac (ag aX (aa 0) (ai _)) (ac (ag aX (aa 0) (ai _)) af))))⟩
theorem uU (M:Md mg) (c4:qD P w K mg base) (c5:ki P w K mg base):Bd' P w K mg base "own_of" oG ["span","wholes","taken","inner","point"] 1 qk:=fun hr=>⟨_,(ak (be 2 sc_sownof.nd vc)
   (ak (bX An rfl (cX (K:=K) rfl (pv 1)) (bN 3 sc_sownof.nd) (aw (b7 (gi (bc c4 hr rfl (ap (pv 3) (ap (pv 0) ae)))) (aw (bX An rfl (cX (K:=K) rfl (bc c5 hr rfl (ap (pv 3) ae))) (bN 4 sc_sownof.nd) (aw (fz gf (ir (pv 2) (pv 4) (fu (d8 hr))))))) bH)))
   (aw (bp (dB (eG (osc:=(aA oG)) (ON:=["span","wholes","taken","inner","point"]) (N:=["point","taken"]) (k:=1) (caps:=[2]) (by decide +kernel) rfl rfl) rfl (cX (K:=K) rfl (bc c5 hr rfl (ap (pv 0) ae))) (fun _ _ _ _=>(bN 0 (by show(["point","taken"]:List Str).Nodup;decide +kernel))) (fun _ _ _ _=>nX (bx (ux (d8 hr)) (pv 0) (pv 1) (by with_unfolding_all rfl))) (fun _ _ _ _=>(pv 0))))))),
  (aC (aO wz)
   (aC (ci (cY (aa 1)) (aW 3) (cr (jZ (dJ (ac (aa 3) (ac (aa 0) af)))) (ci (cY (cq (ac (aa 3) af))) (aW 4) (iz ft (jY _) (aa 4))) bU))
   (bB (cM (cY (cq (ac (aa 0) af))) (aW 0) (by decide) (bj (ag (lP true) (aa 0) (aa 1))) (aa 0)))))⟩
theorem mP (M:Md mg) (c3:il P w K mg base) (c6:qE P w K mg base):Bd' P w K mg base "own_points" iM ["numbers","wholes","own","span"] 3 jl:=fun hr=>⟨_,(ak (be 1 sc_sownpoints.nd (bc c3 hr rfl (ap (pv 0) ae)))
   (ak (be 2 sc_sownpoints.nd iU)
   (ak (bX An rfl (cX (K:=K) rfl (pv 1)) (bN 3 sc_sownpoints.nd) (aw (fz (bc c6 hr rfl (ap (pv 3) (ap (pv 1) ae))) (ir (pv 2) (pv 3) (fu (d8 hr))))))
   (aw (bp (pv 2)))))),
  (aC (aO (cq (ac (aa 0) af)))
   (aC (aO jc)
   (aC (ci (cY (aa 1)) (aW 3) (iz ft (cq (ac (aa 3) (ac (aa 1) af))) (aa 3)))
   (bB (aa 2)))))⟩
theorem qG (M:Md mg):Bd' P w K mg base "_law_deal" rE ["_law_script","_law_at","_law_cell","_law_own"] 0 mf:=fun hr=>⟨_,(ak (be 2 sc_sLdeal.nd (aK (bm (K:=K) rfl) (aK cw ah (pv 1)) ah))
   (ak (b7 (bx q8 (pv 1) (aH (bA (K:=K) rfl) rfl M.n_len Ar (ap (pv 0) ae)) (bq _)) (aw (be 2 sc_sLdeal.nd (bd (aE (K:=K) rfl) (pv 0) (pv 1) (fun _ _=>rfl)))) (aw (b7 (bx u5 (aH (bA (K:=K) rfl) rfl M.n_len Ar (ap (pv 0) ae)) ah (bq _)) (aw (be 2 sc_sLdeal.nd (aK (bm (K:=K) rfl) (aK cw (aK fB (bd (aE (K:=K) rfl) (pv 0) (aK fB (pv 1) (aH (bA (K:=K) rfl) rfl M.n_len Ar (ap (pv 0) ae))) (fun _ _=>rfl)) ah) ah) (aK cw ah (pv 1))))) bH)))
   (ak (be 3 sc_sLdeal.nd ah)
   (ak (b7 (bx zr (pv 2) (aK DB ah ah) (bq _)) (aw (be 3 sc_sLdeal.nd (pv 2))) bH)
   (aw (bp (cF (ap (pv 3) (ap (aK (bm (K:=K) rfl) (aK fB (aK (bm (K:=K) rfl) (aK cw (aK fB (pv 2) ah) ah) (aK cw ah (pv 1))) ah) ah) ae))))))))),
  (aC (aO (ag bn (ag cx (ai _) (aa 1)) (ai _)))
   (aC (cr (bj (ag q9 (aa 1) (bz cy (ac (aa 0) af)))) (aO (ag aX (aa 0) (aa 1))) (cr (bj (ag vG (bz cy (ac (aa 0) af)) (ai _))) (aO (ag bn (ag cx (ag fH (ag aX (aa 0) (ag fH (aa 1) (bz cy (ac (aa 0) af)))) (ai _)) (ai _)) (ag cx (ai _) (aa 1)))) bU))
   (aC (aO (ai _))
   (aC (cr (bj (ag zB (aa 2) (ag Ee (ai _) (ai _)))) (aO (aa 2)) bU)
   (bB (cf (ac (aa 3) (ac (ag bn (ag fH (ag bn (ag cx (ag fH (aa 2) (ai _)) (ai _)) (ag cx (ai _) (aa 1))) (ai _)) (ai _)) af))))))))⟩
theorem qH (M:Md mg):Bd' P w K mg base "_law_draw" rF ["_law_deal_here","_law_many","_law_digit","_law_one"] 0 mi:=fun hr=>⟨_,(ak (b7 (bx u5 (bd (aE (K:=K) rfl) (pv 0) ah (fun _ _=>rfl)) ah (bq _)) (ak (be 2 sc_sLdraw.nd (aK fB (bd (aE (K:=K) rfl) (pv 0) ah (fun _ _=>rfl)) (pv 1)))
   (ak (fz (aK r6 (bd (aE (K:=K) rfl) (pv 0) ah (fun _ _=>rfl)) (pv 1)) (ir (pv 0) ah set_list))
   (aw (bp (pv 2))))) bH)
   (ak (be 3 sc_sLdraw.nd (aK fB (aK cw (bd (aE (K:=K) rfl) (pv 0) ah (fun _ _=>rfl)) ah) ah))
   (ak (fz (aK (bm (K:=K) rfl) (aK fB (aK (bm (K:=K) rfl) (aK cw (pv 3) ah) ah) ah) ah) (ir (pv 0) ah set_list))
   (aw (bp (aK fB (aK (bm (K:=K) rfl) (aK cw (aK fB (aK cw (pv 3) (pv 3)) ah) ah) (aK r6 (bd (aE (K:=K) rfl) (pv 0) ah (fun _ _=>rfl)) ah)) (pv 1))))))),
  (aC (cr (bj (ag vG (ag aX (aa 0) (ai _)) (ai _))) (aC (aO (ag fH (ag aX (aa 0) (ai _)) (aa 1)))
   (aC (iz ni (ag vF (ag aX (aa 0) (ai _)) (aa 1)) (ai _))
   (bB (aa 2)))) bU)
   (aC (aO (ag fH (ag cx (ag aX (aa 0) (ai _)) (ai _)) (ai _)))
   (aC (iz ni (ag bn (ag fH (ag bn (ag cx (aa 3) (ai _)) (ai _)) (ai _)) (ai _)) (ai _))
   (bB (ag fH (ag bn (ag cx (ag fH (ag cx (aa 3) (aa 3)) (ai _)) (ai _)) (ag vF (ag aX (aa 0) (ai _)) (ai _))) (aa 1))))))⟩
theorem mD (M:Md mg):Bd' P w K mg base "_law_farther" jO ["_law_number","_law_by"] 0 hZ:=fun hr=>⟨_,(ak (b7 (bx q8 (pv 0) ah (bq _)) (aw (bp (aK cB (pv 0) (pv 1)))) bH)
   (aw (bp (aK (bm (K:=K) rfl) (pv 0) (pv 1))))),
  (aC (cr (bj (ag q9 (aa 0) (ai _))) (bB (ag cI (aa 0) (aa 1))) bU)
   (bB (ag bn (aa 0) (aa 1))))⟩
theorem mQ (M:Md mg) (c10:im P w K mg base):Bd' P w K mg base "_law_put_in" jo ["_law_numbers_here","_law_at","_law_block_here","_law_here","_law_found","_law_number"] 1 jm:=fun hr=>⟨_,(ak (be 3 sc_sLputin.nd (bd (aE (K:=K) rfl) (pv 0) (pv 1) (fun _ _=>rfl)))
   (ak (be 4 sc_sLputin.nd (cF ae))
   (ak (bX An rfl (cX (K:=K) rfl (pv 0)) (bN 5 sc_sLputin.nd) (aw (b7 (bx u5 (aH eZ rfl M.n_abs AE (ap (pv 5) ae)) (aH eZ rfl M.n_abs AE (ap (pv 3) ae)) (bq _)) (aw (cL (gZ Ap Av Au cG (pv 4) (ap (bc c10 hr rfl (ap (pv 5) (ap (bd (aE (K:=K) rfl) (pv 2) (o6 kY ah) (fun _ _=>rfl)) ae))) ae)))) (aw (b7 (bx (vN (K:=K) rfl hr.units) (pv 5) (pv 3) (bq _)) (aw (cL (gZ Ap Av Au cG (pv 4) (ap (pv 5) ae)))) (aw (b7 (bx zr (pv 3) ah (bq _)) (aw (cL (gZ Ap CU CT (lC (K:=K) rfl rfl) (pv 4) (ap (dB (eG (osc:=(aA jo)) (ON:=["_law_numbers_here","_law_at","_law_block_here","_law_here","_law_found","_law_number"]) (N:=["_law_part","_law_here"]) (k:=1) (caps:=[3]) (by decide +kernel) rfl rfl) rfl (cX (K:=K) rfl (pv 2)) (fun _ _ _ _=>(bN 0 (by show(["_law_part","_law_here"]:List Str).Nodup;decide +kernel))) (fun _ _ _ _=>fE) (fun _ _ _ _=>(bc c10 hr rfl (ap (pv 0) (ap (pv 1) ae))))) ae)))) (aw (cL (gZ Ap CU CT (lC (K:=K) rfl rfl) (pv 4) (ap (dB (eG (osc:=(aA jo)) (ON:=["_law_numbers_here","_law_at","_law_block_here","_law_here","_law_found","_law_number"]) (N:=["_law_part","_law_here"]) (k:=1) (caps:=[3]) (by decide +kernel) rfl rfl) rfl (yN (K:=K) rfl rfl rfl M.n_reversed (pv 2)) (fun _ _ _ _=>(bN 0 (by show(["_law_part","_law_here"]:List Str).Nodup;decide +kernel))) (fun _ _ _ _=>fE) (fun _ _ _ _=>(aK cB ah (bc c10 hr rfl (ap (pv 0) (ap (aK cB ah (pv 1)) ae)))))) ae)))))))))))
   (aw (bp (pv 4)))))),
  (aC (aO (ag aX (aa 0) (aa 1)))
   (aC (aO (cf af))
   (aC (ci (cY (aa 0)) (aW 5) (cr (bj (ag vG (bz jG (ac (aa 5) af)) (bz jG (ac (aa 3) af)))) (d9 (n4 dG (ac (dJ (ac (aa 5) (ac (ag aX (aa 2) (pA lw (ai _))) af))) af))) (cr (bj (ag ro_neA (aa 5) (aa 3))) (d9 (n4 dG (ac (aa 5) af))) (cr (bj (ag zB (aa 3) (ai _))) (d9 (n4 nl (ac (cM (cY (aa 2)) (aW 0) (by decide) iy (dJ (ac (aa 0) (ac (aa 1) af)))) af))) (d9 (n4 nl (ac (cM (yO (aa 2)) (aW 0) (by decide) iy (ag cI (ai _) (dJ (ac (aa 0) (ac (ag cI (ai _) (aa 1)) af))))) af)))))))
   (bB (aa 4)))))⟩
theorem oS (M:Md mg) (c9:fW P w K mg base):Bd' P w K mg base "_law_block" oH ["_law_deal_here","_law_most","_law_many","_law_left","_law_sides","_law_found","_law_k"] 1 kc:=fun hr=>⟨_,(ak (be 2 sc_sLblock.nd (aK (bm (K:=K) rfl) ah (bc c9 hr rfl (ap (pv 0) (ap (pv 1) ae)))))
   (ak (be 3 sc_sLblock.nd (cn (dQ rfl) rfl M.n_list ce (ap (lS rfl M.n_range (ap ah (ap (aK (bm (K:=K) rfl) (pv 2) ah) ae))) ae)))
   (ak (be 4 sc_sLblock.nd (cF (ap ah (ap (aK cB ah (aK cw ah (cn tR rfl M.n_int uc (ap (bZ (rd (K:=K) rfl hr.units) (bc c9 hr rfl (ap (pv 0) (ap ah ae))) ah (bq _)) ae)))) ae))))
   (ak (be 5 sc_sLblock.nd (cF (ap ah ae)))
   (ak (bX An rfl (dF rfl M.n_range (ap (pv 2) ae)) (bN 6 sc_sLblock.nd) (aw (cL (gZ Ap Av Au cG (pv 5) (ap (aK cw (gZ Ap PySem.F.slot_list_pop PySem.F.type_list_pop vk (pv 3) (ap (bc c9 hr rfl (ap (pv 0) (ap (aH (bA (K:=K) rfl) rfl M.n_len Ar (ap (pv 3) ae)) ae))) ae)) (bd (aE (K:=K) rfl) (pv 4) (bc c9 hr rfl (ap (pv 0) (ap ah ae))) (fun _ _=>rfl))) ae)))))
   (aw (bp (aK (bm (K:=K) rfl) (pv 5) (cF (ap (aK (bm (K:=K) rfl) (pv 2) ah) ae)))))))))),
  (aC (aO (ag bn (ai _) (fX (ac (aa 1) af))))
   (aC (aO (rm (ac (ai _) (ac (ag bn (aa 2) (ai _)) af))))
   (aC (aO (cf (ac (ai _) (ac (ag cI (ai _) (ag cx (ai _) (bz yy (ac (ag ro_eqA (fX (ac (ai _) af)) (ai _)) af)))) af))))
   (aC (aO (cf (ac (ai _) af)))
   (aC (ci (gJ (ac (aa 2) af)) (aW 6) (d9 (n4 dG (ac (ag cx (n4 vK (ac (fX (ac (bz cy (ac (aa 3) af)) af)) af)) (ag aX (aa 4) (fX (ac (ai _) af)))) af))))
   (bB (ag bn (aa 5) (cf (ac (ag bn (aa 2) (ai _)) af)))))))))⟩
theorem mE (M:Md mg) (c9:fW P w K mg base) (c11:jz P w K mg base) (c12:kj P w K mg base):Bd' P w K mg base "_law_numbers" jP ["_law_deal_here","_law_most","_law_numbers_here","_law_k","_law_room","_law_block_here","_law_at"] 2 ia:=fun hr=>⟨_,(ak (be 2 sc_sLnumbers.nd (cF (ap ah (ap ah ae))))
   (ak (b7 (bx (rd (K:=K) rfl hr.units) (bc c9 hr rfl (ap (pv 0) (ap ah ae))) ah (bq _)) (aw (be 2 sc_sLnumbers.nd (bc c12 hr rfl (ap (pv 0) (ap (aH (mV rfl) rfl M.n_min Df (ap (pv 1) (ap ah ae))) ae))))) bH)
   (ak (bX An rfl (dF rfl M.n_range (ap (aK (bm (K:=K) rfl) ah (bc c9 hr rfl (ap (pv 0) (ap ah ae)))) ae)) (bN 3 sc_sLnumbers.nd) (ak (be 4 sc_sLnumbers.nd (aK cB (aK (bm (K:=K) rfl) (pv 1) ah) (aH (bA (K:=K) rfl) rfl M.n_len Ar (ap (pv 2) ae))))
   (ak (be 5 sc_sLnumbers.nd (bc c12 hr rfl (ap (pv 0) (ap (rD (rq (aE (K:=K) rfl) (oA (hU ah (hU ah (hU (pv 1) oz rfl) rfl) rfl)) (bc c9 hr rfl (ap (pv 0) (ap ah ae))) (fun _ _=>rfl))) ae))))
   (ak (be 6 sc_sLnumbers.nd (bc c9 hr rfl (ap (pv 0) (ap (aH (bA (K:=K) rfl) rfl M.n_len Ar (ap (pv 2) ae)) ae))))
   (aw (b7 (bx mU (aK cB (aH (bA (K:=K) rfl) rfl M.n_len Ar (ap (pv 5) ae)) ah) (pv 4) (bq _)) (aw (be 2 sc_sLnumbers.nd (bc c11 hr rfl (ap (pv 2) (ap (pv 6) (ap (pv 5) ae)))))) bH))))))
   (aw (bp (pv 2)))))),
  (aC (aO (cf (ac (ai _) (ac (ai _) af))))
   (aC (cr (bj (ag ro_eqA (fX (ac (ai _) af)) (ai _))) (aO (fX (ac (bz sC (ac (aa 1) (ac (ai _) af))) af))) bU)
   (aC (ci (gJ (ac (ag bn (ai _) (fX (ac (ai _) af))) af)) (aW 3) (aC (aO (ag cI (ag bn (aa 1) (ai _)) (bz cy (ac (aa 2) af))))
   (aC (aO (fX (ac (ag aX (cf (ac (ai _) (ac (ai _) (ac (aa 1) af)))) (fX (ac (ai _) af))) af)))
   (aC (aO (fX (ac (bz cy (ac (aa 2) af)) af)))
   (cr (bj (ag nc (ag cI (bz cy (ac (aa 5) af)) (ai _)) (aa 4))) (aO (cq (ac (aa 2) (ac (aa 6) (ac (aa 5) af))))) bU)))))
   (bB (aa 2)))))⟩
theorem mF (M:Md mg):Bd' P w K mg base "_law_is_span" jp ["_law_numbers_here","_law_s","_law_e","_law_some"] 0 ib:=fun hr=>⟨_,(ak (be 3 sc_sLisspan.nd (aH (lN (K:=K) rfl hr) rfl M.n_sorted boot_sorted (ap (dB (eG (osc:=(aA jp)) (ON:=["_law_numbers_here","_law_s","_law_e","_law_some"]) (N:=["_law_number"]) (k:=1) (caps:=[]) (by decide +kernel) rfl rfl) rfl (cX (K:=K) rfl (ve (Et (K:=K) rfl) (pv 0) (sk (pv 1)) (sk (aK (bm (K:=K) rfl) (pv 2) ah)))) (fun _ _ _ _=>(bN 0 (by show(["_law_number"]:List Str).Nodup;decide +kernel))) (fun _ _ _ _=>fE) (fun _ _ _ _=>(aH eZ rfl M.n_abs AE (ap (pv 0) ae)))) ae)))
   (ak (b7 (bx (lD (K:=K) rfl hr.units) (pv 3) (cn (dQ rfl) rfl M.n_list ce (ap (lS rfl M.n_range (ap (bd (aE (K:=K) rfl) (pv 3) ah (fun _ _=>rfl)) (ap (aK (bm (K:=K) rfl) (aK cB (aK (bm (K:=K) rfl) (bd (aE (K:=K) rfl) (pv 3) ah (fun _ _=>rfl)) (pv 2)) (pv 1)) ah) ae))) ae)) (bq _)) (aw (bp gf)) bH)
   (ak (b7 (bx (jH (K:=K) rfl hr.units) (bd (aE (K:=K) rfl) (pv 0) (pv 1) (fun _ _=>rfl)) (bd (aE (K:=K) rfl) (pv 3) ah (fun _ _=>rfl)) (bq _)) (aw (bp (bZ (jH (K:=K) rfl hr.units) (bd (aE (K:=K) rfl) (pv 0) (pv 2) (fun _ _=>rfl)) (bd (aE (K:=K) rfl) (pv 3) (o6 kY ah) (fun _ _=>rfl)) (bq _)))) bH)
   (aw (bp (kT (bZ (jH (K:=K) rfl hr.units) (bd (aE (K:=K) rfl) (pv 0) (pv 1) (fun _ _=>rfl)) (aK cB ah (bd (aE (K:=K) rfl) (pv 3) (o6 kY ah) (fun _ _=>rfl))) (bq _)) (nN (bZ (jH (K:=K) rfl hr.units) (bd (aE (K:=K) rfl) (pv 0) (pv 2) (fun _ _=>rfl)) (aK cB ah (bd (aE (K:=K) rfl) (pv 3) ah (fun _ _=>rfl))) (bq _))))))))),
  (aC (aO (bz p6 (ac (cM (cY (vJ yt (aa 0) (pJ (aa 1)) (pJ (ag bn (aa 2) (ai _))))) (aW 0) (by decide) iy (bz jG (ac (aa 0) af))) af)))
   (aC (cr (bj (ag lE (aa 3) (rm (ac (ag aX (aa 3) (ai _)) (ac (ag bn (ag cI (ag bn (ag aX (aa 3) (ai _)) (aa 2)) (aa 1)) (ai _)) af))))) (bB (jY _)) bU)
   (aC (cr (bj (ag jI (ag aX (aa 0) (aa 1)) (ag aX (aa 3) (ai _)))) (bB (ag jI (ag aX (aa 0) (aa 2)) (ag aX (aa 3) (pA lw (ai _))))) bU)
   (bB (iZ (ag jI (ag aX (aa 0) (aa 1)) (ag cI (ai _) (ag aX (aa 3) (pA lw (ai _))))) (ag jI (ag aX (aa 0) (aa 2)) (ag cI (ai _) (ag aX (aa 3) (ai _)))))))))⟩
theorem mR (M:Md mg) (c14:iq P w K mg base):Bd' P w K mg base "_law_wholes" js ["_law_numbers_here","_law_spans","_law_s","_law_e","_law_found"] 1 jn:=fun hr=>⟨_,(ak (be 1 sc_sLwholes.nd iU)
   (ak (bX An rfl (dF rfl M.n_range (ap (aH (bA (K:=K) rfl) rfl M.n_len Ar (ap (pv 0) ae)) ae)) (bN 2 sc_sLwholes.nd) (aw (bX An rfl (eY rfl M.n_range (ap (aK (bm (K:=K) rfl) (pv 2) ah) (ap (aH (bA (K:=K) rfl) rfl M.n_len Ar (ap (pv 0) ae)) ae))) (bN 3 sc_sLwholes.nd) (aw (b7 (gi (bc c14 hr rfl (ap (pv 0) (ap (pv 2) (ap (pv 3) ae))))) (aw (fz gf (ir (pv 1) (cE (ap (pv 2) (ap (pv 3) ae))) (fu (d8 hr))))) bH)))))
   (ak (be 4 sc_sLwholes.nd (cF ae))
   (ak (bX An rfl (ou (pv 1)) (yA (K:=K) (n:=2) rfl rfl (o0 (bN 2 sc_sLwholes.nd) (o0 (bN 3 sc_sLwholes.nd) xS))) (aw (b7 (kS (gi (aH (qc (K:=K) rfl rfl) rfl M.n_any Dg (ap (dB (eG (osc:=(aA js)) (ON:=["_law_numbers_here","_law_spans","_law_s","_law_e","_law_found"]) (N:=["_law_m","_law_spans","_law_s","_law_e"]) (k:=1) (caps:=[1,2,3]) (by decide +kernel) rfl rfl) rfl (eY rfl M.n_range (ap (aK (bm (K:=K) rfl) (pv 2) ah) (ap (pv 3) ae))) (fun _ _ _ _=>(bN 0 (by show(["_law_m","_law_spans","_law_s","_law_e"]:List Str).Nodup;decide +kernel))) (fun _ _ _ _=>fE) (fun _ _ _ _=>(kT (bZ (oq (d8 hr)) (cE (ap (pv 2) (ap (pv 0) ae))) (pv 1) (by with_unfolding_all rfl)) (nN (bZ (oq (d8 hr)) (cE (ap (pv 0) (ap (pv 3) ae))) (pv 1) (by with_unfolding_all rfl)))))) ae)))) (aw (cL (gZ Ap Av Au cG (pv 4) (ap (cE (ap (pv 2) (ap (pv 3) ae))) ae)))) bH)))
   (aw (bp (pv 4))))))),
  (aC (aO jc)
   (aC (ci (gJ (ac (bz cy (ac (aa 0) af)) af)) (aW 2) (ci (i7 (ac (ag bn (aa 2) (ai _)) (ac (bz cy (ac (aa 0) af)) af))) (aW 3) (cr (jZ (dJ (ac (aa 0) (ac (aa 2) (ac (aa 3) af))))) (iz ft (jY _) (cH (ac (aa 2) (ac (aa 3) af)))) bU)))
   (aC (aO (cf af))
   (aC (ci (yJ (aa 1)) (D6 (pD (aW 2) (pD (aW 3) yf))) (cr (iX (jZ (bz wE (ac (cM (i7 (ac (ag bn (aa 2) (ai _)) (ac (aa 3) af))) (aW 0) (by decide) iy (iZ (ag (lP false) (cH (ac (aa 2) (ac (aa 0) af))) (aa 1)) (ag (lP false) (cH (ac (aa 0) (ac (aa 3) af))) (aa 1)))) af)))) (d9 (n4 dG (ac (cH (ac (aa 2) (ac (aa 3) af))) af))) bU))
   (bB (aa 4))))))⟩
theorem oT (M:Md mg):Bd' P w K mg base "_law_owned" kM ["_law_wholes_here","_law_span","_law_found","_law_k","_law_inner"] 0 ke:=fun hr=>⟨_,(ak (be 2 sc_sLowned.nd (cF ae))
   (ak (bX An rfl (eY rfl M.n_range (ap (bd (aE (K:=K) rfl) (pv 1) ah (fun _ _=>rfl)) (ap (bd (aE (K:=K) rfl) (pv 1) ah (fun _ _=>rfl)) ae))) (bN 3 sc_sLowned.nd) (ak (D3 4 (eG (osc:=(aA kM)) (ON:=["_law_wholes_here","_law_span","_law_found","_law_k","_law_inner"]) (N:=["_law_one","_law_k","_law_span"]) (k:=1) (caps:=[3,1]) (by decide +kernel) rfl rfl) rfl sc_sLowned.nd (cX (K:=K) rfl (pv 0)) (fun _ _ _ _=>(bN 0 (by show(["_law_one","_law_k","_law_span"]:List Str).Nodup;decide +kernel))) (fun _ _ _ _=>nX (PW.pt (uY (ED (bd (aE (K:=K) rfl) (pv 2) ah (fun _ _=>rfl)) (jJ mU (bd (aE (K:=K) rfl) (pv 0) ah (fun _ _=>rfl)) (jJ mU (pv 1) (jJ q8 (bd (aE (K:=K) rfl) (pv 0) ah (fun _ _=>rfl)) (uo mU (bd (aE (K:=K) rfl) (pv 2) ah (fun _ _=>rfl))))))) (rX (bx (lD (K:=K) rfl hr.units) (pv 0) (pv 2) (bq _)))))) (fun _ _ _ _=>(pv 0)))
   (aw (b7 (bx (jH (K:=K) rfl hr.units) (pv 4) (cF ae) (bq _)) (aw (cL (gZ Ap Av Au cG (pv 2) (ap (pv 3) ae)))) bH))))
   (aw (bp (pv 2))))),
  (aC (aO (cf af))
   (aC (ci (i7 (ac (ag aX (aa 1) (ai _)) (ac (ag aX (aa 1) (ai _)) af))) (aW 3) (aC (aO (cM (cY (aa 0)) (aW 0) (by decide) (sy (bj (EE (ag aX (aa 2) (ai _)) (lF nc (ag aX (aa 0) (ai _)) (lF nc (aa 1) (lF q9 (ag aX (aa 0) (ai _)) (wd nc (ag aX (aa 2) (ai _)))))))) (bj (ag lE (aa 0) (aa 2)))) (aa 0)))
   (cr (bj (ag jI (aa 4) (cf af))) (d9 (n4 dG (ac (aa 3) af))) bU)))
   (bB (aa 2))))⟩
theorem oU (M:Md mg) (c7:jy P w K mg base) (c15:jA P w K mg base) (c16:km P w K mg base):Bd' P w K mg base "_law_right" jt ["_law_numbers_here","_law_handed","_law_wholes_here","_law_due","_law_span","_law_found","_law_points"] 4 kg:=fun hr=>⟨_,(ak (be 1 sc_sLright.nd (cn (re (K:=K) rfl rfl) rfl M.n_list ce (ap (pv 0) ae)))
   (ak (be 2 sc_sLright.nd (bc c15 hr rfl (ap (pv 0) ae)))
   (ak (be 3 sc_sLright.nd iU)
   (ak (bX An rfl (cX (K:=K) rfl (pv 2)) (bN 4 sc_sLright.nd) (aw (fz (bc c16 hr rfl (ap (pv 2) (ap (pv 4) ae))) (ir (pv 3) (pv 4) (fu (d8 hr))))))
   (ak (be 5 sc_sLright.nd (zU (bc c7 hr rfl (ap (pv 1) ae)))) (ak (b7 (PW.pt (uZ (kS (gi (aH (fJ (K:=K) rfl) rfl M.n_isinstance boot_isinstance (ap (pv 5) (ap (vW rfl M.n_dict lh) ae))))) (uZ (bx (wI (K:=K) rfl hr.units) (pv 5) (pv 3) (bq _)) (uX (bx (lD (K:=K) rfl hr.units) (pv 1) (pv 0) (bq _)))))) (aw (bp gf)) bH) (ak (be 6 sc_sLright.nd (cF ae)) (ak (bX An rfl (ou (pv 5)) (bN 4 sc_sLright.nd) (aw (be 6 sc_sLright.nd (aK (bm (K:=K) rfl) (pv 6) (jd (d8 hr) (pv 5) (pv 4) (fun _ _=>rfl)))))) (ak (b7 (bx (lD (K:=K) rfl hr.units) (aH (lN (K:=K) rfl hr) rfl M.n_sorted boot_sorted (ap (pv 6) ae)) (cn (dQ rfl) rfl M.n_list ce (ap (qf rfl M.n_range (ap (aK cB (aH (bA (K:=K) rfl) rfl M.n_len Ar (ap (pv 0) ae)) ah) ae)) ae)) (bq _)) (aw (bp gf)) bH) (ak (bX An rfl (ou (pv 5)) (bN 4 sc_sLright.nd) (ak (b7 (PW.pt (uZ (kS (gi (aH (fJ (K:=K) rfl) rfl M.n_isinstance boot_isinstance (ap (jd (d8 hr) (pv 5) (pv 4) (fun _ _=>rfl)) (ap (vW rfl M.n_list ce) ae))))) (uX (bx (v7 (K:=K) rfl hr.units) gf (dB (eG (osc:=(aA jt)) (ON:=["_law_numbers_here","_law_handed","_law_wholes_here","_law_due","_law_span","_law_found","_law_points"]) (N:=["_law_k"]) (k:=1) (caps:=[]) (by decide +kernel) rfl rfl) rfl (cX (K:=K) rfl (jd (d8 hr) (pv 5) (pv 4) (fun _ _=>rfl))) (fun _ _ _ _=>(bN 0 (by show(["_law_k"]:List Str).Nodup;decide +kernel))) (fun _ _ _ _=>fE) (fun _ _ _ _=>(aH (fJ (K:=K) rfl) rfl M.n_isinstance boot_isinstance (ap (pv 0) (ap (vW rfl M.n_bool qR) ae))))) (by with_unfolding_all rfl))))) (aw (bp gf)) bH) (aw (cL (gZ Ap Av Au cG (jd (d8 hr) (pv 5) (pv 4) (fun _ _=>rfl)) (ap ah ae rfl)))))) (ak (cL (DV PySem.F.plainAttrs_dict C1 PySem.F.type_dict_clear yQ (pv 5)))
   (ak (b7 (bx (wI (K:=K) rfl hr.units) (zU (bc c7 hr rfl (ap (pv 1) ae))) (pv 3) (bq _)) (aw (bp gf)) bH)
   (ak (fz (cn (dQ rfl) rfl M.n_list ce (ap (qf rfl M.n_range (ap (aH (bA (K:=K) rfl) rfl M.n_len Ar (ap (pv 0) ae)) ae)) ae)) (EZ (pv 1)))
   (aw (bp (bZ (Fb (K:=K) rfl hr.units) (bc c7 hr rfl (ap (pv 1) ae)) (cn (rC rfl hr.units) rfl M.n_dict lh (ap (dB (eG (osc:=(aA jt)) (ON:=["_law_numbers_here","_law_handed","_law_wholes_here","_law_due","_law_span","_law_found","_law_points"]) (N:=["_law_k"]) (k:=1) (caps:=[]) (by decide +kernel) rfl rfl) rfl (dF rfl M.n_range (ap (aK cB (aH (bA (K:=K) rfl) rfl M.n_len Ar (ap (pv 0) ae)) ah) ae)) (fun _ _ _ _=>(bN 0 (by show(["_law_k"]:List Str).Nodup;decide +kernel))) (fun _ _ _ _=>fE) (fun _ _ _ _=>(cE (ap (cE (ap (pv 0) (ap (aK (bm (K:=K) rfl) (pv 0) ah) ae))) (ap (cF (ap (pv 0) ae)) ae))))) ae)) (bq _))))))))))))))))),
  (aC (aO (bz vT (ac (aa 0) af)))
   (aC (aO (cq (ac (aa 0) af)))
   (aC (aO jc)
   (aC (ci (cY (aa 2)) (aW 4) (iz ft (cq (ac (aa 2) (ac (aa 4) af))) (aa 4)))
   (Ff (m:=3) (qT (iX (jZ (bz jE (ac (aa 5) (ac (vq fun _ _=>.ty _) af))))) (qT (bj (ag (rz true) (aa 5) (aa 3))) (bj (ag lE (aa 1) (aa 0))))) (cf af) (ag bn (aa 6) (ag on (aa 5) (aa 4))) (bj (ag lE (bz p6 (ac (aa 6) af)) (wH (ac (ag cI (bz cy (ac (aa 0) af)) (ai _)) af)))) (qT (iX (jZ (bz jE (ac (ag on (aa 5) (aa 4)) (ac (vq fun _ _=>.ty _) af))))) (bj (ag v8 (jY _) (cM (cY (ag on (aa 5) (aa 4))) (aW 0) (by decide) iy (bz jE (ac (aa 0) (ac (vq fun _ _=>.ty _) af)))))))
   (aC (cr (bj (ag (rz true) wQ (aa 3))) (bB (jY _)) bU)
   (aC (E8 (wH (ac (bz cy (ac (aa 0) af)) af)))
   (bB (ag (rz false) (cq (ac (aa 1) af)) (bz wU (ac (cM (gJ (ac (ag cI (bz cy (ac (aa 0) af)) (ai _)) af)) (aW 0) (by decide) iy (cH (ac (cH (ac (aa 0) (ac (ag bn (aa 0) (ai _)) af))) (ac (cf (ac (aa 0) af)) af)))) af)))))))))))⟩
theorem FV (M:Md mg) (c8:mz P w K mg base) (c9:fW P w K mg base) (c13:ip P w K mg base) (c17:kn P w K mg base):Bd' P w K mg base "law" Fg ["_law_script","_law_k","_law_deal_here"] 5 zY:=fun hr=>⟨_,(ak (bX An rfl (dF rfl M.n_range (ap ah ae)) (bN 1 sc_slaw.nd) (ak (be 2 sc_slaw.nd (bc c8 hr rfl (ap (pv 0) (ap (pv 1) ae))))
   (aw (b7 (kS (gi (bc c17 hr rfl (ap (bc c13 hr rfl (ap (pv 2) (ap (rD (rq (aE (K:=K) rfl) (oA (hU (rD (rq (aE (K:=K) rfl) yU (bc c9 hr rfl (ap (pv 2) (ap ah ae))) (fun _ _=>rfl))) (hU ah (hU ah oz rfl) rfl) rfl)) (pv 1) (fun _ _=>rfl))) ae))) ae)))) (aw (bp gf)) bH))))
   (aw (bp gf))),
  (aC (ci (gJ (ac (ai _) af)) (aW 1) (aC (aO (cq (ac (aa 0) (ac (aa 1) af))))
   (cr (iX (jZ (dJ (ac (fX (ac (ag aX (cf (ac (ag aX (cf (ac (ai _) (ac (ai _) (ac (ai _) (ac (ai _) af))))) (fX (ac (ai _) af))) (ac (ai _) (ac (ai _) af)))) (aa 1)) af)) af)))) (bB (jY _)) bU)))
   (bB (jY _)))⟩
end
set_option maxHeartbeats 0 in
theorem all_mk {l:PySem.W.OpenLaw} {w:World} {K:Ab} {h:Heap} {mg:Str->Option Value} {fa:Addr} (X:K.In h) (G:h.Ns mainGlobals mg) (hfa:mg "law"=some (.ref fa))
  (h1:FH K "spans_from" iL) (h2:FH K "spans_of" mj) (h3:FH K "falls_apart" eC) (h4:FH K "whole_spans" eE) (h5:FH K "within" oF) (h6:FH K "points_in" jN) (h7:FH K "own_of" oG) (h8:FH K "own_points" iM) (h9:FH K "_law_deal" rE) (h10:FH K "_law_draw" rF) (h11:FH K "_law_farther" jO) (h12:FH K "_law_put_in" jo) (h13:FH K "_law_block" oH) (h14:FH K "_law_numbers" jP) (h15:FH K "_law_is_span" jp) (h16:FH K "_law_wholes" js) (h17:FH K "_law_owned" kM) (h18:FH K "_law_right" jt) (h19:FH K "law" Fg)
  (z_abs:PySem.W.nsIn K mainGlobals "abs"=some none) (z_any:PySem.W.nsIn K mainGlobals "any"=some none) (z_bool:PySem.W.nsIn K mainGlobals "bool"=some none) (z_dict:PySem.W.nsIn K mainGlobals "dict"=some none) (z_int:PySem.W.nsIn K mainGlobals "int"=some none) (z_isinstance:PySem.W.nsIn K mainGlobals "isinstance"=some none) (z_len:PySem.W.nsIn K mainGlobals "len"=some none) (z_list:PySem.W.nsIn K mainGlobals "list"=some none) (z_max:PySem.W.nsIn K mainGlobals "max"=some none) (z_min:PySem.W.nsIn K mainGlobals "min"=some none) (z_range:PySem.W.nsIn K mainGlobals "range"=some none) (z_reversed:PySem.W.nsIn K mainGlobals "reversed"=some none) (z_sorted:PySem.W.nsIn K mainGlobals "sorted"=some none) :
  ∃fd:FuncData,(∀(s:Shared) (v:Value),BindsTo s fd ⟨[v],[]⟩ [("_law_script",v)])/\∀base:Heap,K.In base->base.Ns mainGlobals mg->FnOk l.prog w K mg base CX0 6 fa fd ["_law_script"] (sB K):=by
 have M:Md mg:=⟨Ao X G z_abs,Ao X G z_any,Ao X G z_bool,Ao X G z_dict,Ao X G z_int,Ao X G z_isinstance,Ao X G z_len,Ao X G z_list,Ao X G z_max,Ao X G z_min,Ao X G z_range,Ao X G z_reversed,Ao X G z_sorted⟩;refine h19.law X G hfa sc_slaw (fun _ _ _ _ _ _=>ar1 fun _=>rfl) zm fun base=>?_;have c0:jx l.prog w K mg base:=h1.cal X G sc_sspansfrom (fun _ _ _ _ _ _=>ar2 fun _ _=>rfl) (mO M);have c1:my l.prog w K mg base:=h2.cal X G sc_sspansof (fun _ _ _ _ _ _=>ar1 fun _=>rfl) (qF M c0);have c2:ik l.prog w K mg base:=h3.cal X G ml (fun _ _ _ _ _ _=>ar2 fun _ _=>rfl) (mB M);have c3:il l.prog w K mg base:=h4.cal X G sc_swholespans (fun _ _ _ _ _ _=>ar1 fun _=>rfl) (mC M c1 c2);have c4:qD l.prog w K mg base:=h5.cal X G rG (fun _ _ _ _ _ _=>ar2 fun _ _=>rfl) (uT M);have c5:ki l.prog w K mg base:=h6.cal X G oI (fun _ _ _ _ _ _=>ar1 fun _=>rfl) (oR M);have c6:qE l.prog w K mg base:=h7.cal X G sc_sownof (fun _ _ _ _ _ _=>ar2 fun _ _=>rfl) (uU M c4 c5);have c7:jy l.prog w K mg base:=h8.cal X G sc_sownpoints (fun _ _ _ _ _ _=>ar1 fun _=>rfl) (mP M c3 c6);have c8:mz l.prog w K mg base:=h9.cal X G sc_sLdeal (fun _ _ _ _ _ _=>ar2 fun _ _=>rfl) (qG M);have c9:fW l.prog w K mg base:=h10.calI X G sc_sLdraw (fun _ _ _ _ _ _=>ar2 fun _ _=>rfl) (qH M);have c10:im l.prog w K mg base:=h11.cal X G oJ (fun _ _ _ _ _ _=>ar2 fun _ _=>rfl) (mD M);have c11:jz l.prog w K mg base:=h12.cal X G sc_sLputin (fun _ _ _ _ _ _=>ar3 fun _ _ _=>rfl) (mQ M c10);have c12:kj l.prog w K mg base:=h13.calI X G sc_sLblock (fun _ _ _ _ _ _=>ar2 fun _ _=>rfl) (oS M c9);have c13:ip l.prog w K mg base:=h14.calI X G sc_sLnumbers (fun _ _ _ _ _ _=>ar2 fun _ _=>rfl) (mE M c9 c11 c12);have c14:iq l.prog w K mg base:=h15.cal X G sc_sLisspan (fun _ _ _ _ _ _=>ar3 fun _ _ _=>rfl) (mF M);have c15:jA l.prog w K mg base:=h16.cal X G sc_sLwholes (fun _ _ _ _ _ _=>ar1 fun _=>rfl) (mR M c14);have c16:km l.prog w K mg base:=h17.cal X G sc_sLowned (fun _ _ _ _ _ _=>ar2 fun _ _=>rfl) (oT M);have c17:kn l.prog w K mg base:=h18.cal X G sc_sLright (fun _ _ _ _ _ _=>ar1 fun _=>rfl) (oU M c7 c15 c16);intro _ _ _ _ _ _ _;exact FV M c8 c9 c13 c17
end K42
open PySem PySem.W PyProof.Rows
set_option maxRecDepth 100000 in
set_option maxHeartbeats 0 in
theorem PySem.Challenge.cw_strandwright_k42_own_points_holds : PySem.Challenge.rw_strandwright_k42_own_points.Holds := by
 w_on;o_law;k_head;(case hw=>w_witness2)
 k_fill
 refine VF.walkL (l:=PySem.Challenge.rw_strandwright_k42_own_points) (k:=6) rfl rfl ⟨rfl,by decide,by decide⟩ (fun w h Y=>PySem.W.kIn_of Y) ?F
 case F =>
  intro w mg fa h KX G hmg;refine' K42.all_mk KX G hmg (VF.fh ?a1 ?l1 ?c1 ?k1) (VF.fh ?a2 ?l2 ?c2 ?k2) (VF.fh ?a3 ?l3 ?c3 ?k3) (VF.fh ?a4 ?l4 ?c4 ?k4) (VF.fh ?a5 ?l5 ?c5 ?k5) (VF.fh ?a6 ?l6 ?c6 ?k6) (VF.fh ?a7 ?l7 ?c7 ?k7) (VF.fh ?a8 ?l8 ?c8 ?k8) (VF.fh ?a9 ?l9 ?c9 ?k9) (VF.fh ?a10 ?l10 ?c10 ?k10) (VF.fh ?a11 ?l11 ?c11 ?k11) (VF.fh ?a12 ?l12 ?c12 ?k12) (VF.fh ?a13 ?l13 ?c13 ?k13) (VF.fh ?a14 ?l14 ?c14 ?k14) (VF.fh ?a15 ?l15 ?c15 ?k15) (VF.fh ?a16 ?l16 ?c16 ?k16) (VF.fh ?a17 ?l17 ?c17 ?k17) (VF.fh ?a18 ?l18 ?c18 ?k18) (VF.fh ?a19 ?l19 ?c19 ?k19) ?z_abs ?z_any ?z_bool ?z_dict ?z_int ?z_isinstance ?z_len ?z_list ?z_max ?z_min ?z_range ?z_reversed ?z_sorted
  all_goals try k_is

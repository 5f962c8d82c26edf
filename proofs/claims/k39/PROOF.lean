import PyProof.Rows.All
import Wide.All
import OpenK.AllK
import Wide.FinOn
import Lean
import PyProof.EqAt
import PyProof.EqKinds
import PyProof.TupleCall
import KE.KRevIter
import KE.KUnpack
import KE.KIntText
import PyProof.ExcInit
import PyProof.ExcClass2
import PyProof.ExcBaseAll.ValueError
import PyProof.InstStore
import PyProof.NsDelKeeps
import PyProof.ExcAttrAll.ValueError
import PyProof.InstStoreFacts
import KE.KTryMore
import PySem.Challenge.RW_strandwright_k39_numbers_by_places
set_option maxHeartbeats 2000000
set_option Elab.async false
set_option linter.all false
set_option maxRecDepth 100000
set_option genSizeOfSpec false
namespace PySem.W.Fast
def tw5512240632287797052:=0
def tw18244709775784182014:=0
def tw14181221956029498170:=0
def tw14765401737870860439:=0
def tw12304280583808840030:=0
def tw11865214080875910970:=0
def tw16298506208482687775:=0
def tw15517854421743181260:=0
def tw7870721510534280327:=0
def tw3697218385057313442:=0
def tw9582670866670781725:=0
def tw4149695723653065563:=0
def tw173778502508255282:=0
def tw1822080480548652732:=0
def tw16212654078443594342:=0
def tw1814249317835860899:=0
def tw14745934847962577494:=0
def tw9874063478500450458:=0
def tw13231125296773439708:=0
def tw11487939507685629430:=0
def tw1931549919529377372:=0
def tw16143548106699904450:=0
def tw13745759138232448157:=0
def tw9572804864085425896:=0
def tw5147738023475918294:=0
def tw1932834560341330072:=0
def tw3059389551533919606:=0
def tw3151778143837780484:=0
def tw4647688490003720318:=0
def tw16868658092760606321:=0
def tw16087434855878267125:=0
def tw12273762533671707357:=0
def tw7396937541250329123:=0
def tw12836106373279044288:=0
def tw15916916712604386020:=0
def tw15066893647419826162:=0
def tw11181281337683788991:=0
def tw14825343472538614333:=0
def tw4290139030230306525:=0
def tw9048255621529649586:=0
end PySem.W.Fast
abbrev Aa:=@PySem.W.Frag
abbrev Ab:=@PySem.wpAny_bind
abbrev Ac:=@PySem.Heap.get?_push_of_some
abbrev Ad:=@if_pos
abbrev Ae:=@PySem.wpAny_pure
abbrev Af:=@decide_eq_false
abbrev Ag:=@if_neg
abbrev Ah:=@PySem.Heap.lt_size
abbrev Ai:=@decide_eq_true
abbrev Aj:=@PySem.Heap.get?_push_size
abbrev Ak:=@of_decide_eq_true
abbrev Al:=@PySem.AutoSeq1.wpAny_loadPart'
abbrev Am:=@PySem.W.mg_none_of
abbrev An:=@PySem.Heap.get?_update_other
abbrev Ao:=@PyProof.Rows.wpS_bind
abbrev Aq:=@PySem.wpAny_mono
abbrev Ar:=@PySem.W.kia_one
abbrev As:=@PySem.wpAny_newObj_type
abbrev At:=@PySem.wpAny_loadPart_at
abbrev Au:=@PySem.W.mg_of
abbrev Av:=@PySem.PassesOwn.never
abbrev Aw:=@PyProof.Rows.wpS_pure
abbrev Ax:=@PySem.Heap.get?_update_self
abbrev Ay:=@PySem.wpAny_callSpecial?_slot
abbrev Az:=@PyProof.Rows.callWith_type1
abbrev AA:=@PySem.mem_of_lookup
abbrev AB:=@PySem.wpAny_call_entry
abbrev AC:=@PySem.F.plainAttrs_list
abbrev AD:=@PySem.wpAny_holding
abbrev AE:=@PySem.wpAny_field
abbrev AF:=@PySem.wpAny_Call_Name_kw
abbrev AG:=@PySem.wpAny_truthy_bool
abbrev AH:=@PySem.codeAny_mono
abbrev AI:=@PySem.codeAny_call_builtin
abbrev AJ:=@PyProof.Rows.slot_tuple_getitem
abbrev AK:=@PySem.wpAny_isSubtype_exc
abbrev AL:=@PySem.wpAny_typeNameOfWhole_keyiter
abbrev AM:=@PySem.Obj.data_mapFields
abbrev AN:=@PySem.wpAny_setField
abbrev AO:=@Array.size_map
abbrev AQ:=@PySem.wpAny_getItem_str_slice
abbrev AR:=@PyProof.Rows.wpS_forRange
abbrev AT:=@PySem.Heap.size_push
abbrev AU:=@PyProof.Rows.boot_abs
abbrev AV:=@PySem.Obj.isFreed_of_fields
abbrev AW:=@Array.getElem?_toList
abbrev AX:=@PySem.wpAny_standAt
abbrev AY:=@List.getElem?_of_mem
abbrev AZ:=@List.getElem?_mapIdx
abbrev A0:=@PySem.wpAny_passesOwn
abbrev A1:=@PySem.wpAny_execs_nil
abbrev A2:=@List.length_reverse
abbrev A3:=@List.flatMap_append
abbrev A4:=@PySem.Heap.SameBut.update
abbrev A5:=@Array.toList_append
abbrev A6:=@PySem.wpAny_typeOf
abbrev A7:=@Nat.zero_add
abbrev A8:=@Nat.ne_of_gt
abbrev A9:=@Nat.le_of_lt
abbrev Ba:=@PySem.W.callWith_K
abbrev Bb:=@Nat.sub_add_cancel
abbrev Bc:=@List.zip_cons_cons
abbrev Be:=@PyProof.Rows.mul_one_list
abbrev Bg:=@List.getElem?_append_left
abbrev Bh:=@PySem.wpAny_pyIter_list
abbrev Bi:=@PySem.wpAny_pyIter_enum
abbrev Bj:=@PySem.sizeLine_eq
abbrev Bl:=@PySem.Str.length_append
abbrev Bm:=@Nat.lt_trichotomy
abbrev Bo:=@Nat.lt_succ_of_lt
abbrev Bp:=@List.Perm.mem_iff
abbrev Bq:=@PySem.F.type_list_extend
abbrev Br:=@PySem.F.slot_list_extend
abbrev Bs:=@PySem.F.args_tuple_add_2
abbrev Bt:=@List.all_cons
abbrev Bu:=@PySem.F.entry_tuple_add
abbrev Bv:=@Nat.not_lt_of_le
abbrev Bw:=@Nat.lt_of_not_le
abbrev Bx:=@Nat.le_of_not_lt
abbrev By:=@List.length_take
abbrev Bz:=@List.getElem?_cons_succ
abbrev BB:=@List.ext_getElem
abbrev BC:=@Array.size_range
abbrev BD:=@PySem.F.slot_tuple_add
abbrev BE:=@Nat.lt_trans
abbrev BF:=@List.flatMap_singleton
abbrev BG:=@PySem.Calls.callWith_builtin
abbrev BH:=@PySem.wpAny_stack_any
abbrev BI:=@PySem.wpAny_loadPart'
abbrev BJ:=@PySem.post_val_or_str
abbrev BK:=@PySem.F.slot_dict_get
abbrev BL:=@List.getElem?_reverse
abbrev BM:=@PyProof.Rows.wpS_mono
abbrev BN:=@PySem.Str.cps_append
abbrev BO:=@Nat.sub_le_sub_right
abbrev BP:=@Nat.le_succ
abbrev BQ:=@PySem.Heap.get?_none_of_le
abbrev BR:=@PySem.Calls.evalArgs_plain
abbrev BS:=@PyProof.Rows.lt_str
abbrev BT:=@List.filterMap_cons
abbrev BU:=@PySem.Heap.get?_update_ne
abbrev BV:=@PySem.wpAny_attempt
abbrev BW:=@PySem.wpAny_rule
abbrev BX:=@PySem.tupleKind_room_in1
abbrev BY:=@PySem.call_meets
abbrev BZ:=@PySem.SeqAt.EqAt.str_int
abbrev B0:=@PySem.SeqAt.EqAt.int_str
abbrev B1:=@PySem.Code.quiet_builtin
abbrev B2:=@PySem.Calls.spliced_cons
abbrev B3:=@Bool.false_eq_true
abbrev B4:=@PySem.wpAny_dictEntries
abbrev B5:=@PyProof.Rows.listItems_at
abbrev B6:=@PySem.Txt.slice_le
abbrev B7:=@PySem.W.kitx_list
abbrev B8:=@List.getElem?_map
abbrev B9:=@List.any_map
abbrev Ca:=@PySem.wpAny_execs_cons
abbrev Cb:=@PySem.noFill_tuple_add
abbrev Cc:=@Nat.not_le_of_lt
abbrev Cd:=@PySem.Heap.size_update
abbrev Ce:=@List.not_lt
abbrev Cf:=@PySem.wpAny_dictEpoch
abbrev Ch:=@Nat.min_eq_left
abbrev Ci:=@List.of_mem_zip
abbrev Cj:=@PySem.wpAny_letOwnedTupleGo_enum
abbrev Ck:=@PySem.wpAny_call
abbrev Cn:=@PySem.wpAny_Expr_any
abbrev Co:=@PySem.typeIs_str
abbrev Cq:=@PySem.SeqAt.RcNeAt.lists_lengths
abbrev Cr:=@List.getElem?_append_right
abbrev Cs:=@PySem.Calls.Name_function_global
abbrev Ct:=@List.getElem?_take_of_lt
abbrev Cu:=@List.eq_of_mem_replicate
abbrev Cv:=@Bool.false_or
abbrev Cw:=@PySem.F.args_dict_get_3
abbrev Cy:=@Nat.add_sub_cancel_left
abbrev Cz:=@List.getElem?_replicate
abbrev CB:=@decide_false
abbrev CC:=@PySem.W.cellsFrom_some
abbrev CD:=@PySem.F.plainAttrs_str
abbrev CF:=@PySem.F.entry_dict_get
abbrev CG:=@Nat.add_comm
abbrev CH:=@List.range_succ_eq_map
abbrev CJ:=@List.drop_eq_nil_of_le
abbrev CK:=@Int.zero_add
abbrev CL:=@PySem.F.type_list_pop
abbrev CM:=@PySem.F.slot_list_pop
abbrev CN:=@PyProof.Rows.boot_min
abbrev CO:=@Nat.le_of_ble_eq_true
abbrev CP:=@List.take_append_drop
abbrev CQ:=@List.lookup_cons_self
abbrev CS:=@List.count_cons_of_ne
abbrev Za:=@List.getElem?_eq_getElem
abbrev Ya:=@List.length_map
abbrev Xa:=@Option.bind_some
abbrev Wa:=@Nat.le_refl
abbrev Va:=@List.getElem?_eq_some_iff
abbrev Qa:=@List.size_toArray
abbrev Yb:=@List.length_append
abbrev Xb:=@B8
abbrev Wb:=@Nat.lt_of_lt_of_le
abbrev Vb:=@List.mem_singleton
abbrev Qb:=@Bool.false_ne_true
abbrev Zc:=@List.mem_cons_of_mem
abbrev Yc:=@List.length_cons
abbrev Xc:=@List.getD_eq_getElem?_getD
abbrev Wc:=@List.mem_cons_self
abbrev Vc:=@Array.length_toList
abbrev Qc:=@Nat.le_trans
abbrev Zd:=@List.map_cons
abbrev Yd:=@List.mem_of_getElem?
abbrev Xd:=@List.mem_cons
abbrev Wd:=@Cr
abbrev Vd:=@List.getElem?_eq_none
abbrev Qd:=@Option.map_eq_some_iff
abbrev Ze:=@Bg
abbrev Ye:=@List.map_append
abbrev Xe:=@List.mem_append_right
abbrev We:=@List.length_range
abbrev Ve:=@List.length_nil
abbrev Qe:=@Nat.ne_of_lt
abbrev Zf:=@B3
abbrev Yf:=@List.mem_map
abbrev Xf:=@List.nodup_cons
abbrev Wf:=@Int.eq_ofNat_of_zero_le
abbrev Vf:=@List.mem_append
abbrev Qf:=@List.append_nil
abbrev Zg:=@Bool.and_eq_true
abbrev Yg:=@Bool.eq_iff_iff
abbrev Xg:=@List.find?_cons
abbrev Wg:=@List.getElem_mem
abbrev Vg:=@Array.getElem?_eq_some_iff
abbrev Qg:=@List.map_congr_left
abbrev Zh:=@List.length_singleton
abbrev Yh:=@Nat.lt_irrefl
abbrev Xh:=@List.getElem?_drop
abbrev Wh:=@List.contains_cons
abbrev Vh:=@List.flatMap_cons
abbrev Qh:=@List.pairwise_map
abbrev Zi:=@List.length_replicate
abbrev Yi:=@List.map_map
abbrev Xi:=@List.mem_iff_getElem
abbrev Wi:=@List.mem_map_of_mem
abbrev Vi:=@List.perm_middle
abbrev Qi:=@List.mem_append_left
abbrev Zj:=@List.getElem?_set_ne
abbrev Yj:=@Cz
abbrev Xj:=@List.ext_getElem?
abbrev Wj:=@List.append_assoc
abbrev Vj:=@Nat.add_le_add_left
abbrev Qj:=@List.getElem?_range
abbrev Zk:=@Bool.or_true
abbrev Yk:=@Int.emod_lt_of_pos
abbrev Wk:=@List.pairwise_iff_getElem
abbrev Vk:=@Int.toNat_natCast
abbrev Qk:=@List.eq_nil_of_length_eq_zero
abbrev Zl:=@Nat.le_add_right
abbrev Yl:=@List.getElem?_set_self
abbrev Xl:=@Nat.lt_of_le_of_lt
abbrev Wl:=@List.map_singleton
abbrev Vl:=@Int.emod_nonneg
abbrev Ql:=@List.any_cons
abbrev Zm:=@List.getElem?_set
abbrev Ym:=@List.drop_eq_getElem_cons
abbrev Xm:=@Array.getElem?_eq_getElem
abbrev Wm:=@Nat.zero_le
abbrev Vm:=@List.length_drop
abbrev Qm:=@List.all_eq_true
abbrev Zn:=@Array.swapIfInBounds_def
abbrev Yn:=@Array.getElem?_map
abbrev Xn:=@List.take_of_length_le
abbrev Wn:=@List.count_append
namespace L2
open PySem PySem.Spec PyProof.Rows
abbrev Key:=Sum Int Str
def kK:Key->Value->Bool
 | .inl k,v=>Value.isInt k v
 | .inr x,v=>Value.isStrOf x v
def Hs(w:World):Key->Int
 | .inl k=>hashInt k
 | .inr x=>hashStr w x
theorem bn:∀{k:Key}{v:Value},kK k v=true->(∃i t,k=Sum.inl i/\v=Value.int i t)∨(∃x t,k=Sum.inr x/\v=Value.str x t)
 | .inl i,v,h=>by
  obtain⟨t,e⟩:=Value.isInt_shape (k:=i) (v:=v) h;exact .inl ⟨i,t,rfl,e⟩
 | .inr x,v,h=>by
  obtain⟨t,e⟩:=Value.isStrOf_shape (x:=x) (v:=v) h;exact .inr ⟨x,t,rfl,e⟩
theorem tF(i:Int)(t:Tok):kK (.inl i) (.int i t)=true:=by simp[kK,Value.isInt]
theorem tG(x:Str)(t:Tok):kK (.inr x) (.str x t)=true:=by simp[kK,Value.isStrOf]
theorem Dw(a b:Int):decide ((Sum.inl a:Key)=Sum.inl b)=(a == b):=by
 by_cases e:a=b
 ·subst e;simp
 ·have h:¬ (Sum.inl a:Key)=Sum.inl b:=fun q=>e (Sum.inl.inj q);rw[Af h];exact(beq_eq_false_iff_ne.mpr e).symm
theorem Dx(a b:Str):decide ((Sum.inr a:Key)=Sum.inr b)=decide (a=b):=by
 by_cases e:a=b
 ·subst e;simp
 ·have h:¬ (Sum.inr a:Key)=Sum.inr b:=fun q=>e (Sum.inr.inj q);rw[Af h,Af e]
theorem Dy(a:Int)(b:Str):decide ((Sum.inl a:Key)=Sum.inr b)=false:=Af (fun q=>nomatch q)
theorem Dz(a:Str)(b:Int):decide ((Sum.inr a:Key)=Sum.inl b)=false:=Af (fun q=>nomatch q)
def bp(prog:Program)(w:World):PySem.KeyKind prog w Key where
 is:=kK
 hash:=Hs w
 inj:=fun v a b ha hb=>by
  rcases bn ha with⟨i,t,rfl,rfl⟩|⟨x,t,rfl,rfl⟩
  ·rcases bn hb with⟨j,u,rfl,e⟩|⟨y,u,rfl,e⟩
   ·injection e with e1 _;rw[e1]
   ·exact nomatch e
  ·rcases bn hb with⟨j,u,rfl,e⟩|⟨y,u,rfl,e⟩
   ·exact nomatch e
   ·injection e with e1 _;rw[e1]
 byValue:=fun k v h=>by
  rcases bn h with⟨i,t,rfl,rfl⟩|⟨x,t,rfl,rfl⟩<;>rfl
 pyHash:=fun hv h=>by
  rcases bn hv with⟨i,t,rfl,rfl⟩|⟨x,t,rfl,rfl⟩
  ·exact wpAny_pyHash_int h
  ·exact wpAny_pyHash_str h
 eqBool:=fun hu hv h=>by
  rcases bn hu with⟨i,t,rfl,rfl⟩|⟨x,t,rfl,rfl⟩
  ·rcases bn hv with⟨j,u,rfl,rfl⟩|⟨y,u,rfl,rfl⟩
   ·rw[Dw]at h;exact wpAny_eqBool_int h
   ·rw[Dy]at h;exact B0 i t y u _ _ _ _ h
  ·rcases bn hv with⟨j,u,rfl,rfl⟩|⟨y,u,rfl,rfl⟩
   ·rw[Dz]at h;exact BZ x t j u _ _ _ _ h
   ·rw[Dx]at h;exact wpAny_eqBool_str h
 «strs»:=fun k x t v h=>by
  rcases bn h with⟨i,u,rfl,e⟩|⟨y,u,rfl,e⟩
  ·exact nomatch e
  ·injection e with e1 _
   subst e1;cases v<;>rfl
theorem oT(prog:Program)(w:World)(i:Int)(t:Tok):(bp prog w).is (.inl i) (.int i t)=true:=tF i t
theorem oU(prog:Program)(w:World)(x:Str)(t:Tok):(bp prog w).is (.inr x) (.str x t)=true:=tG x t
end L2
namespace L2
open PySem PySem.Spec PyProof.Rows
inductive V where
 | non|bl (b:Bool)|int (i:Int)|str (x:Str)|byt (b:Array UInt8)|flt (b:UInt64)|ref (a:Addr)|ty (n:String)
 deriving DecidableEq
def RelV:V->Value->Prop
 | .non,u=>u=Value.none
 | .bl b,u=>u=Value.bool b
 | .int i,u=>∃t,u=Value.int i t
 | .str x,u=>∃t,u=Value.str x t
 | .byt b,u=>∃t,u=Value.bytes b t
 | .flt b,u=>∃t,u=Value.float b t
 | .ref a,u=>u=Value.ref a
 | .ty n,u=>u=Value.type n
abbrev Vals:List V->List Value->Prop:=Paired RelV
theorem Vals.length{xs:List V}{us:List Value}(r:Vals xs us):xs.length=us.length:=Paired.length r
theorem Vals.get:∀{xs:List V}{us:List Value}{i:Nat}{x:V},Vals xs us->xs[i]?=some x->∃u,us[i]?=some u/\RelV x u
 | _,_,_,_,.nil,e=>by simp at e
 | _,_,0,_,.cons r _,e=>by simp at e;subst e;exact⟨_,rfl,r⟩
 | _,_,i+1,x,.cons _ t,e=>by
  obtain⟨u,h1,h2⟩:=Vals.get (i:=i) (x:=x) t (by simpa using e)
  exact⟨u,by simpa using h1,h2⟩
theorem Vals.set(r:RelV x u):∀{xs:List V}{us:List Value}(i:Nat),Vals xs us->Vals (xs.set i x) (us.set i u)
 | _,_,_,.nil=>.nil
 | _,_,0,.cons _ t=>.cons r t
 | _,_,i+1,.cons q t=>.cons q (Vals.set r i t)
theorem Vals.append:∀{xs ys:List V}{us ws:List Value},Vals xs us->Vals ys ws->Vals (xs++ys) (us++ws)
 | _,_,_,_,.nil,s=>s
 | _,_,_,_,.cons r t,s=>.cons r (Vals.append t s)
theorem Vals.take:∀{xs:List V}{us:List Value}(n:Nat),Vals xs us->Vals (xs.take n) (us.take n)
 | _,_,0,_=>.nil
 | _,_,_+1,.nil=>.nil
 | _,_,n+1,.cons r t=>.cons r (Vals.take n t)
theorem Vals.drop:∀{xs:List V}{us:List Value}(n:Nat),Vals xs us->Vals (xs.drop n) (us.drop n)
 | _,_,0,r=>r
 | _,_,_+1,.nil=>.nil
 | _,_,n+1,.cons _ t=>Vals.drop n t
def RelO:Option V->Option Value->Prop
 | some v,some u=>RelV v u
 | none,none=>True
 | _,_=>False
def KV{κ:Type}:List (κ×V)->List (κ×Value)->Prop:=Paired fun(p:κ×V) (q:κ×Value)=>p.1=q.1/\RelV p.2 q.2
def kV:Key->V
 | .inl i=>.int i
 | .inr x=>.str x
inductive HO where
  | lst (xs:List V)
  | tup (xs:List V)
  | dK (kvs:List (Key×V))|dT (ep:Nat×List Addr) (kvs:List (List Key×V))
  | set (S:Int->Bool) (n:Nat)
  | ins (C dx:Addr) (fs:List (Str×V))
  | own (x:Addr)
  | xd (fs:List (Str×V))
  | met (f x:Addr)
  | rng (lo hi:Int)
  | frz (o:Obj) (u:HO)
  | tbl (ps:Array Value)
  | ext (φ:Heap->Prop)
abbrev Hp:=Addr->Option HO
def upd(H:Hp)(a:Addr)(o:HO):Hp:=fun b=>if b=a then some o else H b
theorem ay:upd H a o a=some o:=by unfold upd;rw[Ad rfl]
theorem am(h:b≠a):upd H a o b=H b:=by unfold upd;rw[Ag h]
theorem F4{H:Hp}{a b:Addr}{o u:HO}(h:H a=some o)(h':H b=some u)(d:o≠u):a≠b:=by
 intro e;subst e;rw[h]at h';exact d (Option.some.inj h')
theorem aP{H:Hp}{a b:Addr}{o:HO}(h:H a=some o)(h':H b=none):a≠b:=by
 intro e;subst e;rw[h]at h';cases h'
section
variable (P:Program)(w:World)
def ObjOk(H:Hp)(h:Heap)(a:Addr):HO->Prop
 | .lst xs=>xs.length<=sizeLine/\∃(its:List Value)(n:Nat),Vals xs its/\h.get? a=some { cls:=.type "list",data:=.seq its.toArray n }
 | .tup xs=>xs.length<=sizeLine/\∃its:List Value,Vals xs its/\IsTup h a its.toArray
 | .dK kvs=>kvs.length<=sizeLine/\(a == sysModules)=false/\∃vs,KV kvs vs/\h.DictOf (bp P w) a vs
 | .dT ep kvs=>kvs.length<=sizeLine/\(a == sysModules)=false/\∃xs:List (List Key×Addr×Value),
   Paired (fun(p:List Key×V) (q:List Key×Addr×Value)=>p.1=q.1/\H q.2.1=some (.tup (p.1.map kV))/\RelV p.2 q.2.2) kvs xs /\
   xs.map (·.2.1)=ep.2/\∃o es,h.get? a=some o/\o.ExactDict/\o.data=.dict es ep.1/\es.toList=xs.map (entryOfKey (tupleKind (bp P w)))/\(xs.map (·.1)).Nodup
 | .set S n=>h.SetOf (intKind P w) a S n
 | .ins C dx fs=>H dx=some (.own a)/\fs.length<=1000/\dx≠a/\h.get? a=some (PySem.W.instObj C dx) /\
   ∃mA,h.Ns1 dx mA/\(∀f,RelO (fs.lookup f) (mA f))/\PySem.Within mA (fs.map (·.1))
 | .own _=>∃o,h.get? a=some o
 | .xd fs=>∃mA,h.Ns1 a mA/\∀f,RelO (fs.lookup f) (mA f)
 | .rng lo hi=>∃t u v,h.get? a=some { cls:=.type "range",data:=.fields #[.int lo t,.int hi u,.int 1 v] }
 | .frz o u=>h.get? a=some o/\ObjOk H h a u
 | .tbl ps=>h.get? a=some { cls:=.none,data:=.fields ps }
 | .met f x=>h.get? a=some (PySem.W.methodObj (.ref f) (.ref x))
 | .ext φ=>φ h/\(∃o,h.get? a=some o)/\∀h1 h2:Heap,φ h1->(∀o,h1.get? a=some o->h2.get? a=some o)->φ h2
def HOk(H:Hp)(h:Heap):Prop:=∀a o,H a=some o->ObjOk P w H h a o
end
section
variable {P:Program}{w:World}{H H':Hp}{h h':Heap}{a:Addr}{o:HO}
theorem ObjOk.lt(x:ObjOk P w H h a o):a<h.objs.size:=by
 cases o with
 | lst xs=>obtain⟨_,_,_,_,e⟩:=x;exact Ah e
 | tup xs=>obtain⟨_,_,_,p⟩:=x;exact p.lt
 | dK kvs=>obtain⟨_,_,_,_,o,_,_,e,_⟩:=x;exact Ah e
 | dT ep kvs=>obtain⟨_,_,_,_,_,o,_,e,_⟩:=x;exact Ah e
 | set S n=>obtain⟨o,_,_,_,e,_⟩:=x;exact Ah e
 | ins C dx fs=>obtain⟨_,_,_,e,_⟩:=x;exact Ah e
 | own y=>obtain⟨_,e⟩:=x;exact Ah e
 | xd fs=>obtain⟨_,⟨_,_,_,e,_⟩,_⟩:=x;exact Ah e
 | rng lo hi=>obtain⟨_,_,_,e⟩:=x;exact Ah e
 | frz ob u=>obtain⟨e,_⟩:=x;exact Ah e
 | tbl ps=>exact Ah (show h.get? a=some _ from x)
 | met f y=>exact Ah (show h.get? a=some _ from x)
 | ext φ=>obtain⟨_,⟨_,e⟩,_⟩:=x;exact Ah e
theorem Paired.mapP:∀{l₁:List α}{l₂:List β},Paired F l₁ l₂->(∀a b,F a b->G a b)->Paired G l₁ l₂
 | _,_,.nil,_=>.nil
 | _,_,.cons r t,f=>.cons (f _ _ r) (Paired.mapP t f)
theorem ObjOk.stay(x:ObjOk P w H h a o)(k:∀b u,(b=a∨H b=some (.own a))->h.get? b=some u->h'.get? b=some u)
  (ho:∀b,H b=some (.own a)->H' b=some (.own a))(ht:∀b xs,H b=some (.tup xs)->H' b=some (.tup xs)):ObjOk P w H' h' a o:=by
 induction o with
 | lst xs=>obtain⟨z,its,n,r,e⟩:=x;exact⟨z,its,n,r,k _ _ (.inl rfl) e⟩
 | tup xs=>obtain⟨z,its,r,ob,e,c⟩:=x;exact⟨z,its,r,ob,k _ _ (.inl rfl) e,c⟩
 | dK kvs=>obtain⟨z,y,vs,r,ob,es,ep,e,c⟩:=x;exact⟨z,y,vs,r,ob,es,ep,k _ _ (.inl rfl) e,c⟩
 | dT ep kvs =>
  obtain⟨z,y,xs,r,ra,ob,es,e,c⟩:=x;exact⟨z,y,xs,Paired.mapP r fun p q z=>⟨z.1,ht _ _ z.2.1,z.2.2⟩,ra,ob,es,k _ _ (.inl rfl) e,c⟩
 | set S n=>obtain⟨ob,es,ep,t,e,c⟩:=x;exact⟨ob,es,ep,t,k _ _ (.inl rfl) e,c⟩
 | ins C dx fs =>
  obtain⟨d,z,ne,e,mA,⟨od,es,ep,e2,c⟩,r⟩:=x;exact⟨ho _ d,z,ne,k _ _ (.inl rfl) e,mA,⟨od,es,ep,k _ _ (.inr d) e2,c⟩,r⟩
 | own y=>obtain⟨ob,e⟩:=x;exact⟨ob,k _ _ (.inl rfl) e⟩
 | xd fs=>obtain⟨mA,⟨od,es,ep,e,c⟩,r⟩:=x;exact⟨mA,⟨od,es,ep,k _ _ (.inl rfl) e,c⟩,r⟩
 | rng lo hi=>obtain⟨t,u,v,e⟩:=x;exact⟨t,u,v,k _ _ (.inl rfl) e⟩
 | frz ob u ih=>obtain⟨e,q⟩:=x;exact⟨k _ _ (.inl rfl) e,ih q⟩
 | tbl ps =>
  have e:h.get? a=some { cls:=.none,data:=.fields ps }:=x;show h'.get? a=some { cls:=.none,data:=.fields ps };exact k a _ (.inl rfl) e
 | met f y =>
  have e:h.get? a=some (PySem.W.methodObj (.ref f) (.ref y)):=x;show h'.get? a=some (PySem.W.methodObj (.ref f) (.ref y));exact k a _ (.inl rfl) e
 | ext φ=>obtain⟨p,⟨o,e⟩,st⟩:=x;exact⟨st _ _ p fun o q=>k _ _ (.inl rfl) q,⟨o,k _ _ (.inl rfl) e⟩,st⟩
theorem HOk.lt(x:HOk P w H h)(e:H a=some o):a<h.objs.size:=(x a o e).lt
theorem HOk.fresh(x:HOk P w H h)(e:h.objs.size<=a):H a=none:=by
 cases q:H a with
 | none=>rfl
 | some u=>exact absurd (Wb (x.lt q) e) (Yh _)
theorem HOk.kept(x:HOk P w H h)(k:∀b u,h.get? b=some u->h'.get? b=some u):HOk P w H h':=fun a o e =>
 (x a o e).stay (fun b u _ q=>k b u q) (fun _ q=>q) fun _ _ q=>q
theorem HOk.laid(x:HOk P w H h)(k:∀b u,h.get? b=some u->h'.get? b=some u)(hp:h.objs.size<=a)(new:ObjOk P w (upd H a o) h' a o):HOk P w (upd H a o) h':=fun b u e=>by
 have hn:=x.fresh hp;by_cases hb:b=a
 ·subst hb;rw[ay]at e;cases e;exact new
 ·rw[am hb]at e;exact(x b u e).stay (fun c v _ q=>k c v q) (fun c q=>by rw[am (aP q hn)];exact q) fun c xs q=>by rw[am (aP q hn)];exact q
end
def Rd(H:Hp)(a:Addr)(u:HO):Prop:=H a=some u∨∃o,H a=some (.frz o u)
theorem Rd.ok(r:Rd H a u)(x:HOk P w H h):ObjOk P w H h a u:=by
 rcases r with r|⟨o,r⟩
 ·exact x a u r
 ·obtain⟨_,q⟩:=x a _ r;exact q
def Mut:Option HO->Prop
 | some (.lst _)=>True
 | some (.dK _)=>True
 | some (.dT _ _)=>True
 | some (.set _ _)=>True
 | some (.ins _ _ _)=>True
 | some (.ext _)=>True
 | _=>False
section
variable {P:Program}{w:World}{H:Hp}{h h':Heap}{x e:Addr}{o':HO}
theorem HOk.write(ok:HOk P w H h)(mu:Mut (H x))(he:e=x∨H e=some (.own x))(k:∀b u,b≠e->h.get? b=some u->h'.get? b=some u)(heo:∃u,h'.get? e=some u)
  (new:ObjOk P w (upd H x o') h' x o'):HOk P w (upd H x o') h':=fun b u q=>by
 have nown:∀c y,H c=some (.own y)->c≠x:=fun c y r z=>by subst z;rw[r]at mu;exact mu
 have ntup:∀c xs,H c=some (.tup xs)->c≠x:=fun c xs r z=>by subst z;rw[r]at mu;exact mu
 by_cases hb:b=x
 ·subst hb;rw[ay]at q;cases q;exact new
 ·rw[am hb]at q;by_cases hbe:b=e
  ·have q':H b=some (.own x):=by
    rcases he with z|z
    ·exact absurd (hbe.trans z) hb
    ·rw[hbe];exact z
   rw[q]at q';cases q';obtain⟨v,hv⟩:=heo;exact⟨v,by rw[hbe];exact hv⟩
  ·refine(ok b u q).stay (fun c v hc r=>k c v ?_ r) (fun c r=>by rw[am (nown c b r)];exact r) fun c xs r=>by rw[am (ntup c xs r)];exact r
   rcases hc with rfl|hc
   ·exact hbe
   ·rintro rfl;rcases he with z|z
    ·exact nown c b hc z
    ·rw[hc]at z;cases z;exact hb rfl
end
structure Un(fs ex:List Addr)(H H':Hp)(h h':Heap):Prop where
 keep:∀b o,h.get? b=some o->H b=none->b∉fs->b∉ex->h'.get? b=some o
 slot:∀b o,h.get? b=some o->H b=none->b∈fs->b∉ex->∃sl,h'.get? b=some { o with slots:=sl }
 free:∀b o,h.get? b=some o->H b=none->b∉ex->H' b=none
 there:∀b o,h.get? b=some o->b∉ex->∃o',h'.get? b=some o'
 tups:∀b xs,H b=some (.tup xs)->H' b=some (.tup xs)
 frzs:∀b o u,H b=some (.frz o u)->H' b=some (.frz o u)
 tbls:∀b ps,H b=some (.tbl ps)->∃more,H' b=some (.tbl (ps++more))
section
variable {fs fs' ex ex':List Addr}{H H1 H2:Hp}{h h1 h2 h':Heap}{a x e:Addr}{o:HO}
theorem Un.any(u:Un fs ex H H1 h h1)(q:h.get? b=some ob)(n:H b=none)(hx:b∉ex):∃sl,h1.get? b=some { ob with slots:=sl }:=by
 by_cases hb:b∈fs
 ·exact u.slot b ob q n hb hx
 ·exact⟨ob.slots,u.keep b ob q n hb hx⟩
theorem Un.kept(k:∀b u,h.get? b=some u->h'.get? b=some u):Un fs ex H H h h' :=
 ⟨fun b ob q _ _ _=>k b ob q,fun b ob q _ _ _=>⟨ob.slots,k b ob q⟩,fun _ _ _ n _=>n,fun b ob q _=>⟨ob,k b ob q⟩,fun _ _ q=>q,fun _ _ _ q=>q,fun _ ps q=>⟨#[],by rw[q];simp⟩⟩
theorem Un.refl:Un fs ex H H h h:=Un.kept fun _ _ q=>q
theorem Un.laid(k:∀b u,h.get? b=some u->h'.get? b=some u)(hp:h.objs.size<=a)(hn:H a=none):Un fs ex H (upd H a o) h h' where
 keep:=fun b u q _ _ _=>k b u q
 slot:=fun b u q _ _ _=>⟨u.slots,k b u q⟩
 free:=fun b u q n _=>by rw[am (Qe (Wb (Ah q) hp))];exact n
 there:=fun b u q _=>⟨u,k b u q⟩
 tups:=fun b xs q=>by rw[am (aP q hn)];exact q
 frzs:=fun b u xs q=>by rw[am (aP q hn)];exact q
 tbls:=fun b ps q=>⟨#[],by rw[am (aP q hn),q];simp⟩
theorem Un.write(mu:Mut (H x))(he:e=x∨H e=some (.own x))(k:∀b u,b≠e->h.get? b=some u->h'.get? b=some u)(heo:∃u,h'.get? e=some u):Un fs ex H (upd H x o) h h':=by
 have hx:∀b,H b=none->b≠x:=fun b n z=>by subst z;rw[n]at mu;exact mu
 have hb:∀b,H b=none->b≠e:=fun b n z=>by
  subst z;rcases he with r|r
  ·exact hx b n r
  ·rw[n]at r;cases r
 have hm:∀b u,H b=some u->¬ Mut (some u)->b≠x:=fun b u q nm z=>by subst z;rw[q]at mu;exact nm mu
 refine⟨fun b u q n _ _=>k b u (hb b n) q,fun b u q n _ _=>⟨u.slots,k b u (hb b n) q⟩,fun b u q n _=>by rw[am (hx b n)];exact n,fun b u q _=>?_,
  fun b xs q=>by rw[am (hm b _ q fun z=>z)];exact q,fun b u xs q=>by rw[am (hm b _ q fun z=>z)];exact q,fun b ps q=>⟨#[],by rw[am (hm b _ q fun z=>z),q];simp⟩⟩
 by_cases hbe:b=e
 ·subst hbe;exact heo
 ·exact⟨u,k b u hbe q⟩
end
def trk(h:Heap)(H:Hp):List Addr:=(List.range h.objs.size).filter fun a=>(H a).isSome
def nL(h:Heap)(H:Hp):Heap:=PySem.W.hideAll h (trk h H)
theorem tH(h:Heap)(H:Hp):(nL h H).objs.size=h.objs.size:=PySem.W.hideAll_size _ _
theorem uU{h:Heap}(e:h.get? b=some o)(n:H b=none):(nL h H).get? b=some o :=
 PySem.W.hideAll_get _ e fun hm=>by
  have q:(H b).isSome=true:=(List.mem_filter.mp hm).2;rw[n]at q;simp at q
theorem xT{h:Heap}(e:(nL h H).get? b=some o):h.get? b=some o/\H b=none:=by
 have e':h.get? b=some o:=PySem.W.of_hideAll (trk h H) e;refine⟨e',?_⟩;cases q:H b with
 | none=>rfl
 | some x =>
  have hm:b∈trk h H:=List.mem_filter.mpr ⟨List.mem_range.mpr (Ah e'),by simp[q]⟩
  have z:(nL h H).get? b=none:=PySem.W.hideAll_none (trk h H) hm;rw[z]at e;cases e
end L2
namespace L2
open PySem PySem.Spec PyProof.Rows
structure Mod(K:Aa)(mg:Str->Option Value)(base:Heap):Prop where
 kin:K.In base
 glob:base.Ns mainGlobals mg
 blt:∃mb,base.Ns builtinsNs mb/\∀x:Str,x≠"__name__"->mb x=bootBuiltins x
 nolimit:base.NoLimit
structure Cx where
 prog:Program
 w:World
 K:Aa
 mg:Str->Option Value
 base:Heap
 A:Around
 N:List Str
 s₀:Shared
 H₀:Hp
 env:Env
 outer:List Env
 stack:List Env
 ex:List Addr
 fn:Str->Bool
 calm:Bool
 pn:List (Addr×Obj)
 xe:Value->Shared->Prop
def frs(l:List Env):List Addr:=l.filterMap (·.frame)
abbrev Cx.fs(X:Cx):List Addr:=frs X.outer
def Vis(sc:Scope)(x:Str):Prop:=sc.names.lookup x=some .local∨sc.names.lookup x=some .cell∨sc.names.lookup x=some .free
def Loc(sc:Scope)(x:Str):Prop:=sc.names.lookup x=some .local∨sc.names.lookup x=some .cell
def Look(env:Env)(h:Heap)(m:Str->Option Value)(x:Str)(u:Value):Prop :=
 (env.kindOf x=some .local/\m x=some u)∨((env.kindOf x=some .cell∨env.kindOf x=some .free)/\∃c,env.cells.lookup x=some c/\h.IsCell c (some u))
structure Cx.Ok(X:Cx):Prop where
 mod:Mod X.K X.mg X.base
 kind:X.env.scope.kind=.function
 glob:X.env.globals=mainGlobals
 blt:X.env.builtins=builtinsNs
 above:X.s₀.heap.objs.size<=X.env.locals
 inj:∀x y c,X.env.cells.lookup x=some c->X.env.cells.lookup y=some c->x=y
 has:∀x,(X.env.kindOf x=some .cell∨X.env.kindOf x=some .free)->∃c,X.env.cells.lookup x=some c
 cab:∀x c,X.fn x=true->X.env.cells.lookup x=some c->X.s₀.heap.objs.size<=c
 hd:X.calm=true->X.A.handled=none
 frames:X.A.frames=some X.stack
 stk:X.stack=X.outer∨(X.stack=X.env::X.outer/\X.env.frame=some X.env.locals)
 exf:∀b∈X.ex,b≠X.env.locals/\∀x c,X.env.cells.lookup x=some c->c≠b
 bs:∀b o,X.base.get? b=some o->X.s₀.heap.get? b=some o/\X.H₀ b=none
 bsz:X.base.objs.size<=X.s₀.heap.objs.size
 noex:∀b o,X.base.get? b=some o->b∉X.ex
 exfs:∀b∈X.ex,b∉X.fs
 funs:X.s₀.heap.FunFrames X.base X.outer
 frf:∀b∈X.fs,X.H₀ b=none
structure Inv(X:Cx)(pins:List (Addr×Obj))(σ:List (Option V))(H:Hp)(s:Shared):Prop where
 ok:X.Ok
 os:s.os=X.s₀.os
 bare:AllBare s.gens
 base:Un X.fs X.ex X.H₀ H X.s₀.heap s.heap
 loc:∃m,s.heap.Ns X.env.locals m/\∀(i:Nat)(x:Str)(v:V),X.N[i]?=some x->σ[i]?=some (some v)->Vis X.env.scope x->∃u,RelV v u/\Look X.env s.heap m x u
 cell:∀x c,X.env.cells.lookup x=some c->∃v,s.heap.IsCell c v
 free:H X.env.locals=none
 freeC:∀x c,X.env.cells.lookup x=some c->H c=none
 pin:∀p∈X.pn++pins,s.heap.get? p.1=some p.2/\H p.1=none/\p.1≠X.env.locals/\p.1∉X.fs/\∀v,p.2.data≠.cell v
 hok:HOk X.prog X.w H s.heap
 len:σ.length=X.N.length
section
variable {X:Cx}{pins:List (Addr×Obj)}{σ:List (Option V)}{H H':Hp}{s:Shared}{h':Heap}
theorem Cx.Ok.nofr(ok:X.Ok)(e:X.base.get? b=some o):b∉X.fs:=fun hb=>by
 have:=(ok.funs.mem hb).1;rw[e]at this;cases this
theorem Inv.bs(I:Inv X pins σ H s):∀b o,X.base.get? b=some o->s.heap.get? b=some o/\H b=none:=fun b o e =>
 ⟨I.base.keep b o (I.ok.bs b o e).1 (I.ok.bs b o e).2 (I.ok.nofr e) (I.ok.noex b o e),I.base.free b o (I.ok.bs b o e).1 (I.ok.bs b o e).2 (I.ok.noex b o e)⟩
theorem Inv.bk(I:Inv X pins σ H s):∀b o,X.base.get? b=some o->s.heap.get? b=some o:=fun b o e=>(I.bs b o e).1
theorem Inv.mod(I:Inv X pins σ H s):Mod X.K X.mg X.base:=I.ok.mod
theorem Inv.kIn(I:Inv X pins σ H s):X.K.In s.heap:=I.ok.mod.kin.keeps I.bk
theorem Inv.lt(I:Inv X pins σ H s):X.env.locals<s.heap.objs.size:=let ⟨_,hn,_⟩:=I.loc;hn.lt
theorem Inv.sz(I:Inv X pins σ H s):X.s₀.heap.objs.size<=s.heap.objs.size:=Qc I.ok.above (A9 I.lt)
theorem Inv.nofs(I:Inv X pins σ H s)(h:s.heap.objs.size<=a):a∉X.fs:=fun hb=>by
 obtain⟨_,o,ho,_⟩:=I.ok.funs.mem hb;exact absurd (Wb (Ah ho) (Qc I.sz h)) (Yh _)
theorem Inv.cne(I:Inv X pins σ H s):∀x c,X.env.cells.lookup x=some c->c≠X.env.locals:=fun x c e z=>by
 obtain⟨v,o,ho,hd⟩:=I.cell x c e;obtain⟨m,⟨o',es,ep,ho',hd',_⟩,_⟩:=I.loc;rw[z,ho']at ho;cases ho;rw[hd']at hd;cases hd
theorem Inv.funs(I:Inv X pins σ H s):s.heap.FunFrames X.base X.outer:=by
 have all:∀(l:List Env),(∀b∈frs l,b∈X.fs)->X.s₀.heap.FunFrames X.base l->s.heap.FunFrames X.base l:=by
  intro l;induction l with
  | nil=>intro _ _;trivial
  | cons env r ih =>
   intro hs hl;obtain⟨hk,⟨L,o,hf,hn,ho,hd⟩,hr⟩:=hl;have hL:L∈X.fs:=hs L (by unfold frs;rw[BT,hf];exact Wc)
   obtain⟨sl,e⟩:=I.base.slot L o ho (I.ok.frf L hL) hL fun z=>I.ok.exfs L z hL;exact⟨hk,⟨L,_,hf,hn,e,hd⟩,ih (fun b hb=>hs b (by unfold frs;rw[BT,hf];exact Zc _ hb)) hr⟩
 exact all X.outer (fun _ hb=>hb) I.ok.funs
theorem Inv.stack(I:Inv X pins σ H s):s.heap.FunFrames X.base X.stack:=by
 rcases I.ok.stk with e|⟨e,hf⟩
 ·rw[e];exact I.funs
 ·rw[e];obtain⟨m,hn,_⟩:=I.loc;refine .cons (by rw[I.ok.kind];decide) hf hn ?_ I.funs
  exact BQ (Qc I.ok.bsz I.ok.above)
theorem Inv.stkSub(I:Inv X pins σ H s):∀b∈frs X.stack,b∈X.env.locals::X.fs:=fun b hb=>by
 rcases I.ok.stk with e|⟨e,hf⟩
 ·rw[e]at hb;exact Zc _ hb
 ·rw[e]at hb;unfold frs at hb;rw[BT,hf]at hb;exact hb
theorem Inv.stkFree(I:Inv X pins σ H s):∀b∈frs X.stack,H b=none:=fun b hb=>by
 rcases Xd.mp (I.stkSub b hb) with e|hb
 ·rw[e];exact I.free
 ·obtain⟨_,o,ho,_⟩:=I.ok.funs.mem hb;exact I.base.free b o ho (I.ok.frf b hb) fun z=>I.ok.exfs b z hb
theorem Inv.step{g':Array GenState}{t':Nat}{d':Drawn}{ch:List Addr}(I:Inv X pins σ H s)
  (hch:∀b∈ch,(b∈X.ex∨X.s₀.heap.objs.size<=b)/\b≠X.env.locals/\(∀x c,X.env.cells.lookup x=some c->c≠b)/\∀p∈X.pn++pins,p.1≠b)
  (keep:∀b o,b≠X.env.locals->b∉X.fs->b∉ch->s.heap.get? b=some o->H b=none->h'.get? b=some o)
  (slot:∀b o,b≠X.env.locals->b∈X.fs->b∉ch->s.heap.get? b=some o->H b=none->∃sl,h'.get? b=some { o with slots:=sl }) (free:∀b o,b∉ch->s.heap.get? b=some o->H b=none->H' b=none)
  (there:∀b o,b∉ch->s.heap.get? b=some o->∃o',h'.get? b=some o')
  (tups:∀b xs,H b=some (.tup xs)->H' b=some (.tup xs)) (frzs:∀b o u,H b=some (.frz o u)->H' b=some (.frz o u)) (tbls:∀b ps,H b=some (.tbl ps)->∃more,H' b=some (.tbl (ps++more)))
  (ns:∀m,s.heap.Ns X.env.locals m->h'.Ns X.env.locals m) (hok:HOk X.prog X.w H' h') (hg:AllBare g') :
  Inv X pins σ H' { s with heap:=h',gens:=g',drawn:=d',toks:=t' }:=by
 have neL:∀b o,X.s₀.heap.get? b=some o->b≠X.env.locals:=fun b o e=>Qe (Wb (Ah e) I.ok.above);have neC:∀b o,X.s₀.heap.get? b=some o->b∉X.ex->b∉ch:=fun b o e hx hb=>by
  rcases(hch b hb).1 with z|z
  ·exact hx z
  ·exact absurd (Wb (Ah e) z) (Yh _)
 have cellK:∀x c,X.env.cells.lookup x=some c->∀v,s.heap.IsCell c v->h'.IsCell c v:=fun x c e v ⟨o,ho,hd⟩=>by
  have nch:c∉ch:=fun z=>(hch c z).2.2.1 x c e rfl;by_cases hc:c∈X.fs
  ·obtain⟨sl,q⟩:=slot c o (I.cne x c e) hc nch ho (I.freeC x c e);exact⟨_,q,hd⟩
  ·exact⟨o,keep c o (I.cne x c e) hc nch ho (I.freeC x c e),hd⟩
 refine⟨I.ok,I.os,hg,⟨fun b o e n hb hx=>?_,fun b o e n hb hx=>?_,fun b o e n hx=>?_,fun b o e hx=>?_,fun b xs e=>tups b xs (I.base.tups b xs e),fun b o xs e=>frzs b o xs (I.base.frzs b o xs e),fun b ps e=>?_⟩,?_,fun x c e=>?_,?_,fun x c e=>?_,fun p hp=>?_,hok,I.len⟩
 ·exact keep b o (neL b o e) hb (neC b o e hx) (I.base.keep b o e n hb hx) (I.base.free b o e n hx)
 ·obtain⟨sl,e1⟩:=I.base.slot b o e n hb hx;obtain⟨sl',e2⟩:=slot b _ (neL b o e) hb (neC b o e hx) e1 (I.base.free b o e n hx);exact⟨sl',e2⟩
 ·obtain⟨o',e1⟩:=I.base.there b o e hx;exact free b o' (neC b o e hx) e1 (I.base.free b o e n hx)
 ·obtain⟨o',e1⟩:=I.base.there b o e hx;exact there b o' (neC b o e hx) e1
 ·obtain⟨m1,e1⟩:=I.base.tbls b ps e;obtain⟨m2,e2⟩:=tbls b _ e1;exact⟨m1++m2,by rw[e2,Array.append_assoc]⟩
 ·obtain⟨m,hn,hl⟩:=I.loc;refine⟨m,ns m hn,fun i x v e1 e2 e3=>?_⟩;obtain⟨u,r,l⟩:=hl i x v e1 e2 e3;refine⟨u,r,?_⟩;rcases l with l|⟨k,c,e,z⟩
  ·exact .inl l
  ·exact .inr ⟨k,c,e,cellK x c e _ z⟩
 ·obtain⟨v,z⟩:=I.cell x c e;exact⟨v,cellK x c e v z⟩
 ·obtain⟨m,⟨o,_,_,ho,_⟩,_⟩:=I.loc;exact free _ o (fun z=>(hch _ z).2.1 rfl) ho I.free
 ·obtain⟨v,o,ho,hd⟩:=I.cell x c e;exact free c o (fun z=>(hch c z).2.2.1 x c e rfl) ho (I.freeC x c e)
 ·obtain⟨e,n,ne,nf,d⟩:=I.pin p hp;have nch:p.1∉ch:=fun z=>(hch p.1 z).2.2.2 p hp rfl;exact⟨keep p.1 p.2 ne nf nch e n,free p.1 p.2 nch e n,ne,nf,d⟩
theorem Inv.un{t':Nat}(I:Inv X pins σ H s)(u:Un X.fs [] H H' s.heap h')(hok:HOk X.prog X.w H' h'):Inv X pins σ H' { s with heap:=h',toks:=t' }:=by
 obtain⟨m,⟨o,es,ep,ho,r⟩,_⟩:=id I.loc;obtain⟨sl,hL⟩:=u.any ho I.free (by simp)
 exact I.step (g':=s.gens) (d':=s.drawn) (ch:=[]) (fun _ z=>nomatch z) (fun b o _ hb _ e n=>u.keep b o e n hb (by simp)) (fun b o _ hb _ e n=>u.slot b o e n hb (by simp)) (fun b o _ e n=>u.free b o e n (by simp)) (fun b o _ e=>u.there b o e (by simp)) u.tups u.frzs u.tbls (fun m' hm=>by
  obtain⟨o',es',ep',ho',r'⟩:=hm;rw[ho]at ho';cases ho'
  exact⟨_,es',ep',hL,r'⟩) hok I.bare
theorem Inv.call{g':Array GenState}{t':Nat}{d':Drawn}{ch:List Addr}(I:Inv X pins σ H s)(u:Un (frs X.stack) ch H H' s.heap h')(hok:HOk X.prog X.w H' h')(hg:AllBare g')
  (hch:∀b∈ch,(b∈X.ex∨X.s₀.heap.objs.size<=b)/\b≠X.env.locals/\(∀x c,X.env.cells.lookup x=some c->c≠b)/\∀p∈X.pn++pins,p.1≠b) :
  Inv X pins σ H' { s with heap:=h',gens:=g',drawn:=d',toks:=t' }:=by
 obtain⟨m,⟨o,es,ep,ho,r⟩,_⟩:=id I.loc;obtain⟨sl,hL⟩:=u.any ho I.free fun z=>(hch _ z).2.1 rfl
 exact I.step (ch:=ch) hch (fun b o hL hb hc e n=>u.keep b o e n (fun z=>(Xd.mp (I.stkSub b z)).elim hL hb) hc) (fun b o _ _ hc e n=>u.any e n hc) (fun b o hc e n=>u.free b o e n hc) (fun b o hc e=>u.there b o e hc) u.tups u.frzs u.tbls (fun m' hm=>by
  obtain⟨o',es',ep',ho',r'⟩:=hm;rw[ho]at ho';cases ho'
  exact⟨_,es',ep',hL,r'⟩) hok hg
theorem Inv.turned{t':Nat}{it:Addr}(I:Inv X pins σ H s)(k:∀b o,b≠it->s.heap.get? b=some o->h'.get? b=some o)(hn:H it=none)(hL:it≠X.env.locals)
  (h1:it∈X.ex∨X.s₀.heap.objs.size<=it)(h2:∀x c,X.env.cells.lookup x=some c->c≠it)(h3:∀p∈X.pn++pins,p.1≠it):Inv X pins σ H { s with heap:=h',toks:=t' }:=by
 have nit:∀b u,H b=some u->b≠it:=fun b u e z=>by rw[z,hn]at e;cases e
 refine I.step (g':=s.gens) (d':=s.drawn) (ch:=[it]) (fun b hb=>?_) (fun b o _ _ hc e _=>k b o (fun z=>hc (by simp[z])) e) (fun b o _ _ hc e _=>⟨o.slots,k b o (fun z=>hc (by simp[z])) e⟩) (fun _ _ _ _ n=>n)
  (fun b o hc e=>⟨o,k b o (fun z=>hc (by simp[z])) e⟩) (fun _ _ e=>e) (fun _ _ _ e=>e) (fun b ps e=>⟨#[],by rw[e];simp⟩) (fun m hm=>?_) (fun b u e=>?_) I.bare
 ·have e:b=it:=by simpa using hb
  subst e;exact⟨h1,hL,h2,h3⟩
 ·obtain⟨o,es,ep,ho,r⟩:=hm;exact⟨o,es,ep,k _ o (Ne.symm hL) ho,r⟩
 ·refine(I.hok b u e).stay (fun c v hc q=>k c v ?_ q) (fun _ q=>q) fun _ _ q=>q;rcases hc with z|z
  ·rw[z];exact nit b u e
  ·exact nit c _ z
theorem Inv.tok(I:Inv X pins σ H s)(t:Nat):Inv X pins σ H { s with toks:=t }:=I.un (h':=s.heap) (t':=t) Un.refl I.hok
theorem Inv.kept{t':Nat}(I:Inv X pins σ H s)(k:∀b u,s.heap.get? b=some u->h'.get? b=some u):Inv X pins σ H { s with heap:=h',toks:=t' }:=I.un (Un.kept k) (I.hok.kept k)
theorem Inv.laid{t':Nat}(I:Inv X pins σ H s)(k:∀b u,s.heap.get? b=some u->h'.get? b=some u)(hp:s.heap.objs.size<=a)(new:ObjOk X.prog X.w (upd H a o) h' a o) :
  Inv X pins σ (upd H a o) { s with heap:=h',toks:=t' }:=I.un (Un.laid k hp (I.hok.fresh hp)) (I.hok.laid k hp new)
theorem Inv.write{t':Nat}(I:Inv X pins σ H s)(mu:Mut (H x))(he:e=x∨H e=some (.own x))(k:∀b u,b≠e->s.heap.get? b=some u->h'.get? b=some u)(heo:∃u,h'.get? e=some u)
  (new:ObjOk X.prog X.w (upd H x o) h' x o):Inv X pins σ (upd H x o) { s with heap:=h',toks:=t' }:=I.un (Un.write mu he k heo) (I.hok.write mu he k heo new)
theorem Inv.weak{σ':List (Option V)}(I:Inv X pins σ H s)(hl:σ'.length=σ.length)(w:∀(i:Nat) v,σ'[i]?=some (some v)->σ[i]?=some (some v)):Inv X pins σ' H s :=
 ⟨I.ok,I.os,I.bare,I.base,let ⟨m,hn,hl'⟩:=I.loc;⟨m,hn,fun i x v e1 e2 e3=>hl' i x v e1 (w i v e2) e3⟩,I.cell,I.free,I.freeC,I.pin,I.hok,hl.trans I.len⟩
theorem Inv.pins_of(I:Inv X pins σ H s)(h:∀p∈pins',s.heap.get? p.1=some p.2/\H p.1=none/\p.1≠X.env.locals/\p.1∉X.fs/\∀v,p.2.data≠.cell v):Inv X pins' σ H s :=
 ⟨I.ok,I.os,I.bare,I.base,I.loc,I.cell,I.free,I.freeC,fun p hp=>(Vf.mp hp).elim (fun z=>I.pin p (Qi _ z)) (h p),I.hok,I.len⟩
theorem kL{N:List Str}(hN:N.Nodup){i j:Nat}{x:Str}(a:N[i]?=some x)(b:N[j]?=some x):i=j:=by
 obtain⟨h1,e1⟩:=Va.mp a;obtain⟨h2,e2⟩:=Va.mp b;exact(List.getElem_inj hN).mp (e1.trans e2.symm)
theorem mK{M:Model}{A:Around}{E:Value->Shared->Prop}{i:Nat}{x:Str}{v:V}{u:Value}{Q:Unit->Shared->Prop}(I:Inv X pins σ H s)(hN:X.N.Nodup)(hi:X.N[i]?=some x)(hx:Loc X.env.scope x)(r:RelV v u)
  (h:∀s',Inv X pins (σ.set i (some v)) H s'->(∃a,Heap.SameBut a s.heap s'.heap/\(a=X.env.locals∨X.env.cells.lookup x=some a))->Q () s')(hf:X.fn x=true∨X.env.scope.names.lookup x=some .local:=by first|exact .inl rfl|exact .inr rfl|assumption):wpAny M A (storeName X.env x u) Q E s:=by
 obtain⟨m,hn,hl⟩:=id I.loc;have hcls:(X.env.scope.kind == .class||(X.env.scope.kind == .module&&X.env.locals != X.env.globals))=false:=by rw[I.ok.kind];rfl
 have hiσ:i<σ.length:=by rw[I.len];exact(Va.mp hi).1
 have cne:=I.cne;have tracked:∀{a:Addr}{h':Heap},(∃o,s.heap.get? a=some o/\H a=none)->Heap.SameBut a s.heap h'->HOk X.prog X.w H h':=fun {a h'} ha hs b ob e=>by
  obtain⟨_,_,hfree⟩:=ha;refine(I.hok b ob e).stay (fun c w' hc q=>(hs.2 c ?_).trans q) (fun _ q=>q) fun _ _ q=>q;rintro rfl;rcases hc with rfl|hc
  ·rw[hfree]at e;cases e
  ·rw[hfree]at hc;cases hc
 rcases hx with hk|hk
 ·refine wpAny_storeName_local hk hn (fun h' hn' hs=>?_) hcls;obtain⟨oL,_,_,hoL,_⟩:=id hn;refine h _ ⟨I.ok,I.os,I.bare,⟨fun b o e n hb hx=>?_,fun b o e n hb hx=>?_,I.base.free,fun b o e hx=>?_,I.base.tups,I.base.frzs,I.base.tbls⟩,⟨_,hn',fun j y v' e1 e2 e3=>?_⟩,fun y c e=>?_,I.free,I.freeC,fun p hp=>?_,tracked ⟨oL,hoL,I.free⟩ hs,by simpa using I.len⟩ ⟨_,hs,.inl rfl⟩
  ·exact(hs.2 b (Qe (Wb (Ah e) I.ok.above))).trans (I.base.keep b o e n hb hx)
  ·obtain⟨sl,e1⟩:=I.base.slot b o e n hb hx;exact⟨sl,(hs.2 b (Qe (Wb (Ah e) I.ok.above))).trans e1⟩
  ·obtain⟨o',e1⟩:=I.base.there b o e hx;exact⟨o',(hs.2 b (Qe (Wb (Ah e) I.ok.above))).trans e1⟩
  ·by_cases hj:j=i
   ·subst hj;rw[hi]at e1;cases e1;rw[Yl hiσ]at e2;cases e2;exact⟨u,r,.inl ⟨hk,by simp⟩⟩
   ·rw[Zj (Ne.symm hj)]at e2;obtain⟨u',r',q⟩:=hl j y v' e1 e2 e3;refine⟨u',r',?_⟩;rcases q with⟨k,e⟩|⟨k,c,e,z⟩
    ·refine .inl ⟨k,?_⟩;have:y≠x:=fun e=>hj (kL hN e1 (e ▸ hi));simp[this,e]
    ·exact .inr ⟨k,c,e,z.sameBut hs (cne y c e)⟩
  ·obtain⟨w',z⟩:=I.cell y c e;exact⟨w',z.sameBut hs (cne y c e)⟩
  ·obtain⟨e,n,ne,nf,d⟩:=I.pin p hp;exact⟨(hs.2 p.1 ne).trans e,n,ne,nf,d⟩
 ·have hfn:X.fn x=true:=by
   rcases hf with z|z
   ·exact z
   ·rw[z]at hk;cases hk
  obtain⟨c,hc⟩:=I.ok.has x (.inl hk);obtain⟨w',z⟩:=I.cell x c hc;refine wpAny_storeName_cell I.ok.kind hk hc z (fun h' hc' hs=>?_);obtain⟨oc,hoc,hocd⟩:=id z;refine h { s with heap:=h' } ⟨I.ok,I.os,I.bare,⟨fun b o e n hb hx=>?_,fun b o e n hb hx=>?_,I.base.free,fun b o e hx=>?_,I.base.tups,I.base.frzs,I.base.tbls⟩,⟨m,hn.sameBut hs (Ne.symm (cne x c hc)),fun j y v' e1 e2 e3=>?_⟩,fun y c' e=>?_,I.free,I.freeC,fun p hp=>?_,tracked ⟨oc,hoc,I.freeC x c hc⟩ hs,by simpa using I.len⟩ ⟨c,hs,.inr hc⟩
  ·exact(hs.2 b (Qe (Wb (Ah e) (I.ok.cab x c hfn hc)))).trans (I.base.keep b o e n hb hx)
  ·obtain⟨sl,e1⟩:=I.base.slot b o e n hb hx;exact⟨sl,(hs.2 b (Qe (Wb (Ah e) (I.ok.cab x c hfn hc)))).trans e1⟩
  ·obtain⟨o',e1⟩:=I.base.there b o e hx;exact⟨o',(hs.2 b (Qe (Wb (Ah e) (I.ok.cab x c hfn hc)))).trans e1⟩
  ·by_cases hj:j=i
   ·subst hj;rw[hi]at e1;cases e1;rw[Yl hiσ]at e2;cases e2;exact⟨u,r,.inr ⟨.inl hk,c,hc,hc'⟩⟩
   ·rw[Zj (Ne.symm hj)]at e2;obtain⟨u',r',q⟩:=hl j y v' e1 e2 e3;refine⟨u',r',?_⟩;rcases q with q|⟨k,c',e,z'⟩
    ·exact .inl q
    ·refine .inr ⟨k,c',e,z'.sameBut hs ?_⟩;rintro rfl;exact hj (kL hN e1 (I.ok.inj _ _ _ e hc ▸ hi))
  ·by_cases hcc:c'=c
   ·subst hcc;exact⟨_,hc'⟩
   ·obtain⟨w2,z2⟩:=I.cell y c' e;exact⟨w2,z2.sameBut hs hcc⟩
  ·obtain⟨e,n,ne,nf,d⟩:=I.pin p hp;refine⟨(hs.2 p.1 ?_).trans e,n,ne,nf,d⟩;intro q;rw[q,hoc]at e;have q':oc=p.2:=Option.some.inj e;exact d w' (by rw[← q'];exact hocd)
theorem oW(I:Inv X pins σ H s)(hN:X.N.Nodup)(hi:X.N[i]?=some x)(hx:Loc X.env.scope x)(r:RelV v u)
  (h:∀s',Inv X pins (σ.set i (some v)) H s'->Q () s')(hf:X.fn x=true∨X.env.scope.names.lookup x=some .local:=by first|exact .inl rfl|exact .inr rfl|assumption):wpAny M A (storeName X.env x u) Q E s :=
 mK I hN hi hx r (fun s' I' _=>h s' I') hf
theorem Inv.call'{s':Shared}(I:Inv X pins σ H s)(ho:s'.os=s.os)(u:Un (frs X.stack) ch H H' s.heap s'.heap)(hok:HOk X.prog X.w H' s'.heap)(hg:AllBare s'.gens)
  (hch:∀b∈ch,(b∈X.ex∨X.s₀.heap.objs.size<=b)/\b≠X.env.locals/\(∀x c,X.env.cells.lookup x=some c->c≠b)/\∀p∈X.pn++pins,p.1≠b):Inv X pins σ H' s':=by
 obtain⟨h',g',d',t',o'⟩:=s';have e:o'=s.os:=ho;subst e;exact I.call (g':=g') (t':=t') (d':=d') u hok hg hch
end
abbrev XK:=Value->Option Addr->Hp->Prop
abbrev St:=List (Option V)
abbrev VK:=V->Hp->Prop
abbrev TE:=St->Hp->VK->Prop
abbrev TT:=St->Hp->(Bool->Hp->Prop)->Prop
abbrev TA:=St->Hp->(List V->Hp->Prop)->Prop
structure Ends where
 nx:St->Hp->Prop
 rt:VK
 bk:St->Hp->Prop:=fun _ _=>False
 ct:St->Hp->Prop:=fun _ _=>False
abbrev TS:=Ends->St->Hp->Prop
inductive EP(X:Cx)(pins:List (Addr×Obj))(σ:St)(Q:VK)(u:Value)(s':Shared):Prop
 | mk (v:V) (H':Hp) (I:Inv X pins σ H' s') (r:RelV v u) (q:Q v H')
def TP(X:Cx)(pins:List (Addr×Obj))(σ:St)(Q:Bool->Hp->Prop)(b:Bool)(s':Shared):Prop:=∃H',Inv X pins σ H' s'/\Q b H'
inductive AP(X:Cx)(pins:List (Addr×Obj))(σ:St)(Q:List V->Hp->Prop)(us:List Value)(s':Shared):Prop
 | mk (vs:List V) (H':Hp) (I:Inv X pins σ H' s') (r:Vals vs us) (q:Q vs H')
def SP(X:Cx)(pins:List (Addr×Obj))(D:Ends)(f:Flow)(s':Shared):Prop :=
 match f with
 | .next=>∃σ' H',Inv X pins σ' H' s'/\D.nx σ' H'
 | .brk=>∃σ' H',Inv X pins σ' H' s'/\D.bk σ' H'
 | .cont=>∃σ' H',Inv X pins σ' H' s'/\D.ct σ' H'
 | .ret u=>∃v σ' H',Inv X pins σ' H' s'/\RelV v u/\D.rt v H'
def PE(X:Cx)(e:Expr)(t:TE):Prop :=
 ∀(pins:List (Addr×Obj))(s:Shared)(σ:St)(H:Hp)(Q:VK),Inv X pins σ H s->t σ H Q->wpAny (model X.prog X.w) X.A (eval e X.env) (EP X pins σ Q) X.xe s
def PT(X:Cx)(e:Expr)(t:TT):Prop :=
 ∀(pins:List (Addr×Obj))(s:Shared)(σ:St)(H:Hp)(Q:Bool->Hp->Prop),Inv X pins σ H s->t σ H Q->wpAny (model X.prog X.w) X.A (isTrue e X.env (eval e X.env)) (TP X pins σ Q) X.xe s
def PW(X:Cx)(e:Expr)(t:TT):Prop :=
 ∀(whole:Sem Value)(pins:List (Addr×Obj))(s:Shared)(σ:St)(H:Hp)(Q:Bool->Hp->Prop),Inv X pins σ H s->t σ H Q->wpAny (model X.prog X.w) X.A (isTrue e X.env whole) (TP X pins σ Q) X.xe s
theorem PW.pt(h:PW X e t):PT X e t:=h _
def PA(X:Cx)(es:List Expr)(t:TA):Prop :=
 ∀(pos:Pos)(pins:List (Addr×Obj))(s:Shared)(σ:St)(H:Hp)(Q:List V->Hp->Prop),Inv X pins σ H s->t σ H Q->wpAny (model X.prog X.w) X.A (spliced (backTo pos (starEach es X.env))) (AP X pins σ Q) X.xe s
def PS(X:Cx)(st:Stmt)(t:TS):Prop :=
 ∀(pins:List (Addr×Obj))(s:Shared)(σ:St)(H:Hp)(D:Ends),Inv X pins σ H s->t D σ H->wpAny (model X.prog X.w) X.A (exec st X.env) (SP X pins D) X.xe s
def PSs(X:Cx)(st:List Stmt)(t:TS):Prop :=
 ∀(pins:List (Addr×Obj))(s:Shared)(σ:St)(H:Hp)(D:Ends),Inv X pins σ H s->t D σ H->wpAny (model X.prog X.w) X.A (execs st X.env) (SP X pins D) X.xe s
theorem thn(h:wpAny M A t Q E s)(hQ:∀a s,Q a s->Q' a s):wpAny M A t Q' E s:=Aq h hQ fun _ _ x=>x
end L2
namespace L2
open PySem PySem.Spec PyProof.Rows
section
variable {X:Cx}
def kM(i:Nat):TE:=fun σ H Q=>∃v,σ[i]?=some (some v)/\Q v H
def tC(v:V):TE:=fun _ H Q=>Q v H
theorem DB(hN:X.N[i]?=some x)(hv:Vis X.env.scope x)(hd:(x == ("__debug__":Str))=false:=by decide)(hcd:(x == ("__classdict__":Str))=false:=by decide):PE X (.Name x pos) (kM i):=by
 intro pins s σ H Q I h;obtain⟨v,e,h⟩:=h;obtain⟨m,hn,hl⟩:=I.loc;obtain⟨u,r,l⟩:=hl i x v hN e hv;have fin:EP X pins σ Q u s:=⟨v,H,I,r,h⟩;rcases l with⟨hk,hm⟩|⟨hk,c,hc,hcell⟩
 ·exact wpAny_Name (wpAny_loadName_local I.ok.kind hk hn hm fin) hd
 ·rcases hk with hk|hk
  ·exact wpAny_Name (wpAny_loadName_cell I.ok.kind hk hc hcell fin) hd
  ·exact wpAny_Name (wpAny_loadName_free I.ok.kind hk hc hcell fin hcd) hd
theorem ai{i j pos}:PE X (.Constant (.int i) j pos) (tC (.int i)):=fun _ _ _ H _ I h=>wpAny_Constant_int ⟨.int i,H,I.tok _,⟨_,rfl⟩,h⟩
theorem mL{b j pos}:PE X (.Constant (.bool b) j pos) (tC (.bl b)):=fun _ _ _ H _ I h=>Constant_bool ⟨.bl b,H,I,rfl,h⟩
theorem DC{j pos}:PE X (.Constant .none j pos) (tC .non):=fun _ _ _ H _ I h=>Constant_none ⟨.non,H,I,rfl,h⟩
theorem eR{x j pos}:PE X (.Constant (.str x) j pos) (tC (.str x)):=fun _ _ _ H _ I h=>Calls.Constant_str ⟨.str x,H,I.tok _,⟨_,rfl⟩,h⟩
def Gl(X:Cx)(x:Str):Prop:=X.env.kindOf x=some .globalImplicit
theorem fK(I:Inv X pins σ H s)(hg:Gl X x)(hm:X.mg x=some u)(h:Q u s)
  (hd:(x == ("__debug__":Str))=false:=by decide):wpAny (model X.prog X.w) X.A (eval (.Name x pos) X.env) Q E s :=
 Cs I.ok.kind hg (Calls.loadGlobal_global (by rw[I.ok.glob];exact I.mod.glob.keeps I.bk) hm h) hd
theorem fL(I:Inv X pins σ H s)(hg:Gl X x)(hm:X.mg x=none)(hv:bootBuiltins x=some u)(h:Q u s)
  (hn:x≠"__name__":=by decide)(hd:(x == ("__debug__":Str))=false:=by decide):wpAny (model X.prog X.w) X.A (eval (.Name x pos) X.env) Q E s:=by
 obtain⟨mb,h1,h2⟩:=I.mod.blt;exact Cs I.ok.kind hg (Calls.loadGlobal_builtin (by rw[I.ok.glob];exact I.mod.glob.keeps I.bk) hm (by rw[I.ok.blt];exact h1.keeps I.bk) ((h2 x hn).trans hv) h) hd
theorem xU(hg:Gl X x)(hm:X.mg x=some u)(r:RelV v u)(hd:(x == ("__debug__":Str))=false:=by decide):PE X (.Name x pos) (tC v) :=
 fun _ _ _ H _ I h=>fK I hg hm ⟨v,H,I,r,h⟩ hd
theorem xV(hg:Gl X x)(hm:X.mg x=none)(hv:bootBuiltins x=some u)(r:RelV v u)(hn:x≠"__name__":=by decide)(hd:(x == ("__debug__":Str))=false:=by decide):PE X (.Name x pos) (tC v) :=
 fun _ _ _ H _ I h=>fL I hg hm hv ⟨v,H,I,r,h⟩ hn hd
variable {a b:Expr}{ta tb:TE}{pos:Pos}
def tB(t:TE):TT:=fun σ H Q=>t σ H fun x H1=>∃c,x=.bl c/\Q c H1
theorem dB{e:Expr}(h:PE X e t)(he:∀whole,isTrue e X.env whole=(do let v ← whole;standAt e.pos;holding [v] (truthy v)):=by intro _;rfl):PT X e (tB t):=by
 intro pins s σ H Q I hw;refine isTrue_plain (thn (h pins s σ H _ I hw) fun v s1 zz9=>?_) (he _);obtain⟨x,H1,I1,r1,q1⟩:=zz9;obtain⟨d,rfl,q⟩:=q1;cases r1;exact AG ⟨H1,I1,q⟩
variable {tA tB':TT}{rest:List Expr}
def tOr(t u:TT):TT:=fun σ H Q=>t σ H fun c H1=>if c=true then Q true H1 else u σ H1 Q
def F5(t:TT):TT:=fun σ H Q=>t σ H fun c H1=>Q (!c) H1
theorem kN(ha:PT X a tA):PW X (.BoolOp .Or [a] pos) tA:=by
 intro wh pins s σ H Q I h;refine isTrue_or (thn (ha pins s σ H Q I h) fun c s1 e=>?_);cases c with
 | false=>exact isTrue_or_nil e
 | true=>exact e
theorem kO(ha:PT X a tA)(hb:PW X (.BoolOp .Or (b::rest) pos) tB'):PW X (.BoolOp .Or (a::b::rest) pos) (tOr tA tB'):=by
 intro wh pins s σ H Q I h;refine isTrue_or (thn (ha pins s σ H _ I h) fun c s1 zz9=>?_);obtain⟨H1,I1,q1⟩:=zz9;cases c with
 | true=>exact⟨H1,I1,q1⟩
 | false=>exact hb wh pins s1 σ H1 Q I1 q1
theorem gu(ha:PT X a tA):PT X (.UnaryOp .Not a pos) (F5 tA):=by
 intro pins s σ H Q I h;exact isTrue_not (ha pins s σ H (fun c H1=>Q (!c) H1) I h)
def zO(ta tb:TE):TE:=fun σ H Q=>ta σ H fun x H1=>∃c,x=.bl c/\if c=true then tb σ H1 Q else Q (.bl false) H1
def zP(ta:TE):TE:=fun σ H Q=>ta σ H fun x H1=>∃c,x=.bl c/\Q (.bl (!c)) H1
theorem DD{op}(h:PE X a t):PE X (.BoolOp op [a] pos) t:=fun pins s σ H Q I hw=>BoolOp_one (h pins s σ H Q I hw)
theorem DE(ha:PE X a ta)(hb:PE X (.BoolOp .And (b::rest) pos) tb):PE X (.BoolOp .And (a::b::rest) pos) (zO ta tb):=by
 intro pins s σ H Q I h;refine BoolOp_and (thn (ha pins s σ H _ I h) fun v s1 zz9=>?_);obtain⟨x,H1,I1,r1,q1⟩:=zz9;obtain⟨c,rfl,q1⟩:=q1;cases r1;refine AG ?_;cases c with
 | true=>exact hb pins s1 σ H1 Q I1 q1
 | false=>exact⟨.bl false,H1,I1,rfl,q1⟩
theorem DF(ha:PE X a ta):PE X (.UnaryOp .Not a pos) (zP ta):=by
 intro pins s σ H Q I h;refine UnaryOp_ (thn (ha pins s σ H _ I h) fun v s1 zz9=>?_);obtain⟨x,H1,I1,r1,q1⟩:=zz9;obtain⟨c,rfl,q1⟩:=q1;cases r1;exact not_of (AG ⟨.bl (!c),H1,I1,rfl,q1⟩)
def tIf(t:TT)(ta tb:TE):TE:=fun σ H Q=>t σ H fun c H1=>if c=true then ta σ H1 Q else tb σ H1 Q
theorem oX(hc:PT X c tA)(ha:PE X a ta)(hb:PE X b tb):PE X (.IfExp c a b pos) (tIf tA ta tb):=by
 intro pins s σ H Q I h;refine wpAny_IfExp (thn (hc pins s σ H _ I h) fun d s1 zz9=>?_);obtain⟨H1,I1,q1⟩:=zz9;cases d with
 | true=>exact ha pins s1 σ H1 Q I1 q1
 | false=>exact hb pins s1 σ H1 Q I1 q1
end
end L2
namespace L2
open PySem PySem.Spec PyProof.Rows
def SqL(K:Aa)(H:Hp)(a:Addr)(xs:List V):Prop :=
 Rd H a (.lst xs) ∨
  ∃(o:Obj)(its:Array Value)(n:Nat),K.lookup a=some o/\o.cls=.type "list"/\o.dict=none/\o.data=.seq its n/\its.size<=sizeLine/\Vals xs its.toList
def SqT(K:Aa)(H:Hp)(a:Addr)(xs:List V):Prop :=
 Rd H a (.tup xs) ∨
  ∃(o:Obj)(its:Array Value)(n:Nat),K.lookup a=some o/\o.cls=.type "tuple"/\o.data=.seq its n/\its.size<=sizeLine/\Vals xs its.toList
def Ht:Value->Option V
 | .none=>some .non
 | .bool b=>some (.bl b)
 | .int i _=>some (.int i)
 | .str x _=>some (.str x)
 | .bytes b _=>some (.byt b)
 | .float b _=>some (.flt b)
 | .ref a=>some (.ref a)
 | .type n=>some (.ty n)
 | _=>none
theorem RelV.abs(r:RelV x u):Ht u=some x:=by
 cases x with
 | non=>cases r;rfl
 | bl _=>cases r;rfl
 | int _=>obtain⟨t,rfl⟩:=r;rfl
 | str _=>obtain⟨t,rfl⟩:=r;rfl
 | byt _=>obtain⟨t,rfl⟩:=r;rfl
 | flt _=>obtain⟨t,rfl⟩:=r;rfl
 | ref _=>cases r;rfl
 | ty _=>cases r;rfl
theorem RelV.inj(r:RelV x u)(q:RelV y u):x=y:=Option.some.inj (r.abs.symm.trans q.abs)
theorem Vals.inj:∀{xs ys:List V}{us:List Value},Vals xs us->Vals ys us->xs=ys
 | _,_,_,.nil,.nil=>rfl
 | _,_,_,.cons r t,.cons r' t'=>by rw[r.inj r',Vals.inj t t']
section
variable {X:Cx}{pins:List (Addr×Obj)}{σ:St}{H:Hp}{s:Shared}{a:Addr}{xs ys:List V}
theorem Inv.list(I:Inv X pins σ H s)(h:SqL X.K H a xs):∃its:List Value,Vals xs its/\PlainL s.heap a its.toArray/\xs.length<=sizeLine:=by
 rcases h with h|⟨o,its,n,hk,hc,hd,hs,hz,r⟩
 ·obtain⟨z,its,n,r,e⟩:=h.ok I.hok;exact⟨its,r,⟨_,n,e,rfl,rfl,rfl⟩,z⟩
 ·refine⟨its.toList,r,⟨o,n,I.kIn a o hk,hc,hd,by simpa using hs⟩,?_⟩
  have e:=r.length;simp only[Vc]at e;lia
theorem Inv.tuple(I:Inv X pins σ H s)(h:SqT X.K H a xs):∃its:List Value,Vals xs its/\IsTup s.heap a its.toArray/\xs.length<=sizeLine:=by
 rcases h with h|⟨o,its,n,hk,hc,hs,hz,r⟩
 ·obtain⟨z,its,r,p⟩:=h.ok I.hok;exact⟨its,r,p,z⟩
 ·refine⟨its.toList,r,⟨o,I.kIn a o hk,hc,n,by simpa using hs⟩,?_⟩
  have e:=r.length;simp only[Vc]at e;lia
theorem Inv.list_inj(I:Inv X pins σ H s)(h:SqL X.K H a xs)(h':SqL X.K H a ys):xs=ys:=by
 obtain⟨its,r,⟨o,n,e,_,_,d⟩,_⟩:=I.list h;obtain⟨its',r',⟨o',n',e',_,_,d'⟩,_⟩:=I.list h';rw[e]at e';cases e';rw[d]at d';injection d' with d1 _;have:its=its':=by simpa using congrArg Array.toList d1
 subst this;exact r.inj r'
theorem Inv.tuple_inj(I:Inv X pins σ H s)(h:SqT X.K H a xs)(h':SqT X.K H a ys):xs=ys:=by
 obtain⟨its,r,⟨o,e,_,n,d⟩,_⟩:=I.tuple h;obtain⟨its',r',⟨o',e',_,n',d'⟩,_⟩:=I.tuple h';rw[e]at e';cases e';rw[d]at d';injection d' with d1 _;have:its=its':=by simpa using congrArg Array.toList d1
 subst this;exact r.inj r'
end
abbrev Cx.wish(X:Cx)(E:Value->Shared->Prop):Cx:={ X with xe:=E }
abbrev Cx.nox(X:Cx):Cx:=X.wish fun _ _=>False
theorem Cx.Ok.wish{X:Cx}(ok:X.Ok)(E:Value->Shared->Prop):(X.wish E).Ok :=
 ⟨ok.mod,ok.kind,ok.glob,ok.blt,ok.above,ok.inj,ok.has,ok.cab,ok.hd,ok.frames,ok.stk,ok.exf,ok.bs,ok.bsz,ok.noex,ok.exfs,ok.funs,ok.frf⟩
theorem Cx.Ok.unwish{X:Cx}(ok:(X.wish E).Ok):X.Ok :=
 ⟨ok.mod,ok.kind,ok.glob,ok.blt,ok.above,ok.inj,ok.has,ok.cab,ok.hd,ok.frames,ok.stk,ok.exf,ok.bs,ok.bsz,ok.noex,ok.exfs,ok.funs,ok.frf⟩
section
variable {X:Cx}{pins:List (Addr×Obj)}{σ:St}{H:Hp}{s:Shared}{E:Value->Shared->Prop}
theorem Inv.wish(I:Inv X pins σ H s)(E:Value->Shared->Prop):Inv (X.wish E) pins σ H s:=⟨I.ok.wish E,I.os,I.bare,I.base,I.loc,I.cell,I.free,I.freeC,I.pin,I.hok,I.len⟩
theorem Inv.unwish(I:Inv (X.wish E) pins σ H s):Inv X pins σ H s:=⟨I.ok.unwish,I.os,I.bare,I.base,I.loc,I.cell,I.free,I.freeC,I.pin,I.hok,I.len⟩
theorem SP.unwish(h:SP (X.wish E) pins D f s'):SP X pins D f s':=by
 cases f with
 | next=>obtain⟨σ',H',I,q⟩:=h;exact⟨σ',H',I.unwish,q⟩
 | brk=>obtain⟨σ',H',I,q⟩:=h;exact⟨σ',H',I.unwish,q⟩
 | cont=>obtain⟨σ',H',I,q⟩:=h;exact⟨σ',H',I.unwish,q⟩
 | ret u=>obtain⟨v,σ',H',I,r,q⟩:=h;exact⟨v,σ',H',I.unwish,r,q⟩
theorem PSs.nox{st:List Stmt}{t:TS}(h:PSs X.nox st t):PSs X st t:=fun pins s σ H D I hw =>
 Aq (h pins s σ H D (I.wish _) hw) (fun _ _ q=>q.unwish) fun _ _ z=>False.elim z
end
section
variable {X:Cx}{st:Stmt}{rest:List Stmt}{t u:TS}{e:Expr}{te:TE}{pos:Pos}
def zQ:TS:=fun D σ H=>D.nx σ H
def xW(t u:TS):TS:=fun D σ H=>t { D with nx:=u D } σ H
theorem bD:PSs X [] zQ:=fun _ _ σ H _ I h=>A1 ⟨σ,H,I,h⟩
theorem ah(h1:PS X st t)(h2:PSs X rest u):PSs X (st::rest) (xW t u):=by
 intro pins s σ H D I h;refine Ca (thn (h1 pins s σ H { D with nx:=u D } I h) fun f s1 q=>?_);cases f with
 | next =>
  obtain⟨σ',H',I',q⟩:=q;exact h2 pins s1 σ' H' D I' q
 | ret v=>exact q
 | brk=>exact q
 | cont=>exact q
theorem au(h1:PS X st t):PSs X [st] t:=by
 intro pins s σ H D I h;refine Ca (thn (h1 pins s σ H D I h) fun f s1 q=>?_);cases f with
 | next=>exact A1 q
 | ret v=>exact q
 | brk=>exact q
 | cont=>exact q
theorem Inv.quiet(I:Inv X pins σ H s):interactive X.env=false:=by simp[interactive,I.ok.kind]
def uV(te:TE):TS:=fun D σ H=>te σ H fun _ H1=>D.nx σ H1
theorem ce(he:PE X e te)(hs:swapsWith e none pos.line X.env=pure false:=by rfl):PS X (.Expr e pos) (uV te):=by
 intro pins s σ H D I h;exact Cn (thn (he pins s σ H _ I h) fun v s1 ⟨x,H1,I1,r1,q1⟩=>⟨σ,H1,I1,q1⟩) I.quiet hs
def F6(te:TE):TS:=fun D σ H=>te σ H D.rt
theorem aT(he:PE X e te):PS X (.Return (some e) pos) (F6 te):=by
 intro pins s σ H D I h;exact wpAny_Return_some (thn (he pins s σ H _ I h) fun v s1 ⟨x,H1,I1,r1,q1⟩=>⟨x,σ,H1,I1,r1,q1⟩)
def DG(c:TT)(t u:TS):TS:=fun D σ H=>c σ H fun b H1=>if b=true then t D σ H1 else u D σ H1
theorem cq(hc:PT X c tc)(ha:PSs X a t)(hb:PSs X b u):PS X (.If c a b pos) (DG tc t u):=by
 intro pins s σ H D I h;refine wpAny_If (thn (hc pins s σ H _ I h) fun d s1 zz9=>?_);obtain⟨H1,I1,q1⟩:=zz9;cases d with
 | true=>exact ha pins s1 σ H1 D I1 q1
 | false=>exact hb pins s1 σ H1 D I1 q1
end
abbrev TG:=V->St->Hp->(St->Hp->Prop)->Prop
abbrev TGs:=List V->St->Hp->(St->Hp->Prop)->Prop
def PG(X:Cx)(target:Expr)(t:TG):Prop :=
 ∀(pins:List (Addr×Obj))(s:Shared)(σ:St)(H:Hp)(v:V)(u:Value)(Q:St->Hp->Prop),Inv X pins σ H s->RelV v u->t v σ H Q ->
  wpAny (model X.prog X.w) X.A (assign target X.env u) (fun _ s'=>∃σ' H',Inv X pins σ' H' s'/\Q σ' H') X.xe s
def PGs(X:Cx)(ts:List Expr)(t:TGs):Prop :=
 ∀(pins:List (Addr×Obj))(s:Shared)(σ:St)(H:Hp)(vs:List V)(us:List Value)(Q:St->Hp->Prop),Inv X pins σ H s->Vals vs us->t vs σ H Q ->
  wpAny (model X.prog X.w) X.A (assignInOrder ((assignEach ts X.env).map (·.2)) us) (fun _ s'=>∃σ' H',Inv X pins σ' H' s'/\Q σ' H') X.xe s
abbrev xX:=V->V->V->Hp->(Hp->Prop)->Prop
def DH(X:Cx)(t:xX):Prop :=
 ∀(pins:List (Addr×Obj))(s:Shared)(σ:St)(H:Hp)(o i v:V)(ov iv u:Value)(Q:Hp->Prop),Inv X pins σ H s->RelV o ov->RelV i iv->RelV v u->t o i v H Q ->
  wpAny (model X.prog X.w) X.A (setItem ov iv u) (fun _ s'=>∃H',Inv X pins σ H' s'/\Q H') X.xe s
section
variable {X:Cx}{pos:Pos}
def jV(i:Nat):TG:=fun v σ H Q=>Q (σ.set i (some v)) H
theorem nM(hN:X.N.Nodup)(hi:X.N[i]?=some x)(hx:Loc X.env.scope x)(hf:X.fn x=true∨X.env.scope.names.lookup x=some .local:=by first|exact .inl rfl|exact .inr rfl|assumption):PG X (.Name x pos) (jV i):=by
 intro pins s σ H v u Q I r h;exact wpAny_assign_Name (oW I hN hi hx r (fun s' I'=>⟨_,H,I',h⟩) hf)
def F7:TGs:=fun vs σ H Q=>vs=[]/\Q σ H
def zR(t:TG)(u:TGs):TGs:=fun vs σ H Q=>∃v r,vs=v::r/\t v σ H fun σ' H'=>u r σ' H' Q
theorem rC:PGs X [] F7:=by
 intro pins s σ H vs us Q I r h;obtain⟨e,h⟩:=h;subst e;cases r;exact assignInOrder_nil ⟨σ,H,I,h⟩
theorem iM(h1:PG X e t)(h2:PGs X es u)
  (hs:(assignEach (e::es) X.env).map (·.2)=assign e X.env::(assignEach es X.env).map (·.2):=by rfl):PGs X (e::es) (zR t u):=by
 intro pins s σ H vs us Q I r h;obtain⟨v,vr,e1,h⟩:=h;subst e1;cases r with
 | cons r rr =>
  rw[hs];refine assignInOrder_cons (thn (h1 pins s σ H _ _ _ I r h) fun _ s1 zz9=>?_);obtain⟨σ1,H1,I1,q1⟩:=zz9;exact h2 pins s1 σ1 H1 _ _ Q I1 rr q1
def DI(K:Aa)(n:Nat)(t:TGs):TG:=fun v σ H Q=>∃a xs,v=.ref a/\SqT K H a xs/\xs.length=n/\t xs σ H Q
theorem DJ(hc:X.calm=true)(h:PGs X es t)
  (hn:(assignEach es X.env).length=n:=by rfl)(hst:(assignEach es X.env).findIdx? (·.1)=none:=by rfl):PG X (.Tuple es k pos) (DI X.K n t):=by
 intro pins s σ H v u Q I r hw;obtain⟨a,xs,e1,hq,hl,hw⟩:=hw;subst e1;cases r;obtain⟨its,rv,ht,hz⟩:=I.tuple hq;refine assign_Tuple_tuple (I.ok.hd hc) ht (by simp[hn,← hl,rv.length]) hst fun h' hx=>?_
 have I1:Inv X pins σ H { s with heap:=h' }:=I.kept (t':=s.toks) fun b o e=>hx b o (Qe (Ah e)) e;exact h pins _ σ H xs _ Q I1 (by simpa using rv) hw
def F8(to ti:TE)(t:xX):TG:=fun v σ H Q=>to σ H fun o H1=>ti σ H1 fun i H2=>t o i v H2 fun H3=>Q σ H3
theorem jx(ho:PE X o to)(hi:PE X i ti)(hs:DH X t)
  (ha:∀v,assign (.Subscript o i pos) X.env v=(do
   let ov ← holding [v] (eval o X.env)
   let iv ← holding [v,ov] (eval i X.env)
   standAt pos
   holding [v,ov,iv] (setItem ov iv v)
   release [v,ov,iv] []):=by intro _;rfl):PG X (.Subscript o i pos) (F8 to ti t):=by
 intro pins s σ H v u Q I r h;rw[ha];refine Ab (AD (thn (ho pins s σ H _ I h) fun ov s1 zz9=>?_));obtain⟨x,H1,I1,r1,q1⟩:=zz9;refine Ab (AD (thn (hi pins s1 σ H1 _ I1 q1) fun iv s2 zz9=>?_));obtain⟨y,H2,I2,r2,q2⟩:=zz9;refine Ab (AX (Ab (AD (thn (hs pins s2 σ H2 x y v ov iv u _ I2 r1 r2 r q2) fun _ s3 zz9=>?_))));obtain⟨H3,I3,q3⟩:=zz9;exact wpAny_release ⟨σ,H3,I3,q3⟩
def qg(te:TE)(g:TG):TS:=fun D σ H=>te σ H fun x H1=>g x σ H1 D.nx
theorem gw(he:PE X e te)(hg:PG X tg g)(hs:swapsWithSole [tg] e pos.line X.env=pure false:=by rfl)(hw:swappedStores [tg] e X.env=pure none:=by rfl)
  (h1:(assignEach [tg] X.env).map (·.2)=[assign tg X.env]:=by rfl):PS X (.Assign [tg] e pos) (qg te g):=by
 intro pins s σ H D I h;refine wpAny_Assign_stores (thn (he pins s σ H _ I h) fun v s1 zz9=>?_) hs hw;obtain⟨x,H1,I1,r1,q1⟩:=zz9;rw[h1];exact thn (hg pins s1 σ H1 x v _ I1 r1 q1) fun _ s2 q=>q
end
structure It where
 go:Nat->Hp->Prop
 yld:Nat->Hp->V->Hp->Prop
 stop:Nat->Hp->Prop
def jy(X:Cx)(pins:List (Addr×Obj))(H:Hp)(b:Addr):Prop :=
 H b=none/\b≠X.env.locals/\b∉X.fs/\(b∈X.ex∨X.s₀.heap.objs.size<=b)/\(∀x c,X.env.cells.lookup x=some c->c≠b)/\∀p∈X.pn++pins,p.1≠b
theorem Inv.fpOk{s:Shared}(I:Inv X pins σ H s)(hb:s.heap.objs.size<=b)(hn:H' b=none):jy X pins H' b:=by
 refine⟨hn,A8 (Wb I.lt hb),I.nofs hb,.inr (Qc I.sz hb),fun x c e z=>?_,fun p hp z=>?_⟩
 ·obtain⟨v,q⟩:=I.cell x c e;exact absurd (Wb q.lt (by rw[z];exact hb)) (Yh _)
 ·exact absurd (Wb (Ah (I.pin p hp).1) (by rw[z];exact hb)) (Yh _)
structure Turn(P:Program)(w:World)(K:Aa)(tg:Expr)(J:It)(fp:List Addr)(it:Addr)(tn:Nat->Heap->Prop):Prop where
 mem:it∈fp
 obj:∀i h,tn i h->∀b∈fp,∃o,h.get? b=some o/\∀v,o.data≠.cell v
 keep:∀i h h',tn i h->(∀b∈fp,∀o,h.get? b=some o->h'.get? b=some o)->tn i h'
 item:∀(X:Cx),X.prog=P->X.w=w->X.K=K->X.calm=true->∀(i:Nat)(pins:List (Addr×Obj))(s:Shared)(σ:St)(H:Hp)(E:Value->Shared->Prop),Inv X pins σ H s->(∀b∈fp,jy X pins H b)->tn i s.heap->J.go i H ->
  wpAny (model P w) X.A (pyNext (.ref it)) (fun r s1=>∃u,r=some u /\
   wpAny (model P w) X.A (letOwnedTupleGo tg (.ref it) u) (fun _ s2=>∃x H',Inv X pins σ H' s2/\RelV x u/\J.yld i H x H'/\tn (i+1) s2.heap/\∀b∈fp,H' b=none) E s1) E s
 done:∀(X:Cx),X.prog=P->X.w=w->X.K=K->X.calm=true->∀(i:Nat)(pins:List (Addr×Obj))(s:Shared)(σ:St)(H:Hp)(E:Value->Shared->Prop),Inv X pins σ H s->(∀b∈fp,jy X pins H b)->tn i s.heap->J.stop i H ->
  wpAny (model P w) X.A (pyNext (.ref it)) (fun r s1=>r=none/\Inv X pins σ H s1) E s
 self:∀(A:Around)(i:Nat)(s:Shared)(Q:Value->Shared->Prop)(E:Value->Shared->Prop),tn i s.heap->Q (.ref it) s->wpAny (model P w) A (pyIter (.ref it)) Q E s
abbrev TI:=St->Hp->(It->Hp->Prop)->Prop
inductive PIE(X:Cx)(pins:List (Addr×Obj))(σ:St)(tg:Expr)(R:It->Hp->Prop)(itv:Value)(s2:Shared):Prop
 | mk (it:Addr) (fp:List Addr) (tn:Nat->Heap->Prop) (J:It) (H':Hp) (e:itv=.ref it) (I:Inv X pins σ H' s2) (T:Turn X.prog X.w X.K tg J fp it tn) (t0:tn 0 s2.heap) (fo:∀b∈fp,jy X pins H' b) (r:R J H')
def PI(X:Cx)(tg iter:Expr)(wi:TI):Prop :=
 ∀(pins:List (Addr×Obj))(s:Shared)(σ:St)(H:Hp)(R:It->Hp->Prop),Inv X pins σ H s->wi σ H R ->
  wpAny (model X.prog X.w) X.A (eval iter X.env) (fun v s1=>wpAny (model X.prog X.w) X.A (pyIter v) (PIE X pins σ tg R) X.xe s1) X.xe s
theorem mM{s : Shared}{o : Obj}(ho : s.heap.get? it = some o)(hc : o.cls = .type n)(hd : o.data = .fields vs)
    (hn : ["enumerate", "zip", "dict_itemiterator", "dict_reverseitemiterator", "odict_iterator", "itertools.zip_longest", "itertools.pairwise"].contains n = false)(hQ : Q () s) : wpAny M A (letOwnedTupleGo tg (.ref it) u) Q E s := by
  unfold letOwnedTupleGo;cases tg <;> first
    | exact Ae hQ
    | (cases u <;> first
        | exact Ae hQ
        | (refine Ab (wpAny_load ho ?_)
           rw [hc, hd];show wpAny M A (if (["enumerate", "zip", "dict_itemiterator", "dict_reverseitemiterator", "odict_iterator", "itertools.zip_longest", "itertools.pairwise"].contains n && vs[0]? == some (rawInt _)) = true then _ else _) Q E s;rw [Ag (by intro h; rw [hn, Bool.false_and] at h; cases h)]
           exact Ae hQ))
def Itl(K:Aa)(a:Addr):It :=
 ⟨fun i H=>∃xs x,SqL K H a xs/\xs[i]?=some x,fun i H x H'=>H'=H/\∀xs,SqL K H a xs->xs[i]?=some x,fun i H=>∃xs,SqL K H a xs/\xs.length<=i⟩
def Itt(K:Aa)(a:Addr):It :=
 ⟨fun i H=>∃xs x,SqT K H a xs/\xs[i]?=some x,fun i H x H'=>H'=H/\∀xs,SqT K H a xs->xs[i]?=some x,fun i H=>∃xs,SqT K H a xs/\xs.length<=i⟩
def Itr(lo:Int)(n:Nat):It:=⟨fun i _=>i<n,fun i H x H'=>H'=H/\x=.int (lo+i),fun i _=>n<=i⟩
theorem tI{P:Program}{w:World}{K:Aa}{tg:Expr}(a it:Addr):Turn P w K tg (Itl K a) [it] it (fun i h=>h.IsListIter it a i) where
 mem:=by simp
 obj:=fun i h st b hb=>by
  have e:b=it:=by simpa using hb
  subst e;obtain⟨o,e,c,d⟩:=st;exact⟨o,e,fun v z=>by rw[d]at z;cases z⟩
 keep:=fun i h h' st k=>st.at fun o e=>k it (by simp) o e
 item:=by
  intro X hP hw hK hc i pins s σ H E I hf st hg;subst hP hw hK;obtain⟨xs,x,hq,hx⟩:=hg;obtain⟨its,rv,p,hz⟩:=I.list hq;obtain⟨u,hu,ru⟩:=rv.get hx;obtain⟨f0,f1,f2,f3,f4,f5⟩:=hf it (by simp)
  refine wpAny_pyNext_list_item st p.isList (x:=u) (by simpa using hu) fun h' st' sb=>?_
  have I1:Inv X pins σ H { s with heap:=h' }:=I.turned (t':=s.toks) (fun b o hb e=>(sb.2 b hb).trans e) f0 f1 f3 f4 f5;obtain⟨o,e,c,d⟩:=id st';exact⟨u,rfl,mM (s:={ s with heap:=h' }) e c d (by decide) ⟨x,H,I1,ru,⟨rfl,fun ys hy=>by rw[I.list_inj hy hq];exact hx⟩,st',fun b hb=>(hf b hb).1⟩⟩
 done:=by
  intro X hP hw hK hc i pins s σ H E I hf st hg;subst hP hw hK;obtain⟨xs,hq,hx⟩:=hg;obtain⟨its,rv,p,hz⟩:=I.list hq;obtain⟨f0,f1,f2,f3,f4,f5⟩:=hf it (by simp)
  have hl:=rv.length;exact wpAny_pyNext_list_end (I.ok.hd hc) st p.isList (by simp;lia) fun h' eb=>⟨rfl,I.turned (t':=s.toks) (fun b o hb e=>eb b o hb e) f0 f1 f3 f4 f5⟩
 self:=fun _ _ _ _ _ st h=>wpAny_pyIter_listiter st h
theorem qh{P:Program}{w:World}{K:Aa}{tg:Expr}(a it:Addr):Turn P w K tg (Itt K a) [it] it (fun i h=>h.IsTupleIter it a i) where
 mem:=by simp
 obj:=fun i h st b hb=>by
  have e:b=it:=by simpa using hb
  subst e;obtain⟨o,e,c,d⟩:=st;exact⟨o,e,fun v z=>by rw[d]at z;cases z⟩
 keep:=fun i h h' st k=>st.at fun o e=>k it (by simp) o e
 item:=by
  intro X hP hw hK hc i pins s σ H E I hf st hg;subst hP hw hK;obtain⟨xs,x,hq,hx⟩:=hg;obtain⟨its,rv,p,hz⟩:=I.tuple hq;obtain⟨u,hu,ru⟩:=rv.get hx;obtain⟨f0,f1,f2,f3,f4,f5⟩:=hf it (by simp)
  refine wpAny_pyNext_tuple_item st (show s.heap.IsTuple a its.toArray from p) (x:=u) (by simpa using hu) fun h' st' sb=>?_
  have I1:Inv X pins σ H { s with heap:=h' }:=I.turned (t':=s.toks) (fun b o hb e=>(sb.2 b hb).trans e) f0 f1 f3 f4 f5;obtain⟨o,e,c,d⟩:=id st';exact⟨u,rfl,mM (s:={ s with heap:=h' }) e c d (by decide) ⟨x,H,I1,ru,⟨rfl,fun ys hy=>by rw[I.tuple_inj hy hq];exact hx⟩,st',fun b hb=>(hf b hb).1⟩⟩
 done:=by
  intro X hP hw hK hc i pins s σ H E I hf st hg;subst hP hw hK;obtain⟨xs,hq,hx⟩:=hg;obtain⟨its,rv,p,hz⟩:=I.tuple hq;obtain⟨f0,f1,f2,f3,f4,f5⟩:=hf it (by simp)
  have hl:=rv.length;exact wpAny_pyNext_tuple_end (I.ok.hd hc) st (show s.heap.IsTuple a its.toArray from p) (by simp;lia) fun h' eb=>⟨rfl,I.turned (t':=s.toks) (fun b o hb e=>eb b o hb e) f0 f1 f3 f4 f5⟩
 self:=fun _ _ _ _ _ st h=>wpAny_pyIter_tupleiter st h
theorem qi{P:Program}{w:World}{K:Aa}{tg:Expr}(it:Addr)(lo:Int)(n:Nat):Turn P w K tg (Itr lo n) [it] it (fun i h=>IsRangeIter h it (lo+(i:Nat)*1) ((n:Int)-(i:Nat)) 1) where
 mem:=by simp
 obj:=fun i h st b hb=>by
  have e:b=it:=by simpa using hb
  subst e
  exact⟨_,st,fun v z=>by
   have z':Data.fields _=Data.cell v:=z
   cases z'⟩
 keep:=fun i h h' st k=>k it (by simp) _ st
 item:=by
  intro X hP hw hK hc i pins s σ H E I hf st hg;subst hP hw hK;obtain⟨f0,f1,f2,f3,f4,f5⟩:=hf it (by simp)
  have W:=Walks.range (prog:=X.prog) (w:=X.w) (I.ok.hd hc) it lo 1 n;refine W.item i s _ _ hg st fun v h' tk hv st' kk=>?_;obtain⟨t,rfl⟩:=hv;have I1:Inv X pins σ H { s with heap:=h',toks:=tk }:=I.turned (fun b o hb e=>kk b o (by simpa using hb) e) f0 f1 f3 f4 f5
  refine⟨_,rfl,mM (s:={ s with heap:=h',toks:=tk }) (n:="range_iterator") st' rfl rfl (by decide) ⟨.int (lo+i),H,I1,⟨t,?_⟩,⟨rfl,rfl⟩,st',fun b hb=>(hf b hb).1⟩⟩
  rw[Int.mul_one]
 done:=by
  intro X hP hw hK hc i pins s σ H E I hf st hg;subst hP hw hK;obtain⟨f0,f1,f2,f3,f4,f5⟩:=hf it (by simp)
  exact wpAny_pyNext_range_end (I.ok.hd hc) st (by have:n<=i:=hg;lia) fun h' eb=>⟨rfl,I.turned (t':=s.toks) (fun b o hb e=>eb b o hb e) f0 f1 f3 f4 f5⟩
 self:=fun _ _ _ _ _ st h=>wpAny_pyIter_rangeiter st h
end L2
namespace L2
open PySem PySem.Spec PyProof.Rows
section
variable {X:Cx}{tg:Expr}
def rD(K:Aa)(tl:TE):TI:=fun σ H R=>tl σ H fun x H1=>∃a,x=.ref a/\(∃xs,SqL K H1 a xs)/\R (Itl K a) H1
def DK(K:Aa)(tl:TE):TI:=fun σ H R=>tl σ H fun x H1=>∃a,x=.ref a/\(∃xs,SqT K H1 a xs)/\R (Itt K a) H1
theorem xY{l:Expr}{tl:TE}(hl:PE X l tl):PI X tg l (rD X.K tl):=by
 intro pins s σ H R I h;refine thn (hl pins s σ H _ I h) fun v s1 zz9=>?_;obtain⟨x,H1,I1,r1,q1⟩:=zz9;obtain⟨a,e,⟨xs,hq⟩,q⟩:=q1;subst e;cases r1;obtain⟨its,rv,p,hz⟩:=I1.list hq;refine Bh p.isList ?_;refine⟨s1.heap.objs.size,[s1.heap.objs.size],_,_,H1,rfl,I1.kept (t':=s1.toks) fun b o e=>Ac _ e,tI a _,⟨_,Aj _ rfl,rfl,rfl⟩,fun b hb=>?_,q⟩;have e:b=s1.heap.objs.size:=by simpa using hb
 subst e;exact I1.fpOk (Wa _) (I1.hok.fresh (Wa _))
theorem DL{l:Expr}{tl:TE}(hl:PE X l tl):PI X tg l (DK X.K tl):=by
 intro pins s σ H R I h;refine thn (hl pins s σ H _ I h) fun v s1 zz9=>?_;obtain⟨x,H1,I1,r1,q1⟩:=zz9;obtain⟨a,e,⟨xs,hq⟩,q⟩:=q1;subst e;cases r1;obtain⟨its,rv,p,hz⟩:=I1.tuple hq;refine wpAny_pyIter_tuple (show s1.heap.IsTuple a its.toArray from p) ?_;refine⟨s1.heap.objs.size,[s1.heap.objs.size],_,_,H1,rfl,I1.kept (t':=s1.toks) fun b o e=>Ac _ e,qh a _,⟨_,Aj _ rfl,rfl,rfl⟩,fun b hb=>?_,q⟩;have e:b=s1.heap.objs.size:=by simpa using hb
 subst e;exact I1.fpOk (Wa _) (I1.hok.fresh (Wa _))
theorem uW{s:Shared}{R:It->Hp->Prop}{E:Value->Shared->Prop}{lo hi:Int}{t u v:Tok}{tk:Nat}(I:Inv X pins σ H s)(h1:-(2 ^ 62)<=lo)(h2:lo<2 ^ 62)(h3:-(2 ^ 62)<=hi)(h4:hi<2 ^ 62)
  (q:R (Itr lo (hi-lo).toNat) H):wpAny (model X.prog X.w) X.A (pyIter (.ref s.heap.objs.size)) (PIE X pins σ tg R) E { s with heap:=s.heap.push { cls:=.type "range",data:=.fields #[.int lo t,.int hi u,.int 1 v] },toks:=tk }:=by
 refine wpAny_pyIter_range (IsRange.new ..) (small_one h1 h2 h3 h4) ?_;have I1:Inv X pins σ H { s with heap:=s.heap.push { cls:=.type "range",data:=.fields #[.int lo t,.int hi u,.int 1 v] },toks:=tk }:=I.kept fun b o e=>Ac _ e
 refine⟨(s.heap.push { cls:=.type "range",data:=.fields #[.int lo t,.int hi u,.int 1 v] }).objs.size,[(s.heap.push { cls:=.type "range",data:=.fields #[.int lo t,.int hi u,.int 1 v] }).objs.size],_,_,H,rfl,
  I1.kept (t':=tk) fun b o e=>Ac _ e,qi _ lo (hi-lo).toNat,?_,fun b hb=>?_,q⟩
 ·have e1:lo+((0:Nat):Int)*1=lo:=by simp
  have e2:(((hi-lo).toNat:Nat):Int)-((0:Nat):Int)=Builtin.Range.rangeSize lo hi 1:=by rw[rangeSize_one];split<;>lia
  show IsRangeIter _ _ (lo+((0:Nat):Int)*1) ((((hi-lo).toNat:Nat):Int)-((0:Nat):Int)) 1;rw[e1,e2];exact Aj _ rfl
 ·have e:b=(s.heap.push { cls:=.type "range",data:=.fields #[.int lo t,.int hi u,.int 1 v] }).objs.size:=by simpa using hb
  subst e;exact I1.fpOk (Wa _) (I1.hok.fresh (Wa _))
def zS(ta:TA):TI:=fun σ H R=>ta σ H fun vs H1=>∃j:Int,vs=[.int j]/\-(2 ^ 62)<=j/\j<2 ^ 62/\R (Itr 0 j.toNat) H1
theorem fE{ta:TA}(hg:Gl X "range")(hm:X.mg "range"=none)(ha:PA X [a] ta)(hs:starEach [a] X.env=[(false,eval a X.env)]:=by rfl):PI X tg (.Call (.Name "range" p) [a] [] pos) (zS ta):=by
 intro pins s σ H R I h;refine Call_ (fL I hg hm boot_range (Az (thn (ha pos pins s σ H _ I h) fun us s1 zz9=>?_) hs rfl));obtain⟨vs,H1,I1,r1,q1⟩:=zz9;obtain⟨j,e,q1,q2,q⟩:=q1;subst e;cases r1 with
 | cons r rr =>
  cases rr;obtain⟨t,rfl⟩:=r;exact call_range_1 (uW I1 (by lia) (by lia) q1 q2 (by simpa using q))
def F9(wi:TI)(g:TG)(tb:TS):TS:=fun D σ H=>wi σ H fun J H1=>∃W:Nat->Nat->St->Hp->Prop,(∃m,W 0 m σ H1)/\∀i m σ H,W i m σ H ->
 (J.stop i H/\D.nx σ H)∨(J.go i H/\∃N:St->Hp->Prop,(∀σ' H',N σ' H'->∃m',m'<m/\W (i+1) m' σ' H')/\∀x H',J.yld i H x H'->g x σ H' fun σ2 H2=>tb { D with nx:=N,ct:=N,bk:=D.nx } σ2 H2)
def kP(fp:List Addr)(h:Heap):List (Addr×Obj):=fp.filterMap fun b=>(h.get? b).map fun o=>(b,o)
theorem fN{h:Heap}(hb:b∈fp)(e:h.get? b=some o):(b,o)∈kP fp h:=List.mem_filterMap.mpr ⟨b,hb,by rw[e];rfl⟩
theorem tJ{h:Heap}(hp:p∈kP fp h):p.1∈fp/\h.get? p.1=some p.2:=by
 obtain⟨b,hb,e⟩:=List.mem_filterMap.mp hp;cases q:h.get? b with
 | none=>rw[q]at e;cases e
 | some o =>
  rw[q]at e;have e':(b,o)=p:=Option.some.inj e;subst e';exact⟨hb,q⟩
theorem Inv.pinned{s:Shared}(I:Inv X pins σ H s)(hf:∀b∈fp,jy X pins H b)(ho:∀b∈fp,∃o,s.heap.get? b=some o/\∀v,o.data≠.cell v):Inv X (pins++kP fp s.heap) σ H s :=
 I.pins_of fun p hp=>(Vf.mp hp).elim (fun z=>I.pin p (Xe _ z)) fun z=>by
  obtain⟨hb,e⟩:=tJ z;obtain⟨f0,f1,f2,_⟩:=hf p.1 hb;obtain⟨o,e',d⟩:=ho p.1 hb;rw[e]at e';cases e';exact⟨e,f0,f1,f2,d⟩
theorem Inv.unpinned(I:Inv X (pins++pl) σ H s):Inv X pins σ H s:=I.pins_of fun p hp=>I.pin p (Xe _ (Qi _ hp))
theorem dC(hp:PassesOwn (model X.prog X.w) X.A X.env X.xe)(hc:X.calm=true)(hi:PI X tg iter wi)(hg:PG X tg g)(hb:PSs X body tb)
  (hs:∀x,foldedSetIterable iter X.env x=pure x:=by intro _;rfl):PS X (.For tg iter body [] pos) (F9 wi g tb):=by
 intro pins s σ H D I h;refine wpAny_For (thn (hi pins s σ H _ I h) fun v s1 h1=>thn h1 fun itv s2 h2=>?_) hs;obtain⟨it,fp,tn,J,H2,e,I2,T,st2,f2,W,⟨m0,w0⟩,turn⟩:=h2;subst e;have stat:∀{H':Hp},(∀b∈fp,H' b=none)->∀b∈fp,jy X pins H' b:=fun hn b hb=>⟨hn b hb,(f2 b hb).2⟩;refine codeAny_forLoop_any (fun n s'=>∃i σ' H',Inv X pins σ' H' s'/\tn i s'.heap/\(∀b∈fp,H' b=none)/\W i n σ' H') ?_ m0 ⟨0,σ,H2,I2,st2,fun b hb=>(f2 b hb).1,w0⟩;rintro n s3 ⟨i,σ3,H3,I3,st3,fr3,w3⟩;rcases turn i n σ3 H3 w3 with⟨stop,qn⟩|⟨go,N,hN,step⟩
 ·refine A0 hp (thn (T.done X rfl rfl rfl hc i pins s3 σ3 H3 X.xe I3 (stat fr3) st3 stop) fun r s4 zz9=>?_);obtain⟨hr,I4⟩:=zz9;subst hr;exact A1 ⟨σ3,H3,I4,qn⟩
 ·refine A0 hp (thn (T.item X rfl rfl rfl hc i pins s3 σ3 H3 X.xe I3 (stat fr3) st3 go) fun r s4 zz9=>?_);obtain⟨u,hr,h4⟩:=zz9;subst hr;refine A0 hp (thn h4 fun _ s5 zz9=>?_);obtain⟨x,H5,I5,r5,y5,st5,fr5⟩:=zz9;have I5':=I5.pinned (stat fr5) (T.obj _ _ st5);refine A0 hp (thn (hg _ s5 σ3 H5 x u _ I5' r5 (step x H5 y5)) fun _ s6 zz9=>?_);obtain⟨σ6,H6,I6,q6⟩:=zz9;refine A0 hp (thn (hb _ s6 σ6 H6 _ I6 q6) fun f s7 q7=>?_);have again:∀{σ7:St}{H7:Hp},Inv X (pins++kP fp s5.heap) σ7 H7 s7->N σ7 H7->∃m,m<n/\∃i σ' H',Inv X pins σ' H' s7/\tn i s7.heap/\(∀b∈fp,H' b=none)/\W i m σ' H':=fun {σ7 H7} I7 n7=>by
   obtain⟨m',hm,w7⟩:=hN σ7 H7 n7;refine⟨m',hm,i+1,σ7,H7,I7.unpinned,T.keep _ _ _ st5 fun b hb o e=>(I7.pin (b,o) (Xe _ (Xe _ (fN hb e)))).1,fun b hb=>?_,w7⟩;obtain⟨o,e,d⟩:=T.obj _ _ st5 b hb;exact(I7.pin (b,o) (Xe _ (Xe _ (fN hb e)))).2.1
  cases f with
  | next=>obtain⟨σ7,H7,I7,n7⟩:=q7;exact again I7 n7
  | cont=>obtain⟨σ7,H7,I7,n7⟩:=q7;exact again I7 n7
  | brk=>obtain⟨σ7,H7,I7,q7⟩:=q7;exact⟨σ7,H7,I7.unpinned,q7⟩
  | ret v=>obtain⟨x7,σ7,H7,I7,r7,q7⟩:=q7;exact⟨x7,σ7,H7,I7.unpinned,r7,q7⟩
end
end L2
namespace L2
open PySem PySem.Spec PyProof.Rows
abbrev R2:=V->V->Hp->VK->Prop
def OpR(X:Cx)(f:Value->Value->Sem Value)(r:R2):Prop :=
 ∀(pins:List (Addr×Obj))(s:Shared)(σ:St)(H:Hp)(x y:V)(v u:Value)(Q:VK),Inv X pins σ H s->RelV x v->RelV y u->r x y H Q ->
  wpAny (model X.prog X.w) X.A (f v u) (EP X pins σ Q) X.xe s
def UnR(X:Cx)(f:Value->Sem Value)(r:V->Hp->VK->Prop):Prop :=
 ∀(pins:List (Addr×Obj))(s:Shared)(σ:St)(H:Hp)(x:V)(v:Value)(Q:VK),Inv X pins σ H s->RelV x v->r x H Q ->
  wpAny (model X.prog X.w) X.A (f v) (EP X pins σ Q) X.xe s
def CallR(X:Cx)(f:Value)(r:List V->Hp->VK->Prop):Prop :=
 ∀(pins:List (Addr×Obj))(s:Shared)(σ:St)(H:Hp)(xs:List V)(us:List Value)(Q:VK),Inv X pins σ H s->Vals xs us->r xs H Q ->
  wpAny (model X.prog X.w) X.A (call f us) (EP X pins σ Q) X.xe s
def Hu(X:Cx)(r:V->Hp->(Bool->Hp->Prop)->Prop):Prop :=
 ∀(pins:List (Addr×Obj))(s:Shared)(σ:St)(H:Hp)(x:V)(v:Value)(Q:Bool->Hp->Prop),Inv X pins σ H s->RelV x v->r x H Q ->
  wpAny (model X.prog X.w) X.A (truthy v) (TP X pins σ Q) X.xe s
def tOp(r:R2)(ta tb:TE):TE:=fun σ H Q=>ta σ H fun x H1=>tb σ H1 fun y H2=>r x y H2 Q
def tUn(r:V->Hp->VK->Prop)(ta:TE):TE:=fun σ H Q=>ta σ H fun x H1=>r x H1 Q
def rI(C:Int->Int->Prop)(g:Int->Int->V):R2:=fun x y H Q=>∃i j,x=.int i/\y=.int j/\C i j/\Q (g i j) H
def rI0(g:Int->Int->V):R2:=fun x y H Q=>∃i j,x=.int i/\y=.int j/\Q (g i j) H
def rU(g:Int->V):V->Hp->VK->Prop:=fun x H Q=>∃i,x=.int i/\Q (g i) H
section
variable {X:Cx}{a b c:Expr}{ta tb tc:TE}{pos:Pos}
theorem DM(ha:PE X a ta)(hb:PE X b tb){R:V->V->Hp->Prop}(I:Inv X pins σ H s)
  (h:ta σ H fun x H1=>tb σ H1 fun y H2=>R x y H2){Q:Value->Shared->Prop}{f:Value->Value->Sem Value}
  (hf:∀v u s2 x y H2,Inv X pins σ H2 s2->RelV x v->RelV y u->R x y H2->wpAny (model X.prog X.w) X.A (f v u) Q X.xe s2) :
  wpAny (model X.prog X.w) X.A (eval a X.env) (fun v s₁=>wpAny (model X.prog X.w) X.A (eval b X.env) (fun u s₂=>wpAny (model X.prog X.w) X.A (f v u) Q X.xe s₂) X.xe s₁) X.xe s:=by
 refine thn (ha pins s σ H _ I h) fun v s1 zz9=>?_;obtain⟨x,H1,I1,r1,q1⟩:=zz9;refine thn (hb pins s1 σ H1 _ I1 q1) fun u s2 zz9=>?_;obtain⟨y,H2,I2,r2,q2⟩:=zz9;exact hf v u s2 x y H2 I2 r1 r2 q2
theorem aM{op:Operator}{r:R2}(ho:OpR X (binaryOp op) r)(ha:PE X a ta)(hb:PE X b tb):PE X (.BinOp a op b pos) (tOp r ta tb):=by
 intro pins s σ H Q I h;exact wpAny_BinOp (DM ha hb I h fun v u s2 x y H2 I2 rx ry q=>ho pins s2 σ H2 x y v u Q I2 rx ry q)
theorem uX(ho:UnR X (unaryOp op) r)(ha:PE X a ta):PE X (.UnaryOp op a pos) (tUn r ta):=by
 intro pins s σ H Q I h;exact UnaryOp_ (thn (ha pins s σ H _ I h) fun v s1 ⟨x,H1,I1,r1,q1⟩=>ho pins s1 σ H1 x v Q I1 r1 q1)
theorem opI{f:Value->Value->Sem Value}{C:Int->Int->Prop}{g:Int->Int->Int}
  (rule:∀(i j:Int)(t u:Tok)(s:Shared)(Q:Value->Shared->Prop)(E:Value->Shared->Prop),C i j->Q (.int (g i j) s.toks) { s with toks:=s.toks+1 }->wpAny (model X.prog X.w) X.A (f (.int i t) (.int j u)) Q E s) :
  OpR X f (rI C fun i j=>.int (g i j)):=by
 intro pins s σ H x y v u Q I rx ry h;obtain⟨i,j,rfl,rfl,hc,q⟩:=h;obtain⟨t,rfl⟩:=rx;obtain⟨t',rfl⟩:=ry;exact rule i j t t' s _ _ hc ⟨.int (g i j),H,I.tok _,⟨_,rfl⟩,q⟩
theorem Ga{f:Value->Value->Sem Value}{g:Int->Int->Int}
  (rule:∀(i j:Int)(t u:Tok)(s:Shared)(Q:Value->Shared->Prop)(E:Value->Shared->Prop),Q (.int (g i j) s.toks) { s with toks:=s.toks+1 }->wpAny (model X.prog X.w) X.A (f (.int i t) (.int j u)) Q E s) :
  OpR X f (rI0 fun i j=>.int (g i j)):=by
 intro pins s σ H x y v u Q I rx ry h;obtain⟨i,j,rfl,rfl,q⟩:=h;obtain⟨t,rfl⟩:=rx;obtain⟨t',rfl⟩:=ry;exact rule i j t t' s _ _ ⟨.int (g i j),H,I.tok _,⟨_,rfl⟩,q⟩
theorem xZ{f:Value->Value->Sem Value}{g:Int->Int->Bool}
  (rule:∀(i j:Int)(t u:Tok)(s:Shared)(Q:Value->Shared->Prop)(E:Value->Shared->Prop),Q (.bool (g i j)) s->wpAny (model X.prog X.w) X.A (f (.int i t) (.int j u)) Q E s) :
  OpR X f (rI0 fun i j=>.bl (g i j)):=by
 intro pins s σ H x y v u Q I rx ry h;obtain⟨i,j,rfl,rfl,q⟩:=h;obtain⟨t,rfl⟩:=rx;obtain⟨t',rfl⟩:=ry;exact rule i j t t' s _ _ ⟨.bl (g i j),H,I,rfl,q⟩
def qj(i j:Int):Prop:=0<j/\j<1073741824
def uY(i j:Int):Prop:=0<=j/\j<=1000000/\i.natAbs<2 ^ 64
def CMul(i j:Int):Prop:=(-(2 ^ 64)<i/\i<2 ^ 64)∨(-(2 ^ 64)<j/\j<2 ^ 64)
theorem CMul.ok(h:CMul i j):IntMulOk i j:=by
 rcases h with⟨h1,h2⟩|⟨h1,h2⟩
 ·exact .of_left (intBits_le_64 h1 h2)
 ·exact .of_right (intBits_le_64 h1 h2)
theorem op_add:OpR X (binaryOp .Add) (rI0 fun i j=>.int (i+j)):=Ga fun _ _ _ _ _ _ _ q=>add_int q
theorem eS:OpR X (binaryOp .Sub) (rI0 fun i j=>.int (i-j)):=Ga fun _ _ _ _ _ _ _ q=>sub_int q
theorem op_mul:OpR X (binaryOp .Mult) (rI CMul fun i j=>.int (i*j)):=opI fun _ _ _ _ _ _ _ hc q=>mul_int q hc.ok
theorem ku:OpR X (binaryOp .FloorDiv) (rI qj fun i j=>.int (i / j)):=opI fun i j _ _ _ _ _ hc q=>by
 have h1:(0:Int)<j:=hc.1;have h2:j<1073741824:=hc.2;exact floordiv_int (by lia) (by rw[Int.fdiv_eq_ediv_of_nonneg i (by lia)];exact q) (.inl (PyProof.noPylong_small (by lia)))
theorem eU:OpR X (binaryOp .Mod) (rI (fun _ j=>0<j) fun i j=>.int (i % j)):=opI fun i j _ _ _ _ _ hc q=>by
 have h1:(0:Int)<j:=hc;exact mod_int' (by lia) (by rw[Int.fmod_eq_emod_of_nonneg i (by lia)];exact q)
theorem DN:OpR X (binaryOp .Pow) (rI uY fun i j=>.int (i ^ j.toNat)):=opI fun _ _ _ _ _ _ _ hc q=>pow_int_small hc.1 hc.2.1 hc.2.2 q
theorem unI{f:Value->Sem Value}{g:Int->Int}
  (rule:∀(i:Int)(t:Tok)(s:Shared)(Q:Value->Shared->Prop)(E:Value->Shared->Prop),Q (.int (g i) s.toks) { s with toks:=s.toks+1 }->wpAny (model X.prog X.w) X.A (f (.int i t)) Q E s) :
  UnR X f (rU fun i=>.int (g i)):=by
 intro pins s σ H x v Q I rx h;obtain⟨i,rfl,q⟩:=h;obtain⟨t,rfl⟩:=rx;exact rule i t s _ _ ⟨.int (g i),H,I.tok _,⟨_,rfl⟩,q⟩
theorem qk:UnR X (unaryOp .USub) (rU fun i=>.int (-i)):=unI fun _ _ _ _ _ q=>neg_int q
end
def DO:V->V->Bool
 | .non,.non=>true|.non,.int _=>true|.int _,.non=>true|.non,.bl _=>true|.bl _,.non=>true|.non,.str _=>true|.str _,.non=>true
 | .int _,.int _=>true|.bl _,.bl _=>true|.str _,.str _=>true|.byt _,.byt _=>true
 | .int _,.str _=>true|.str _,.int _=>true|.bl _,.str _=>true|.str _,.bl _=>true
 | _,_=>false
def rEq:R2:=fun x y H Q=>DO x y=true/\Q (.bl (decide (x=y))) H
def rNe:R2:=fun x y H Q=>DO x y=true/\Q (.bl (!decide (x=y))) H
theorem rE:decide (V.int i=V.int j)=(i == j):=by
 rw[Yg];simp
theorem uZ:decide (V.bl i=V.bl j)=(i == j):=by
 rw[Yg];simp
theorem rF:decide (V.str i=V.str j)=(i == j):=by
 rw[Yg];simp
theorem rG{i j:Array UInt8}:decide (V.byt i=V.byt j)=(i.toList == j.toList):=by
 rw[Yg];cases i;cases j;simp
section
variable {X:Cx}{a b c:Expr}{ta tb tc:TE}{pos:Pos}
theorem aQ(I:Inv X pins σ H s)(q:Q (.bl k) H)(e:k=k'):EP X pins σ Q (.bool k') s:=by
 subst e;exact⟨.bl k,H,I,rfl,q⟩
theorem kQ:OpR X (compareOp .Eq) rEq:=by
 intro pins s σ H x y v u Q I rx ry h;obtain⟨hs,q⟩:=h;cases x with
 | non =>
  cases rx;cases y with
  | non=>cases ry;exact PySem.EqNone.eq_none_none (aQ I q (by simp))
  | bl j=>cases ry;exact PySem.EqNone.eq_none_bool (aQ I q (by simp))
  | int j=>obtain⟨t',rfl⟩:=ry;exact PySem.EqNone.eq_none_int (aQ I q (by simp))
  | str j=>obtain⟨t',rfl⟩:=ry;exact PySem.EqNone.eq_none_str (aQ I q (by simp))
  | _=>exact absurd (show false=true from hs) Qb
 | bl i =>
  cases rx;cases y with
  | non=>cases ry;exact PySem.EqNone.eq_bool_none (aQ I q (by simp))
  | bl j=>cases ry;exact eq_bool (aQ I q uZ)
  | str j=>obtain⟨t',rfl⟩:=ry;exact PySem.EqMixed.eq_bool_str (aQ I q (by simp))
  | _=>exact absurd (show false=true from hs) Qb
 | int i =>
  obtain⟨t,rfl⟩:=rx;cases y with
  | non=>cases ry;exact PySem.EqNone.eq_int_none (aQ I q (by simp))
  | int j=>obtain⟨t',rfl⟩:=ry;exact eq_int (aQ I q rE)
  | str j=>obtain⟨t',rfl⟩:=ry;exact PySem.EqMixed.eq_int_str (aQ I q (by simp))
  | _=>exact absurd (show false=true from hs) Qb
 | str i =>
  obtain⟨t,rfl⟩:=rx;cases y with
  | non=>cases ry;exact PySem.EqNone.eq_str_none (aQ I q (by simp))
  | bl j=>cases ry;exact PySem.EqMixed.eq_str_bool (aQ I q (by simp))
  | int j=>obtain⟨t',rfl⟩:=ry;exact PySem.EqMixed.eq_str_int (aQ I q (by simp))
  | str j=>obtain⟨t',rfl⟩:=ry;exact eq_str (aQ I q rF)
  | _=>exact absurd (show false=true from hs) Qb
 | byt i =>
  obtain⟨t,rfl⟩:=rx;cases y with
  | byt j=>obtain⟨t',rfl⟩:=ry;exact PySem.W.eq_bytes (aQ I q rG)
  | _=>exact absurd (show false=true from hs) Qb
 | _=>cases y<;>exact absurd (show false=true from hs) Qb
theorem op_ne:OpR X (compareOp .NotEq) rNe:=by
 intro pins s σ H x y v u Q I rx ry h;obtain⟨hs,q⟩:=h;cases x with
 | non =>
  cases rx;cases y with
  | non=>cases ry;exact PySem.EqNone.ne_none_none (aQ I q (by simp))
  | bl j=>cases ry;exact PySem.EqNone.ne_none_bool (aQ I q (by simp))
  | int j=>obtain⟨t',rfl⟩:=ry;exact PySem.EqNone.ne_none_int (aQ I q (by simp))
  | str j=>obtain⟨t',rfl⟩:=ry;exact PySem.EqNone.ne_none_str (aQ I q (by simp))
  | _=>exact absurd (show false=true from hs) Qb
 | bl i =>
  cases rx;cases y with
  | non=>cases ry;exact PySem.EqNone.ne_bool_none (aQ I q (by simp))
  | bl j=>cases ry;exact ne_bool (aQ I q (congrArg not uZ))
  | str j=>obtain⟨t',rfl⟩:=ry;exact PySem.EqMixed.ne_bool_str (aQ I q (by simp))
  | _=>exact absurd (show false=true from hs) Qb
 | int i =>
  obtain⟨t,rfl⟩:=rx;cases y with
  | non=>cases ry;exact PySem.EqNone.ne_int_none (aQ I q (by simp))
  | int j=>obtain⟨t',rfl⟩:=ry;exact ne_int (aQ I q (congrArg not rE))
  | str j=>obtain⟨t',rfl⟩:=ry;exact PySem.EqMixed.ne_int_str (aQ I q (by simp))
  | _=>exact absurd (show false=true from hs) Qb
 | str i =>
  obtain⟨t,rfl⟩:=rx;cases y with
  | non=>cases ry;exact PySem.EqNone.ne_str_none (aQ I q (by simp))
  | bl j=>cases ry;exact PySem.EqMixed.ne_str_bool (aQ I q (by simp))
  | int j=>obtain⟨t',rfl⟩:=ry;exact PySem.EqMixed.ne_str_int (aQ I q (by simp))
  | str j=>obtain⟨t',rfl⟩:=ry;exact ne_str (aQ I q (congrArg not rF))
  | _=>exact absurd (show false=true from hs) Qb
 | byt i =>
  obtain⟨t,rfl⟩:=rx;cases y with
  | byt j=>obtain⟨t',rfl⟩:=ry;exact PySem.W.ne_bytes (aQ I q (congrArg not rG))
  | _=>exact absurd (show false=true from hs) Qb
 | _=>cases y<;>exact absurd (show false=true from hs) Qb
theorem op_lt:OpR X (compareOp .Lt) (rI0 fun i j=>.bl (decide (i<j))):=xZ fun _ _ _ _ _ _ _ q=>lt_int q
theorem Gb:OpR X (compareOp .LtE) (rI0 fun i j=>.bl (decide (i<=j))):=xZ fun _ _ _ _ _ _ _ q=>le_int q
theorem u3:OpR X (compareOp .Gt) (rI0 fun i j=>.bl (decide (j<i))):=xZ fun _ _ _ _ _ _ _ q=>gt_int q
theorem zT:OpR X (compareOp .GtE) (rI0 fun i j=>.bl (decide (j<=i))):=xZ fun _ _ _ _ _ _ _ q=>ge_int q
theorem tK:OpR X (compareOp .Lt) (fun x y H Q=>∃i j,x=.str i/\y=.str j/\Q (.bl (decide (i.cps.toList<j.cps.toList))) H):=by
 intro pins s σ H x y v u Q I rx ry h;obtain⟨i,j,rfl,rfl,q⟩:=h;obtain⟨t,rfl⟩:=rx;obtain⟨t',rfl⟩:=ry;exact lt_str (aQ I q rfl)
theorem op_in_str:OpR X (compareOp .In) (fun x y H Q=>∃i j,x=.str i/\y=.str j/\Q (.bl (!(Builtin.Str.occurrences j i 0 j.length 1).isEmpty)) H):=by
 intro pins s σ H x y v u Q I rx ry h;obtain⟨i,j,rfl,rfl,q⟩:=h;obtain⟨t,rfl⟩:=rx;obtain⟨t',rfl⟩:=ry;exact in_str (aQ I q rfl)
theorem op_notin_str:OpR X (compareOp .NotIn) (fun x y H Q=>∃i j,x=.str i/\y=.str j/\Q (.bl (!(!(Builtin.Str.occurrences j i 0 j.length 1).isEmpty))) H):=by
 intro pins s σ H x y v u Q I rx ry h;obtain⟨i,j,rfl,rfl,q⟩:=h;obtain⟨t,rfl⟩:=rx;obtain⟨t',rfl⟩:=ry;exact notIn_str (aQ I q rfl)
theorem OpR.or(h:OpR X f r)(h':OpR X f r'):OpR X f (fun x y H Q=>r x y H Q∨r' x y H Q):=by
 intro pins s σ H x y v u Q I rx ry q;rcases q with q|q
 ·exact h pins s σ H x y v u Q I rx ry q
 ·exact h' pins s σ H x y v u Q I rx ry q
theorem u4(b:Expr)(h:op≠.In:=by decide)(h2:op≠.NotIn:=by decide):behindInMarks op b=false:=by
 have e1:(op == CmpOp.In)=false:=by cases op<;>first|rfl|exact absurd rfl h
 have e2:(op == CmpOp.NotIn)=false:=by cases op<;>first|rfl|exact absurd rfl h2
 cases b<;>simp[behindInMarks,e1,e2]
theorem x6(ho:OpR X (compareOp op) r)(ha:PE X a ta)(hb:PE X b tb)(hm:behindInMarks op b=false):PE X (.Compare a [op] [b] pos) (tOp r ta tb):=by
 intro pins s σ H Q I h;exact wpAny_Compare1 (DM ha hb I h fun v u s2 x y H2 I2 rx ry q=>ho pins s2 σ H2 x y v u Q I2 rx ry q) hm
def u5(t:TE):TT:=fun σ H Q=>t σ H fun x H'=>∃k,x=.bl k/\Q k H'
theorem kx(ho:OpR X (compareOp op) r)(ha:PE X a ta)(hb:PE X b tb)(hm:behindInMarks op b=false):PT X (.Compare a [op] [b] pos) (u5 (tOp r ta tb)):=by
 intro pins s σ H Q I h
 refine wpAny_isTrue_Compare1 (thn (ha pins s σ H _ I h) fun v s1 ⟨x,H1,I1,r1,q1⟩=>thn (hb pins s1 σ H1 _ I1 q1) fun u s2 ⟨y,H2,I2,r2,q2⟩ =>
  thn (ho pins s2 σ H2 x y v u _ I2 r1 r2 q2) fun c s3 ⟨z,H3,I3,r3,k,e,q3⟩=>?_) hm
 subst e;cases r3;exact AG ⟨H3,I3,q3⟩
def DP(K:Aa)(x:V)(H:Hp)(k:Bool):Prop :=
 match x with
 | .non=>k=false
 | .bl b=>k=b
 | .int i=>k=(i != 0)
 | .str y=>y.length<=sizeLine/\k=((y.length:Int) != 0)
 | .byt y=>y.size<=sizeLine/\k=((y.size:Int) != 0)
 | .ref p=>(∃xs,SqL K H p xs/\k=!xs.isEmpty)∨(∃xs,SqT K H p xs/\k=!xs.isEmpty)∨∃kvs,H p=some (.dK kvs)/\k=!kvs.isEmpty
 | _=>False
theorem ql{kvs:List (κ×V)}{vs:List (κ×Value)}(r:KV kvs vs):(!vs.isEmpty)=!kvs.isEmpty:=by
 cases r<;>rfl
theorem kR{xs:List V}{its:List Value}(r:Vals xs its):(!its.toArray.isEmpty)=!xs.isEmpty:=by
 cases r<;>simp
theorem iq:(sizeLine:Nat)<2 ^ 63:=by rw[Bj];decide
theorem DQ:Hu X (fun x H Q=>∃k,DP X.K x H k/\Q k H):=by
 intro pins s σ H x v Q I rx h;obtain⟨k,e,q⟩:=h;have hl:=iq;have hs:sizeLine=16777216:=Bj;cases x with
 | non =>
  cases rx;have e':k=false:=e;subst e';exact truthy_none ⟨H,I,q⟩
 | bl b =>
  cases rx;have e':k=b:=e;subst e';exact AG ⟨H,I,q⟩
 | int i =>
  obtain⟨t,rfl⟩:=rx;have e':k=(i != 0):=e;subst e';exact PySem.P.truthy_int ⟨H,I,q⟩
 | str y =>
  obtain⟨t,rfl⟩:=rx;obtain⟨hy,e'⟩:y.length<=sizeLine/\k=((y.length:Int) != 0):=e;subst e';exact PySem.P.truthy_str (by lia) ⟨H,I.tok _,q⟩
 | byt y =>
  obtain⟨t,rfl⟩:=rx;obtain⟨hy,e'⟩:y.size<=sizeLine/\k=((y.size:Int) != 0):=e;subst e';exact PySem.W.truthy_bytes (by lia) ⟨H,I.tok _,q⟩
 | ref p =>
  cases rx;have e':(∃xs,SqL X.K H p xs/\k=!xs.isEmpty)∨(∃xs,SqT X.K H p xs/\k=!xs.isEmpty)∨∃kvs,H p=some (.dK kvs)/\k=!kvs.isEmpty:=e;rcases e' with⟨xs,hx,e'⟩|⟨xs,hx,e'⟩|⟨kvs,hx,e'⟩
  ·subst e';obtain⟨its,r,pl,hz⟩:=I.list hx;have hlen:=r.length;exact wpAny_truthy_list pl.isList (by simp only[Qa];lia) ⟨H,I.tok _,by rw[kR r];exact q⟩
  ·subst e';obtain⟨its,r,pl,hz⟩:=I.tuple hx;have hlen:=r.length;exact truthy_tuple pl (by simp only[Qa];lia) ⟨H,I.tok _,by rw[kR r];exact q⟩
  ·subst e';obtain⟨hz,hS,vs,r,m⟩:kvs.length<=sizeLine/\(p == sysModules)=false/\∃vs,KV kvs vs/\s.heap.DictOf (bp X.prog X.w) p vs:=I.hok p _ hx;have hlen:kvs.length=vs.length:=Paired.length r;exact wpAny_truthy_dict hS m (by lia) ⟨H,I.tok _,by rw[ql r];exact q⟩
 | _=>exact(show False from e).elim
theorem u6(ha:PE X a ta)(he:∀whole,isTrue a X.env whole=(do let v ← whole;standAt a.pos;holding [v] (truthy v))) :
  PT X a (fun σ H Q=>ta σ H fun x H'=>∃k,DP X.K x H' k/\Q k H'):=by
 intro pins s σ H Q I h;exact isTrue_plain (thn (ha pins s σ H _ I h) fun v s1 ⟨x,H1,I1,r1,q1⟩=>DQ pins s1 σ H1 x v Q I1 r1 q1) (he _)
theorem op_add_str:OpR X (binaryOp .Add) (fun x y H Q=>∃i j,x=.str i/\y=.str j/\i.length+j.length<=sizeLine/\Q (.str (i++j)) H):=by
 intro pins s σ H x y v u Q I rx ry h;obtain⟨i,j,rfl,rfl,hz,q⟩:=h;obtain⟨t,rfl⟩:=rx;obtain⟨t',rfl⟩:=ry;exact add_str (fun t' tk=>⟨.str (i++j),H,I.tok _,⟨_,rfl⟩,q⟩) hz
theorem vals1(r:Vals [x] us):∃u,us=[u]/\RelV x u:=by
 cases r with
 | cons r1 r2=>cases r2;exact⟨_,rfl,r1⟩
theorem vals2(r:Vals [x,y] us):∃u w',us=[u,w']/\RelV x u/\RelV y w':=by
 cases r with
 | cons r1 r2 =>
  cases r2 with
  | cons r3 r4=>cases r4;exact⟨_,_,rfl,r1,r3⟩
theorem iN:CallR X (.builtin "abs") (fun xs H Q=>∃i,xs=[.int i]/\Q (.int (if i<0 then -i else i)) H):=by
 intro pins s σ H xs us Q I r h;obtain⟨i,rfl,q⟩:=h;obtain⟨u,rfl,t,rfl⟩:=vals1 r;exact call_abs_int fun u tk=>⟨.int (if i<0 then -i else i),H,I.tok _,⟨_,rfl⟩,q⟩
theorem tL(hc:X.calm=true):CallR X (.builtin "min") (fun xs H Q=>∃i j,xs=[.int i,.int j]/\Q (.int (if j<i then j else i)) H):=by
 intro pins s σ H xs us Q I r h;obtain⟨i,j,rfl,q⟩:=h;obtain⟨u,w',rfl,⟨t,rfl⟩,⟨t',rfl⟩⟩:=vals2 r;refine min_two_ints (I.ok.hd hc) fun h' tk k=>⟨_,H,I.kept k,?_,q⟩;by_cases hj:j<i
 ·rw[Ad hj,Ad hj];exact⟨_,rfl⟩
 ·rw[Ag hj,Ag hj];exact⟨_,rfl⟩
theorem jz:CallR X (.type "int") (fun xs H Q=>(∃i,xs=[.int i]/\Q (.int i) H)∨∃k,xs=[.bl k]/\Q (.int (if k then 1 else 0)) H):=by
 intro pins s σ H xs us Q I r h;rcases h with⟨i,rfl,q⟩|⟨k,rfl,q⟩
 ·obtain⟨u,rfl,t,rfl⟩:=vals1 r;exact call_int_int ⟨.int i,H,I,⟨_,rfl⟩,q⟩
 ·obtain⟨u,rfl,r1⟩:=vals1 r;cases r1;exact call_int_bool ⟨.int (if k then 1 else 0),H,I.tok _,⟨_,rfl⟩,q⟩
end
end L2
namespace L2
open PySem PySem.Spec PyProof.Rows
structure ObjM(h:Heap)(x dx C:Addr)(mA:Str->Option Value):Prop where
 obj:h.get? x=some (PySem.W.instObj C dx)
 ns:h.Ns1 dx mA
 ne:dx≠x
theorem mN{h:Heap}(n:h.Ns1 dx mA):∃od,h.get? dx=some od/\∀name,PySem.W.lookIn name od=some (mA name):=by
 obtain⟨o,es,ep,ho,hd,hk,_,hm⟩:=n;refine⟨o,ho,fun name=>?_⟩;have e:=hm name;unfold nsFind findBy at e;rw[← Array.find?_toList]at e;unfold PySem.W.lookIn;rw[hd];dsimp only;split
 ·rename_i y q
  rw[q]at e;exact congrArg some e
 ·rename_i q
  rw[q]at e;have a:es.toList.any (·.refKey)=false:=by
   rw[List.any_eq_false];intro y hy;obtain⟨z,t,hkey⟩:=hk y (Array.mem_toList_iff.mp hy);simp[DictEntry.refKey,hkey]
  have a':¬ es.toList.any (·.refKey)=true:=by rw[a];exact Qb
  rw[Ag a'];exact congrArg some e
theorem ObjM.look(I:ObjM h x dx C mA):∃od,PySem.W.InstAt h x (PySem.W.instObj C dx) C (some od)/\∀name,PySem.W.lookIn name od=some (mA name) :=
 let ⟨od,ho,hl⟩:=mN I.ns
 ⟨od,⟨I.obj,rfl,rfl,ho⟩,hl⟩
theorem RelO.some_of(r:RelO (some v) o):∃u,o=some u/\RelV v u:=by
 cases o with
 | none=>exact(show False from r).elim
 | some u=>exact⟨u,rfl,r⟩
theorem tM(r:RelV v u):PySem.W.handedIn u=true:=by
 cases v with
 | non=>cases (show u=Value.none from r);rfl
 | bl b=>cases (show u=Value.bool b from r);rfl
 | int i=>obtain⟨t,e⟩:=(show ∃t,u=Value.int i t from r);cases e;rfl
 | str x=>obtain⟨t,e⟩:=(show ∃t,u=Value.str x t from r);cases e;rfl
 | byt b=>obtain⟨t,e⟩:=(show ∃t,u=Value.bytes b t from r);cases e;rfl
 | flt b=>obtain⟨t,e⟩:=(show ∃t,u=Value.float b t from r);cases e;rfl
 | ref a=>cases (show u=Value.ref a from r);rfl
 | ty n=>cases (show u=Value.type n from r);rfl
section
variable {P:Program}{w:World}{H H':Hp}{h h':Heap}{a C dx:Addr}{fs fs':List (Str×V)}
theorem x8(hok:HOk P w H h)(e:H a=some (.ins C dx fs)):∃mA,ObjM h a dx C mA/\(∀f,RelO (fs.lookup f) (mA f))/\PySem.Within mA (fs.map (·.1))/\fs.length<=1000/\H dx=some (.own a):=by
 obtain⟨d,z,ne,ob,mA,n,r,q⟩:=(show ObjOk P w H h a (.ins C dx fs) from hok a _ e);exact⟨mA,⟨ob,n,ne⟩,r,q,z,d⟩
end
structure Cls(K:Aa)(C:Addr):Prop where
 pg:PySem.W.plainGet K C Str.empty=true
 hd:PySem.W.hasDictIn K C=true
 po:PySem.W.plainOver K C=true
 sa:PySem.W.findIn K (.ref C) "__setattr__"=some (some (.builtin "object.__setattr__"))
theorem Cls.get{K:Aa}{C:Addr}(c:Cls K C)(f:Str):PySem.W.plainGet K C f=true:=c.pg
section
variable {X:Cx}{pins:List (Addr×Obj)}{σ:St}{H:Hp}{s:Shared}{a C dx:Addr}{fs:List (Str×V)}{f:Str}{v:V}{A:Around}{E:Value->Shared->Prop}
theorem x9(hb:attributeBase e f env (eval e env)=eval e env)
  (h:wpAny (model prog w) A (eval e env) (fun o s₁=>wpAny (model prog w) A (getAttr o f true) Q E s₁) E s):wpAny (model prog w) A (eval (.Attribute e f pos) env) Q E s :=
 Attribute_any_ h (by rw[arm_eval_Attribute,hb])
end
section
variable {X:Cx}{pins:List (Addr×Obj)}{σ:St}{H:Hp}{s:Shared}{A:Around}{E:Value->Shared->Prop}{Q:Value->Shared->Prop}{c:Value}{b:Bool}
inductive TyOf(K:Aa)(H:Hp):V->Value->Prop where
 | non:TyOf K H .non (.type "NoneType")
 | bl (x:Bool):TyOf K H (.bl x) (.type "bool")
 | int (i:Int):TyOf K H (.int i) (.type "int")
 | str (x:Str):TyOf K H (.str x) (.type "str")
 | flt (x:UInt64):TyOf K H (.flt x) (.type "float")
 | lst {a:Addr} {xs:List V} (e:H a=some (.lst xs)):TyOf K H (.ref a) (.type "list")
 | frz {a:Addr} {o:Obj} {xs:List V} (e:H a=some (.frz o (.lst xs))):TyOf K H (.ref a) (.type "list")
 | tup {a:Addr} {xs:List V} (e:H a=some (.tup xs)):TyOf K H (.ref a) (.type "tuple")
 | dK {a:Addr} {kvs:List (Key×V)} (e:H a=some (.dK kvs)):TyOf K H (.ref a) (.type "dict")
 | dT {a:Addr} {ep:Nat×List Addr} {kvs:List (List Key×V)} (e:H a=some (.dT ep kvs)):TyOf K H (.ref a) (.type "dict")
 | ins {a C dx:Addr} {fs:List (Str×V)} (e:H a=some (.ins C dx fs)) (cl:Cls K C) (ha:PySem.W.findIn K (.ref C) "__class__"=some (some (.builtin "object.__class__")))
   (hn:PySem.W.specialIn K (.builtin "object.__class__") "__get__"=some (some (.builtin "getset_descriptor.__get__"))) (htk:PySem.W.takesIn K (.builtin "object.__class__")=some true)
   (hm:PySem.W.mroIn K C (.type "object")=some true):TyOf K H (.ref a) (.ref C)
theorem cQ(I:Inv X pins σ H s)(rx:RelV x u)(ty:TyOf X.K H x t)(e:PySem.W.kitOne X.K t c=some b)(h:∀tk,Q (.bool b) { s with toks:=tk }) :
  wpAny (model X.prog X.w) A (call (.builtin "isinstance") [u,c]) Q E s:=by
 cases ty with
 | non=>cases (show u=Value.none from rx);exact Ar PySem.W.kitx_none I.kIn True.intro e (fun z=>nomatch z) h
 | bl y=>cases (show u=Value.bool y from rx);exact Ar PySem.W.kitx_bool I.kIn True.intro e (fun z=>nomatch z) h
 | int i=>obtain⟨t,q⟩:=(show ∃t,u=Value.int i t from rx);cases q;exact Ar PySem.W.kitx_int I.kIn True.intro e (fun z=>nomatch z) h
 | str y=>obtain⟨t,q⟩:=(show ∃t,u=Value.str y t from rx);cases q;exact Ar PySem.W.kitx_str I.kIn True.intro e (fun z=>nomatch z) h
 | flt y=>obtain⟨t,q⟩:=(show ∃t,u=Value.float y t from rx);cases q;exact Ar PySem.W.kitx_float I.kIn True.intro e (fun z=>nomatch z) h
 | @lst a xs ea =>
  cases (show u=Value.ref a from rx);obtain⟨_,_,n,_,h1⟩:=(show ObjOk X.prog X.w H s.heap a (.lst xs) from I.hok a _ ea);exact Ar B7 I.kIn ⟨_,h1,rfl⟩ e (fun z=>nomatch z) h
 | @frz a ob xs ea =>
  cases (show u=Value.ref a from rx);obtain⟨_,_,_,n,_,h1⟩:=(show ObjOk X.prog X.w H s.heap a (.frz ob (.lst xs)) from I.hok a _ ea);exact Ar B7 I.kIn ⟨_,h1,rfl⟩ e (fun z=>nomatch z) h
 | @tup a xs ea =>
  cases (show u=Value.ref a from rx);obtain⟨_,_,_,p⟩:=(show ObjOk X.prog X.w H s.heap a (.tup xs) from I.hok a _ ea);obtain⟨o,h1,h2,_⟩:=p;exact Ar PySem.W.kitx_tuple I.kIn ⟨o,h1,h2⟩ e (fun z=>nomatch z) h
 | @dK a kvs ea =>
  cases (show u=Value.ref a from rx);obtain⟨_,_,vs,_,p⟩:=(show ObjOk X.prog X.w H s.heap a (.dK kvs) from I.hok a _ ea);obtain⟨o,es,ep,h1,h2,_⟩:=p;exact Ar PySem.W.kitx_dict I.kIn ⟨o,h1,h2.1⟩ e (fun z=>nomatch z) h
 | @dT a ep kvs ea =>
  cases (show u=Value.ref a from rx);obtain⟨_,_,xs,_,_,o,es,h1,h2,_⟩:=(show ObjOk X.prog X.w H s.heap a (.dT ep kvs) from I.hok a _ ea);exact Ar PySem.W.kitx_dict I.kIn ⟨o,h1,h2.1⟩ e (fun z=>nomatch z) h
 | @ins a C dx fs ea cl ha hn htk hm =>
  cases (show u=Value.ref a from rx);obtain⟨mA,O,_⟩:=x8 I.hok ea;obtain⟨od,J,_⟩:=O.look;exact Ar (PySem.W.kitx_own (cl.get _) cl.hd ha hn htk hm) I.kIn J e (fun z=>nomatch z) h
end
end L2
namespace L2
open PySem PySem.Spec PyProof.Rows
structure Room(k:Nat)(A:Around):Prop where
 hd:A.handled=none
 dp:A.depth+3*k+5<recursionLimit
 un:A.units+16*k+200<cLine
theorem Room.mono(r:Room k A)(h:j<=k):Room j A:=⟨r.hd,by have:=r.dp;lia,by have:=r.un;lia⟩
theorem Room.deeper{A:Around}(r:Room (k+1) A)(env:Env):Room k (A.deeper env) :=
 ⟨r.hd,by have:=r.dp;show A.depth+1+3*k+5<_;lia,by have:=r.un;show A.units+3+16*k+200<_;lia⟩
theorem qm{A:Around}:(A.under (.builtin "type.__call__" ⟨.ref C::us,kw⟩)).depth=A.depth+1:=by
 first|rfl|simp[Around.under,Code.weight,Code.isCreation,Code.isGuard,Code.isCaller,Code.frames,Code.isFrame,guardIds]
theorem qo{A:Around}:(A.under (.builtin "type.__call__" ⟨.ref C::us,kw⟩)).units=A.units+1:=by
 first|rfl|simp[Around.under,Code.cUnits,Code.frames,Code.isFrame]
theorem Room.make{A:Around}(r:Room (k+1) A)(C:Addr)(us:List Value)(kw:List (Str×Value)):Room k (A.under (.builtin "type.__call__" ⟨.ref C::us,kw⟩)) :=
 ⟨r.hd,by have:=r.dp;rw[qm];lia,by have:=r.un;rw[qo];lia⟩
theorem Room.depth{A:Around}(r:Room k A):A.depth<recursionLimit:=by have:=r.dp;lia
theorem Room.units{A:Around}(r:Room k A):A.units+64<cLine:=by have:=r.un;lia
def hU:TA:=fun _ H Q=>Q [] H
def b8(ta:TE)(tr:TA):TA:=fun σ H Q=>ta σ H fun x H1=>tr σ H1 fun xs H2=>Q (x::xs) H2
section
variable {X:Cx}{e:Expr}{es:List Expr}{te:TE}{t:TA}{pos:Pos}
theorem ag:PA X [] hU:=fun _ _ _ _ H Q I h=>Calls.spliced_nil ⟨[],H,I,.nil,h⟩
theorem ky(ha:PE X e te)(hr:PA X es t)(hs:starEach (e::es) X.env=(false,eval e X.env)::starEach es X.env:=by rfl):PA X (e::es) (b8 te t):=by
 intro pos pins s σ H Q I h;rw[hs];show wpAny _ _ (spliced ((false,eval e X.env)::backTo pos (starEach es X.env))) _ _ s;refine B2 (thn (ha pins s σ H _ I h) fun u s1 zz9=>?_);obtain⟨x,H1,I1,r1,q1⟩:=zz9;exact thn (hr pos pins s1 σ H1 _ I1 q1) fun us s2 ⟨xs,H2,I2,r2,q2⟩=>⟨x::xs,H2,I2,.cons r1 r2,q2⟩
def Gc(t:TA):TE:=fun σ H Q=>t σ H fun xs H1=>xs.length<=sizeLine/\∀p,H1 p=none->Q (.ref p) (upd H1 p (.tup xs))
def ya(t:TA):TE:=fun σ H Q=>t σ H fun xs H1=>xs.length<=sizeLine/\∀p,H1 p=none->Q (.ref p) (upd H1 p (.lst xs))
theorem nN{x1}(h:PA X es t):PE X (.Tuple es x1 pos) (Gc t):=by
 intro pins s σ H Q I hq;refine wpAny_Tuple_spliced (thn (h pos pins s σ H _ I hq) fun us s1 ⟨xs,H1,I1,r,z,q⟩=>⟨by rw[← r.length];exact z,?_⟩)
 have hf:H1 s1.heap.objs.size=none:=I1.hok.fresh (Wa _);refine⟨.ref s1.heap.objs.size,upd H1 s1.heap.objs.size (.tup xs),I1.laid (t':=s1.toks) (fun b u e=>Ac _ e) (Wa _) ?_,rfl,q _ hf⟩;exact⟨z,us,r,⟨_,Aj _ rfl,rfl,_,rfl⟩⟩
theorem bN(h:PA X es t):PE X (.List es pos) (ya t):=by
 intro pins s σ H Q I hq;refine wpAny_List_spliced (thn (h pos pins s σ H _ I hq) fun us s1 ⟨xs,H1,I1,r,z,q⟩=>⟨by rw[← r.length];exact z,?_⟩)
 have hf:H1 s1.heap.objs.size=none:=I1.hok.fresh (Wa _);refine⟨.ref s1.heap.objs.size,upd H1 s1.heap.objs.size (.lst xs),I1.laid (t':=s1.toks) (fun b u e=>Ac _ e) (Wa _) ?_,rfl,q _ hf⟩;exact⟨z,us,0,r,Aj _ rfl⟩
end
abbrev Sp:=List V->Hp->VK->XK->Prop
abbrev CXT:=List Env->Hp->Shared->XK->Value->Shared->Prop
structure Env0(P:Program)(w:World)(K:Aa)(mg:Str->Option Value)(base:Heap)(A:Around)(outer:List Env)(s:Shared)(H:Hp):Prop where
 frames:A.frames=some outer
 mod:Mod K mg base
 bs:∀b o,base.get? b=some o->s.heap.get? b=some o/\H b=none
 bsz:base.objs.size<=s.heap.objs.size
 funs:s.heap.FunFrames base outer
 frf:∀b∈frs outer,H b=none
 hok:HOk P w H s.heap
 bare:AllBare s.gens
def CE(outer:List Env)(P:Program)(w:World)(H:Hp)(s:Shared)(Q:VK)(u:Value)(s':Shared):Prop :=
 ∃v H',s'.os=s.os/\AllBare s'.gens/\Un (frs outer) [] H H' s.heap s'.heap/\HOk P w H' s'.heap/\RelV v u/\Q v H'
def CR(CX:CXT)(outer:List Env)(P:Program)(w:World)(H:Hp)(s:Shared)(Q:VK)(E:XK)(r:Result)(s':Shared):Prop :=
 match r with
 | .ok (.ret u)=>CE outer P w H s Q u s'
 | .ok _=>False
 | .error e=>CX outer H s E e s'
structure FnOk(P:Program)(w:World)(K:Aa)(mg:Str->Option Value)(base:Heap)(CX:CXT)(k:Nat)(f:Addr)(fd:FuncData)(ps:List Str)(sp:Sp):Prop where
 len:∀vs H Q E,sp vs H Q E->vs.length=ps.length
 run:∀(A:Around)(outer:List Env)(s:Shared)(H:Hp)(args:Args)(us:List Value)(vs:List V)(Q:VK)(E:XK),Room k A->Env0 P w K mg base A outer s H->BindsTo s fd args (ps.zip us)->Vals vs us->sp vs H Q E ->
  codeAny (model P w) A (.call (.ref f) args) (CR CX outer P w H s Q E) s
theorem FnOk.imp{P:Program}{w:World}{K:Aa}{mg:Str->Option Value}{base:Heap}{CX:CXT}{k:Nat}{f:Addr}{fd:FuncData}{ps:List Str}{sp sp':Sp}(F:FnOk P w K mg base CX k f fd ps sp)
  (h:∀vs H Q E,sp' vs H Q E->sp vs H Q E):FnOk P w K mg base CX k f fd ps sp' :=
 ⟨fun vs H Q E q=>F.len vs H Q E (h _ _ _ _ q),fun A outer s H args us vs Q E hr he hb hv hs=>F.run A outer s H args us vs Q E hr he hb hv (h _ _ _ _ hs)⟩
theorem Env0.make{P:Program}{w:World}{K:Aa}{mg:Str->Option Value}{base:Heap}{A:Around}{outer:List Env}{s:Shared}{H:Hp}(e:Env0 P w K mg base A outer s H)(C:Addr)(us:List Value)(kw:List (Str×Value)) :
  Env0 P w K mg base (A.under (.builtin "type.__call__" ⟨.ref C::us,kw⟩)) outer s H:=⟨by first|exact e.frames|(simpa[Around.under,Code.envs,Code.isFrame,pushEnvs]using e.frames),e.mod,e.bs,e.bsz,e.funs,e.frf,e.hok,e.bare⟩
section
variable {X:Cx}{pins:List (Addr×Obj)}{σ:St}{H:Hp}{s s':Shared}
theorem Inv.env0(I:Inv X pins σ H s):Env0 X.prog X.w X.K X.mg X.base X.A X.stack s H :=
 ⟨I.ok.frames,I.ok.mod,I.bs,Qc I.ok.bsz I.sz,I.stack,I.stkFree,I.hok,I.bare⟩
theorem Inv.after(I:Inv X pins σ H s)(h:CE X.stack X.prog X.w H s Q u s'):EP X pins σ Q u s':=by
 obtain⟨v,H',os,bare,un,hok,r,q⟩:=h;obtain⟨hh,g,d,t,os'⟩:=s';obtain rfl:os'=s.os:=os;exact⟨v,H',I.call (h':=hh) (g':=g) (d':=d) (t':=t) (ch:=[]) un hok bare (fun b z=>absurd z (by simp)),r,q⟩
end
def u7(sp:Sp)(dvs:List V)(E:XK)(t:TA):TE:=fun σ H Q=>t σ H fun vs H1=>sp (vs++dvs) H1 Q E
def Binds(K:Aa)(fd:FuncData)(ps:List Str)(ds:List Value):Prop :=
 ∀(s:Shared)(us:List Value),K.In s.heap->(us++ds).length=ps.length->BindsTo s fd ⟨us,[]⟩ (ps.zip (us++ds))
theorem Binds.all{K:Aa}{fd:FuncData}{ps:List Str}(h:∀us:List Value,us.length=ps.length->bindArgs fd ⟨us,[]⟩=pure (ps.zip us)):Binds K fd ps []:=fun s us _ hl=>by
 rw[Qf]at hl ⊢;exact .of_eq (h us hl)
def qp(CX:CXT)(X:Cx)(E:XK):Prop:=∀(pins:List (Addr×Obj))(σ:St)(H:Hp)(s:Shared)(e:Value)(s':Shared),Inv X pins σ H s->CX X.stack H s E e s'->X.xe e s'
section
variable {X:Cx}{CX:CXT}{k:Nat}{f C:Addr}{fd:FuncData}{ps:List Str}{sp:Sp}{dvs:List V}{ds:List Value}{E:XK}{x m:Str}{p pos apos:Pos}{e o:Expr}{es:List Expr}{ta:TE}{t:TA}
theorem DR(F:FnOk X.prog X.w X.K X.mg X.base CX k f fd ps sp)(hr:Room k X.A)(hb:Binds X.K fd ps ds)(hd:Vals dvs ds)(hx:qp CX X E)
  (I:Inv X pins σ H s)(r:Vals vs us)(h:sp (vs++dvs) H Q E):wpAny (model X.prog X.w) X.A (call (.ref f) us) (EP X pins σ Q) X.xe s:=by
 have r2:Vals (vs++dvs) (us++ds):=r.append hd;have hl:(us++ds).length=ps.length:=by rw[← r2.length];exact F.len _ _ _ _ h
 refine Ck (AH (F.run X.A X.stack s H ⟨us,[]⟩ (us++ds) (vs++dvs) Q E hr I.env0 (hb s us I.kIn hl) r2 h) fun r s' hq=>?_);cases r with
 | error e=>exact hx pins σ H s e s' I hq
 | ok fl =>
  cases fl with
  | ret u=>exact I.after hq
  | next=>exact False.elim hq
  | brk=>exact False.elim hq
  | cont=>exact False.elim hq
theorem yb(F:FnOk X.prog X.w X.K X.mg X.base CX k f fd ps sp)(hr:Room k X.A)(hg:Gl X x)(hm:X.mg x=some (.ref f))(hk:PySem.W.keepIn X.K (.ref f)=true)(hb:Binds X.K fd ps ds)(hd:Vals dvs ds)(hx:qp CX X E)
  (ha:PA X (e::es) t)(hdb:(x == ("__debug__":Str))=false:=by decide)(he:starEach (e::es) X.env=(false,eval e X.env)::starEach es X.env:=by rfl)(hpl:(backTo pos (starEach es X.env)).any (·.1)=false:=by rfl) :
  PE X (.Call (.Name x p) (e::es) [] pos) (u7 sp dvs E t):=by
 intro pins s σ H Q I h;refine AF (fK I hg hm ?_ hdb);refine Ba (h₀:=X.base) I.ok.mod.kin hk (thn (ha pos pins s σ H _ I h) fun us s1 ⟨vs,H1,I1,r,q⟩=>⟨I1.kIn,?_⟩) he hpl;exact DR F hr hb hd hx I1 r q
end
structure FnScope(N P:List Str)(sc:Scope):Prop where
 kind:sc.kind=.function
 co:sc.isCoroutine=false
 gen:sc.isGenerator=false
 nd:N.Nodup
 pre:N.take P.length=P
 par:∀x∈P,sc.names.lookup x=some .local∨sc.names.lookup x=some .cell
 nofree:∀y∈sc.names,y.2≠.free
theorem mO{kindOf:Str->Option NameKind}{x:Str}:∀{binds:List (Str×Value)}{m:Str->Option Value},(∀v,(x,v)∉binds)->bindL kindOf binds m x=m x
 | [],_,_=>rfl
 | (n,v)::r,m,h=>by
  unfold bindL;rw[mO fun w hw=>h w (Zc _ hw)];split
  ·have:x≠n:=by rintro rfl;exact h v Wc
   simp[this]
  ·rfl
theorem mP{kindOf:Str->Option NameKind}{x:Str}:∀{binds:List (Str×Value)}{m:Str->Option Value},(∀v,(x,v)∉binds)->bindC kindOf binds m x=m x
 | [],_,_=>rfl
 | (n,v)::r,m,h=>by
  unfold bindC;rw[mP fun w hw=>h w (Zc _ hw)];split
  ·rfl
  ·have:x≠n:=by rintro rfl;exact h v Wc
   simp[this]
theorem mQ{kindOf:Str->Option NameKind}{x:Str}{v:Value}:∀{P:List Str}{vs:List Value}{i:Nat}{m:Str->Option Value},P.Nodup->P[i]?=some x->vs[i]?=some v->kindOf x=some .local ->
  bindL kindOf (P.zip vs) m x=some v
 | [],_,_,_,_,h,_,_=>by simp at h
 | _::_,[],_,_,_,_,h,_=>by simp at h
 | p::P,w::vs,0,m,nd,h1,h2,hk=>by
  simp at h1 h2;subst h1;subst h2;show bindL kindOf ((p,w)::P.zip vs) m p=_;unfold bindL;rw[mO fun v hv=>(Xf.mp nd).1 (Ci hv).1,Ad hk];simp
 | p::P,w::vs,i+1,m,nd,h1,h2,hk=>by
  show bindL kindOf ((p,w)::P.zip vs) m x=_;unfold bindL;exact mQ (i:=i) (Xf.mp nd).2 (by simpa using h1) (by simpa using h2) hk
theorem mR{kindOf:Str->Option NameKind}{x:Str}{v:Value}:∀{P:List Str}{vs:List Value}{i:Nat}{m:Str->Option Value},P.Nodup->P[i]?=some x->vs[i]?=some v->kindOf x≠some .local ->
  bindC kindOf (P.zip vs) m x=some v
 | [],_,_,_,_,h,_,_=>by simp at h
 | _::_,[],_,_,_,_,h,_=>by simp at h
 | p::P,w::vs,0,m,nd,h1,h2,hk=>by
  simp at h1 h2;subst h1;subst h2;show bindC kindOf ((p,w)::P.zip vs) m p=_;unfold bindC;rw[mP fun v hv=>(Xf.mp nd).1 (Ci hv).1,Ag hk];simp
 | p::P,w::vs,i+1,m,nd,h1,h2,hk=>by
  show bindC kindOf ((p,w)::P.zip vs) m x=_;unfold bindC;exact mR (i:=i) (Xf.mp nd).2 (by simpa using h1) (by simpa using h2) hk
def start(N:List Str)(vs:List V):St:=vs.map some++List.replicate (N.length-vs.length) none
def b9(CX:CXT)(P:Program)(w:World)(K:Aa)(mg:Str->Option Value)(base:Heap)(N:List Str)(qual:Str)(scope:Scope)(f:Addr)(cd:Value)(A:Around)(outer:List Env)(s:Shared)(H:Hp)(E:XK):Cx where
 prog:=P
 w:=w
 K:=K
 mg:=mg
 base:=base
 A:=A.deeper (envOfC qual scope s.heap.objs.size f cd)
 N:=N
 s₀:=s
 H₀:=H
 env:=envOfC qual scope s.heap.objs.size f cd
 outer:=outer
 stack:=envOfC qual scope s.heap.objs.size f cd::outer
 ex:=[]
 calm:=true
 fn:=fun _=>true
 pn:=[]
 xe:=fun e s'=>wpAny (model P w) (A.deeper (envOfC qual scope s.heap.objs.size f cd)) (leaving (envOfC qual scope s.heap.objs.size f cd) e) (fun _ s''=>CX outer H s E e s'') (fun e' s''=>CX outer H s E e' s'') s'
theorem oY{sc:Scope}(h:sc.names.lookup x=some .cell):∃c,(cellsFrom n sc.names []).lookup x=some c:=by
 have q:=CC sc.names n [] (.inl h);exact Option.isSome_iff_exists.mp q
theorem tN{CX:CXT}{P:Program}{w:World}{K:Aa}{mg:Str->Option Value}{base:Heap}{N ps:List Str}{qual:Str}{scope:Scope}{f:Addr}{cd:Value}{A:Around}{outer:List Env}{s s1:Shared}{H:Hp}{E:XK}{us:List Value}{vs:List V}
  (S:FnScope N ps scope)(hd:A.handled=none)(e0:Env0 P w K mg base A outer s H)(hl:vs.length=ps.length)(r:Vals vs us)
  (x:InCallC s s.heap.objs.size (bindL (envOfC qual scope s.heap.objs.size f cd).kindOf (ps.zip us) fun _=>none) (cellsFrom (s.heap.objs.size+1) scope.names []) (bindC (envOfC qual scope s.heap.objs.size f cd).kindOf (ps.zip us) fun _=>none) s1) :
  Inv (b9 CX P w K mg base N qual scope f cd A outer s H E) [] (start N vs) H s1:=by
 have hpl:ps.length<=N.length:=by have:=congrArg List.length S.pre;rw[By]at this;lia
 obtain⟨h1,tk,rfl,hk⟩:=x.done;have noA:∀b:Addr,b∉(b9 CX P w K mg base N qual scope f cd A outer s H E).ex:=fun b z=>absurd (show b∈([]:List Addr) from z) (by simp)
 refine⟨⟨e0.mod,S.kind,rfl,rfl,Wa _,fun y z c h1 h2=>?_,fun y hy=>?_,fun y c _ h=>?_,fun _=>hd,Around.frames_deeper e0.frames,.inr ⟨rfl,rfl⟩,fun b z=>absurd z (noA b),e0.bs,e0.bsz,fun b _ _=>noA b,fun b z=>absurd z (noA b),e0.funs,e0.frf⟩,
  rfl,e0.bare,Un.kept hk,⟨_,x.toInCall.ns,fun i y v h1 h2 h3=>?_⟩,fun y c h=>⟨_,x.cell y c h⟩,e0.hok.fresh (Wa _),fun y c h=>?_,fun p hp=>absurd (show p∈([]:List (Addr×Obj)) from hp) (by simp),e0.hok.kept hk,?_⟩
 ·exact name_of_addr x.apart (AA h1) (AA h2)
 ·have hy:scope.names.lookup y=some .cell∨scope.names.lookup y=some .free:=hy;rcases hy with hy|hy
  ·exact oY hy
  ·exact absurd rfl (S.nofree _ (AA hy))
 ·exact A9 (x.above y c (AA h))
 ·have hi:i<vs.length:=by
   unfold start at h2;by_cases hi:i<vs.length
   ·exact hi
   ·rw[Wd (by simpa using hi)]at h2
    rw[Yj]at h2;split at h2<;>cases h2
  have ha:vs[i]?=some v:=by
   unfold start at h2;rw[Ze (by simpa using hi),Xb]at h2
   cases e:vs[i]? with
   | none=>rw[e]at h2;cases h2
   | some a=>rw[e]at h2;cases h2;rfl
  obtain⟨u,hu,rv⟩:=r.get ha;have hp:ps[i]?=some y:=by
   rw[← S.pre,Ct (by lia)];exact h1
  have ndP:ps.Nodup:=by rw[← S.pre];exact S.nd.sublist (List.take_sublist _ _)
  refine⟨u,rv,?_⟩;rcases S.par y (Yd hp) with k|k
  ·exact .inl ⟨k,mQ ndP hp hu k⟩
  ·obtain⟨c,e⟩:=oY (n:=s.heap.objs.size+1) k;refine .inr ⟨.inl k,c,e,?_⟩;have q:=x.cell y c e;rw[mR ndP hp hu (by show scope.names.lookup y≠_;rw[k];decide)]at q
   exact q
 ·exact e0.hok.fresh (A9 (x.above y c (AA h)))
 ·unfold start;show _=N.length;rw[Yb,Ya,Zi];lia
theorem zU{CX:CXT}{K:Aa}{mg:Str->Option Value}{k:Nat}{f:Addr}{name qual:Str}{params:Arguments}{body:List Stmt}{scope:Scope}{dV kV doc pm cdv ct oc:Value}{an od:Option Addr}
  {osl:Array (Option Value)}{N ps:List Str}{sp:Sp}(lk:K.lookup f=some ⟨oc,od,.func (PySem.W.fnOf name qual params body scope dV kV doc pm an cdv ct),osl⟩)(hcd:PySem.W.codeIn K cdv qual=true)(S:FnScope N ps scope)
  (len:∀vs H Q E,sp vs H Q E->vs.length=ps.length)
  (hbody:∀(A:Around)(outer:List Env)(s:Shared)(H:Hp)(vs:List V)(Q:VK)(E:XK),Room k (A.deeper (envOfC qual scope s.heap.objs.size f cdv))->sp vs H Q E ->
   ∃t,PSs (b9 CX P w K mg base N qual scope f cdv A outer s H E) body t/\t { nx:=fun _ H'=>Q .non H',rt:=Q } (start N vs) H) :
  FnOk P w K mg base CX (k+1) f (PySem.W.fnOf name qual params body scope dV kV doc pm an cdv ct) ps sp:=by
 refine⟨len,fun A outer s H args us vs Q E hr e0 hb r hsp=>?_⟩;have hl:=len _ _ _ _ hsp;have KX:K.In s.heap:=e0.mod.kin.keeps fun b o e=>(e0.bs b o e).1;have lim:s.heap.NoLimit:=e0.mod.nolimit.keeps fun b o e=>(e0.bs b o e).1;have hkind:∀y∈ps.zip us,scope.names.lookup y.1=some .local∨(scope.names.lookup y.1=some .cell/\((cellsFrom (s.heap.objs.size+1) scope.names []).lookup y.1).isSome=true):=fun⟨n,v⟩ hy=>by
  rcases S.par n (Ci hy).1 with q|q
  ·exact .inl q
  ·exact .inr ⟨q,CC _ _ _ (.inl q)⟩
 refine codeAny_call_function hr.depth (KX _ _ lk) rfl S.co S.gen rfl (PySem.W.codeRec_of KX hcd) (hb _ _ _ _ ?_);refine wpAny_newFunctionEnv_cells S.kind hkind fun env he s1 x=>?_;subst he;refine⟨lim.keeps x.toInCall.keep,codeAny_func ?_⟩;obtain⟨t,ht,hq⟩:=hbody A outer s H vs Q E (hr.deeper _) hsp;have I:Inv (b9 CX P w K mg base N qual scope f cdv A outer s H E) [] (start N vs) H s1:=tN S hr.hd e0 hl r x;refine Aq (ht [] s1 (start N vs) H _ I hq) (fun fl s' hs=>?_) fun e s' hs=>hs;have fin:∀{σ':St}{H':Hp}{v:V}{u:Value},Inv (b9 CX P w K mg base N qual scope f cdv A outer s H E) [] σ' H' s'->RelV v u->Q v H'->CE outer P w H s Q u s' :=
  fun {σ' H' v u} J rv q=>⟨v,H',J.os,J.bare,J.base,J.hok,rv,q⟩
 cases fl with
 | ret u =>
  obtain⟨v,σ',H',J,rv,q⟩:=hs;exact fin J rv q
 | next =>
  obtain⟨σ',H',J,q⟩:=hs;exact fin (v:=V.non) (u:=Value.none) J rfl q
 | brk =>
  obtain⟨_,_,_,q⟩:=hs;exact False.elim q
 | cont =>
  obtain⟨_,_,_,q⟩:=hs;exact False.elim q
end L2
namespace L2
open PySem PySem.Spec PyProof.Rows
section
variable {X:Cx}{x:Str}{p pos:Pos}{e:Expr}{es:List Expr}{t:TA}{id T:String}{r:List V->Hp->VK->Prop}
def tCB(r:List V->Hp->VK->Prop)(t:TA):TE:=fun σ H Q=>t σ H fun vs H1=>r vs H1 Q
theorem aO(hc:CallR X (.builtin id) r)(hg:Gl X x)(hm:X.mg x=none)(hv:bootBuiltins x=some (.builtin id))(ha:PA X (e::es) t)(hn:x≠"__name__":=by decide)(hdb:(x == ("__debug__":Str))=false:=by decide)
  (he:starEach (e::es) X.env=(false,eval e X.env)::starEach es X.env:=by rfl) (hpl:(backTo pos (starEach es X.env)).any (·.1)=false:=by rfl):PE X (.Call (.Name x p) (e::es) [] pos) (tCB r t):=by
 intro pins s σ H Q I h;refine AF (fL I hg hm hv ?_ hn hdb);exact PyProof.Rows.callWith_builtin1 (thn (ha pos pins s σ H _ I h) fun us s1 ⟨vs,H1,I1,r1,q1⟩=>hc pins s1 σ H1 vs us Q I1 r1 q1) he hpl
theorem cR(hc:CallR X (.type T) r)(hg:Gl X x)(hm:X.mg x=none)(hv:bootBuiltins x=some (.type T))(ha:PA X (e::es) t)(hn:x≠"__name__":=by decide)(hdb:(x == ("__debug__":Str))=false:=by decide)
  (he:starEach (e::es) X.env=(false,eval e X.env)::starEach es X.env:=by rfl) (hpl:(backTo pos (starEach es X.env)).any (·.1)=false:=by rfl):PE X (.Call (.Name x p) (e::es) [] pos) (tCB r t):=by
 intro pins s σ H Q I h;refine AF (fL I hg hm hv ?_ hn hdb);exact Az (thn (ha pos pins s σ H _ I h) fun us s1 ⟨vs,H1,I1,r1,q1⟩=>hc pins s1 σ H1 vs us Q I1 r1 q1) he hpl
end
end L2
namespace L2
open PySem PySem.Spec PyProof.Rows
section
variable {κ:Type}[DecidableEq κ]
def hV(kvs:List (κ×V))(k:κ):Option V:=(kvs.find? fun kv=>decide (kv.1=k)).map (·.2)
def putK(kvs:List (κ×V))(k:κ)(v:V):List (κ×V) :=
 if (kvs.any fun kv=>decide (kv.1=k))=true then kvs.map (fun kv=>if kv.1=k then(kv.1,v) else kv) else kvs++[(k,v)]
theorem iO{p:κ×V}{r:List (κ×V)}{k:κ}(e:p.1=k):hV (p::r) k=some p.2:=by simp[hV,Xg,e]
theorem iP{p:κ×V}{r:List (κ×V)}{k:κ}(e:¬ p.1=k):hV (p::r) k=hV r k:=by simp[hV,Xg,e]
theorem oZ(k:κ):∀kvs:List (κ×V),(kvs.any fun kv=>decide (kv.1=k))=(hV kvs k).isSome
 | []=>rfl
 | p::r=>by
  rw[Ql];by_cases e:p.1=k
  ·simp only[iO e,Ai e,Bool.true_or,Option.isSome_some]
  ·rw[iP e,Af e,Cv];exact oZ k r
theorem jW(kvs:List (κ×V))(k:κ)(v:V):(putK kvs k v).length<=kvs.length+1:=by
 unfold putK;split
 ·rw[Ya];lia
 ·rw[Yb,Yc,Ve];lia
theorem RelO.isSome_eq{o:Option V}{u:Option Value}(r:RelO o u):o.isSome=u.isSome:=by
 cases o with
 | none=>cases u with
  | none=>rfl
  | some _=>exact(show False from r).elim
 | some _=>cases u with
  | none=>exact(show False from r).elim
  | some _=>rfl
theorem RelO.getD{o:Option V}{u:Option Value}(r:RelO o u)(rd:RelV d d'):RelV (o.getD d) (u.getD d'):=by
 cases o with
 | none=>cases u with
  | none=>exact rd
  | some _=>exact(show False from r).elim
 | some _=>cases u with
  | none=>exact(show False from r).elim
  | some _=>exact r
theorem KV.val{kvs:List (κ×V)}{vs:List (κ×Value)}(r:KV kvs vs)(k:κ):RelO (hV kvs k) (valueAt vs k):=by
 unfold KV at r;induction r with
 | nil=>exact True.intro
 | @cons p q ps qs h t ih =>
  obtain⟨h1,h2⟩:=h;by_cases e:p.1=k
  ·have e':q.1=k:=h1.symm.trans e;have b:valueAt (q::qs) k=some q.2:=by simp[valueAt,Xg,e']
   rw[iO e,b];exact h2
  ·have e':¬ q.1=k:=fun z=>e (h1.trans z);have b:valueAt (q::qs) k=valueAt qs k:=by simp[valueAt,Xg,e']
   rw[iP e,b];exact ih
theorem KV.any{kvs:List (κ×V)}{vs:List (κ×Value)}(r:KV kvs vs)(k:κ):(kvs.any fun kv=>decide (kv.1=k))=vs.any fun kv=>decide (kv.1=k):=by
 unfold KV at r;induction r with
 | nil=>rfl
 | cons h t ih=>rw[Ql,Ql,ih,h.1]
theorem KV.repl{kvs:List (κ×V)}{vs:List (κ×Value)}(r:KV kvs vs)(k:κ)(ry:RelV y u) :
  KV (kvs.map fun kv=>if kv.1=k then(kv.1,y) else kv) (vs.map fun kv=>if kv.1=k then(kv.1,u) else kv):=by
 unfold KV at r ⊢;induction r with
 | nil=>exact .nil
 | @cons p q ps qs h t ih =>
  rw[Zd,Zd];refine .cons ?_ ih;obtain⟨h1,h2⟩:=h;by_cases e:p.1=k
  ·rw[Ad e,Ad (h1.symm.trans e)];exact⟨h1,ry⟩
  ·rw[Ag e,Ag (fun z=>e (h1.trans z))];exact⟨h1,h2⟩
theorem KV.put(r:KV kvs vs)(k:κ)(ry:RelV y u):KV (putK kvs k y) (stored vs k u):=by
 unfold putK stored;rw[r.any k];by_cases e:(vs.any fun kv=>decide (kv.1=k))=true
 ·rw[Ad e,Ad e];exact r.repl k ry
 ·rw[Ag e,Ag e];exact Paired.snoc r ⟨rfl,ry⟩
theorem KV.length{kvs:List (κ×V)}{vs:List (κ×Value)}(r:KV kvs vs):kvs.length=vs.length:=Paired.length r
end
theorem rH(r:RelV (kV k) u):(bp P w).is k u=true:=by
 cases k with
 | inl i=>obtain⟨t,e⟩:=(show ∃t,u=Value.int i t from r);subst e;exact oT P w i t
 | inr x=>obtain⟨t,e⟩:=(show ∃t,u=Value.str x t from r);subst e;exact oU P w x t
theorem mT:∀{ks:List Key}{us:List Value},Vals (ks.map kV) us->ItemsAre (bp P w) ks us
 | [],_,r=>by rw[List.map_nil]at r;cases r;exact .nil
 | k::ks,_,r=>by
  rw[Zd]at r;cases r with
  | cons h t=>exact .cons (rH h) (mT t)
abbrev KT(H:Hp):List (List Key×V)->List (List Key×Addr×Value)->Prop:=Paired fun p q=>p.1=q.1/\H q.2.1=some (.tup (p.1.map kV))/\RelV p.2 q.2.2
theorem KT.val{kvs:List (List Key×V)}{xs:List (List Key×Addr×Value)}(r:KT H kvs xs)(k:List Key):RelO (hV kvs k) ((atKey xs k).map (·.2)):=by
 induction r with
 | nil=>exact True.intro
 | @cons p q ps qs h t ih =>
  obtain⟨h1,_,h2⟩:=h;by_cases e:p.1=k
  ·have e':q.1=k:=h1.symm.trans e;have b:atKey (q::qs) k=some q.2:=by simp[atKey,Xg,e']
   rw[iO e,b];exact h2
  ·have e':¬ q.1=k:=fun z=>e (h1.trans z);have b:atKey (q::qs) k=atKey qs k:=by simp[atKey,Xg,e']
   rw[iP e,b];exact ih
theorem KT.repl{kvs:List (List Key×V)}{xs:List (List Key×Addr×Value)}(r:KT H kvs xs)(k:List Key)(ry:RelV y u) :
  KT H (kvs.map fun kv=>if kv.1=k then(kv.1,y) else kv) (xs.map (putAt k u)):=by
 induction r with
 | nil=>exact .nil
 | @cons p q ps qs h t ih =>
  rw[Zd,Zd];refine .cons ?_ ih;obtain⟨h1,h2,h3⟩:=h;unfold putAt;by_cases e:p.1=k
  ·rw[Ad e,Ad (h1.symm.trans e)];exact⟨h1,h2,ry⟩
  ·rw[Ag e,Ag (fun z=>e (h1.trans z))];exact⟨h1,h2,h3⟩
theorem KT.put(r:KT H kvs xs)(k:List Key)(hb:H b=some (.tup (k.map kV)))(ry:RelV y u) :
  KT H (putK kvs k y) (storedH xs k b u):=by
 have e:(kvs.any fun kv=>decide (kv.1=k))=(atKey xs k).isSome:=by
  rw[oZ,(r.val k).isSome_eq,Option.isSome_map]
 unfold putK storedH;rw[e];by_cases q:(atKey xs k).isSome=true
 ·rw[Ad q,Ad q];exact r.repl k ry
 ·rw[Ag q,Ag q];exact Paired.snoc r ⟨rfl,hb,ry⟩
theorem KT.keeps(r:KT H kvs xs)(ht:∀b ys,H b=some (.tup ys)->H' b=some (.tup ys)):KT H' kvs xs :=
 Paired.mapP r fun _ _ z=>⟨z.1,ht _ _ z.2.1,z.2.2⟩
section
variable {P:Program}{w:World}{H:Hp}{h:Heap}{a:Addr}
theorem zV(ok:HOk P w H h)(e:Rd H a u):ObjOk P w H h a u:=e.ok ok
theorem o0{kvs:List (Key×V)}(ok:HOk P w H h)(e:Rd H a (.dK kvs)):kvs.length<=sizeLine/\(a == sysModules)=false/\∃vs,KV kvs vs/\h.DictOf (bp P w) a vs :=
 show ObjOk P w H h a (.dK kvs) from zV ok e
theorem zW{kvs:List (Key×V)}(ok:HOk P w H h)(e:H a=some (.dK kvs)):kvs.length<=sizeLine/\(a == sysModules)=false/\∃vs,KV kvs vs/\h.DictOf (bp P w) a vs:=o0 ok (.inl e)
theorem kS{ks:List Key}(ok:HOk P w H h)(e:H a=some (.tup (ks.map kV))):(tupleKind (bp P w)).is h ks a:=by
 obtain⟨_,its,r,o,h1,h2,n,h3⟩:=(show ObjOk P w H h a (.tup (ks.map kV)) from ok a _ e);exact⟨o,its.toArray,n,h1,h2,h3,by simpa using mT r⟩
theorem rJ{kvs:List (List Key×V)}(ok:HOk P w H h)(e:Rd H a (.dT ep kvs)):kvs.length<=sizeLine/\(a == sysModules)=false /\
  ∃xs,KT H kvs xs/\h.DictOfH (tupleKind (bp P w)) a xs:=by
 obtain⟨z,y,xs,r,_,o,es,h1,h2,h3,h4,h5⟩:=(show ObjOk P w H h a (.dT ep kvs) from zV ok e);refine⟨z,y,xs,r,o,es,ep.1,h1,h2,h3,h4,fun x hx=>?_,h5⟩;have all:∀{l:List (List Key×V)}{m:List (List Key×Addr×Value)},KT H l m->∀x∈m,(tupleKind (bp P w)).is h x.1 x.2.1:=by
  intro l m q;induction q with
  | nil=>intro x hx;exact nomatch hx
  | @cons p q ps qs hq t ih =>
   intro x hx;rcases Xd.mp hx with e|hx
   ·subst e;exact kS ok (by rw[← hq.1];exact hq.2.1)
   ·exact ih x hx
 exact all r x hx
end
section
variable {P:Program}{w:World}{H:Hp}{h:Heap}{a:Addr}
theorem Gd{kvs:List (List Key×V)}(ok:HOk P w H h)(e:H a=some (.dT ep kvs)):kvs.length<=sizeLine/\(a == sysModules)=false /\
  ∃xs,KT H kvs xs/\xs.map (·.2.1)=ep.2/\h.DictOfH (tupleKind (bp P w)) a xs:=by
 obtain⟨z,y,xs,r,ra,o,es,h1,h2,h3,h4,h5⟩:=(show ObjOk P w H h a (.dT ep kvs) from ok a _ e);refine⟨z,y,xs,r,ra,o,es,ep.1,h1,h2,h3,h4,fun x hx=>?_,h5⟩;have all:∀{l:List (List Key×V)}{m:List (List Key×Addr×Value)},KT H l m->∀x∈m,(tupleKind (bp P w)).is h x.1 x.2.1:=fun {l m} q=>by
  induction q with
  | nil=>exact fun x hx=>nomatch hx
  | cons hq t ih =>
   intro x hx;rcases Xd.mp hx with e'|hx
   ·subst e';exact kS ok (by rw[← hq.1];exact hq.2.1)
   ·exact ih x hx
 exact all r x hx
end
def DGet(H:Hp)(a:Addr)(y:V)(r:Option V):Prop :=
 (∃kvs k,Rd H a (.dK kvs)/\y=kV k/\r=hV kvs k)∨∃ep kvs k b,Rd H a (.dT ep kvs)/\y=.ref b/\H b=some (.tup (k.map kV))/\r=hV kvs k
def tO(as:List Addr)(kvs:List (List Key×V))(k:List Key)(b:Addr):List Addr:=if (hV kvs k).isSome=true then as else as++[b]
def Ge(H:Hp)(a:Addr)(y v:V)(R:Hp->Prop):Prop :=
 (∃kvs k,H a=some (.dK kvs)/\y=kV k/\kvs.length<sizeLine/\R (upd H a (.dK (putK kvs k v)))) ∨
 ∃ep kvs k b,H a=some (.dT ep kvs)/\y=.ref b/\H b=some (.tup (k.map kV))/\kvs.length<sizeLine/\∀n,R (upd H a (.dT (n,tO ep.2 kvs k b) (putK kvs k v)))
theorem DGet.k{a:Addr}{kvs:List (Key×V)}{k:Key}(e:H a=some (.dK kvs)):DGet H a (kV k) (hV kvs k):=.inl ⟨kvs,k,.inl e,rfl,rfl⟩
theorem DGet.t{k:List Key}(e:H a=some (.dT ep kvs))(eb:H b=some (.tup (k.map kV))):DGet H a (.ref b) (hV kvs k):=.inr ⟨ep,kvs,k,b,.inl e,rfl,eb,rfl⟩
theorem DS{xs:List (List Key×Addr×Value)}(ra:xs.map (·.2.1)=as)(rel:KT H kvs xs):(storedH xs k b u).map (·.2.1)=tO as kvs k b:=by
 have e:(hV kvs k).isSome=(atKey xs k).isSome:=by rw[(rel.val k).isSome_eq,Option.isSome_map]
 unfold storedH tO;rw[e];by_cases q:(atKey xs k).isSome=true
 ·rw[Ad q,Ad q,← ra,Yi];refine Qg fun x _=>?_;show(putAt k u x).2.1=x.2.1;unfold putAt;split<;>rfl
 ·rw[Ag q,Ag q,Ye,ra];rfl
section
variable {X:Cx}{pins:List (Addr×Obj)}{σ:St}{H:Hp}{s:Shared}{a:Addr}{y v:V}{u r:Value}{o:Option V}{A:Around}{E:Value->Shared->Prop}
theorem Inv.big(I:Inv X pins σ H s):sysModules<s.heap.objs.size:=by
 have h:mainGlobals<s.heap.objs.size:=(I.mod.glob.keeps I.bk).lt;exact BE (by decide) h
theorem tP(hu:A.units+1<cLine)(I:Inv X pins σ H s)(g:DGet H a y (some v))(ry:RelV y u)(h:∀w' s',Inv X pins σ H s'->RelV v w'->Q w' s') :
  wpAny (model X.prog X.w) A (getItem (.ref a) u) Q E s:=by
 rcases g with⟨kvs,k,e,ey,l⟩|⟨ep,kvs,k,b,e,ey,eb,l⟩
 ·subst ey;obtain⟨z,hd,vs,rel,dd⟩:=o0 I.hok e;obtain⟨w',hw,rw'⟩:=RelO.some_of (v:=v) (o:=valueAt vs k) (by rw[l];exact rel.val k)
  exact wpAny_getItem_of (rH ry) dd.mapOf hw (h w' _ (I.tok _) rw')
 ·subst ey;cases (show u=Value.ref b from ry);obtain⟨z,hd,xs,rel,dd⟩:=rJ I.hok e;obtain⟨w',hw,rw'⟩:=RelO.some_of (v:=v) (o:=(atKey xs k).map (·.2)) (by rw[l];exact rel.val k)
  obtain⟨p,hp,hp2⟩:=Qd.mp hw;refine wpAny_getItem_heap (BX hu) (kS I.hok eb) dd hp ?_;rw[hp2];exact h w' _ (I.tok _) rw'
theorem rK{h':Heap}{t':Nat}(I:Inv X pins σ H s)(mu:Mut (H a))(hs:Heap.SameBut a s.heap h')(he:∃q,h'.get? a=some q)(new:ObjOk X.prog X.w (upd H a ob) h' a ob) :
  Inv X pins σ (upd H a ob) { s with heap:=h',toks:=t' } :=
 I.write (x:=a) (e:=a) mu (.inl rfl) (fun b q hb z=>(hs.2 b hb).trans z) he new
theorem DT{h':Heap}{kvs:List (Key×V)}(z:kvs.length<=sizeLine)(hd:(a == sysModules)=false)(rel:KV kvs vs)(dd:h'.DictOf (bp P w) a vs) :
  ObjOk P w H' h' a (.dK kvs):=⟨z,hd,vs,rel,dd⟩
theorem tQ{R:Hp->Prop}{Q:Unit->Shared->Prop}(hu:A.units+1<cLine)(I:Inv X pins σ H s)(g:Ge H a y v R)(ry:RelV y u)(rv:RelV v r)(h:∀s' H',Inv X pins σ H' s'->R H'->Q () s') :
  wpAny (model X.prog X.w) A (setItem (.ref a) u r) Q E s:=by
 rcases g with⟨kvs,k,e,ey,l,eH⟩|⟨ep,kvs,k,b,e,ey,eb,l,eH⟩
 ·subst ey;obtain⟨z,hd,vs,rel,dd⟩:=zW I.hok e;have hz:vs.length<=sizeLine:=by rw[← rel.length];exact z
  have hl:(putK kvs k v).length<=sizeLine:=by have:=jW kvs k v;lia
  refine wpAny_setItem_pairs (hsz:=hz) (rH ry) dd fun h' dd' hs=>h _ _ ?_ eH;have he:∃q,h'.get? a=some q:=let ⟨q,_,_,hq,_⟩:=dd';⟨q,hq⟩;exact rK I (by rw[e];exact True.intro) hs he (DT hl hd (rel.put k rv) dd')
 ·subst ey;cases (show u=Value.ref b from ry);obtain⟨z,hd,xs,rel,ra0,dd⟩:=Gd I.hok e;have hz:xs.length<=sizeLine:=by rw[← Paired.length rel];exact z
  have hl:(putK kvs k v).length<=sizeLine:=by have:=jW kvs k v;lia
  have ra:xs.map (·.2.1)=ep.2:=ra0;refine wpAny_setItem_heap (hsz:=hz) (BX hu) (kS I.hok eb) dd fun h' dd' hs=>?_;obtain⟨q,es,ep',hq,h2,h3,h4,_,h5⟩:=dd';refine h _ _ ?_ (eH ep');refine rK I (by rw[e];exact True.intro) hs ⟨q,hq⟩ ⟨hl,hd,_,(rel.put k eb rv).keeps fun c ys ec=>?_,DS ra rel,q,es,hq,h2,h3,h4,h5⟩
  rw[am (F4 ec e (fun z=>nomatch z))];exact ec
end
def DU(i:Expr):Prop:=∀ov iv,subscripted i false ov iv=operate [ov,iv] (getItem ov iv)
theorem yc{A:Around}{E:Value->Shared->Prop}{T id:String}{Q:Value->Shared->Prop}
  (hl:typeLookup (.type T) "__getitem__"=pure (some (.builtin id)))(hs:DU slice)
  (h:wpAny (model prog w) A (eval value env) (fun o s₁=>wpAny (model prog w) A (eval slice env) (fun i s₂=>s₂.TypeIs o T/\wpAny (model prog w) A (getItem o i) Q E s₂) E s₁) E s) :
  wpAny (model prog w) A (eval (.Subscript value slice pos) env) Q E s:=by
 refine Subscript_ (Aq h (fun o s₁ h₁=>Aq h₁ (fun i s₂ h₂=>?_) fun _ _ x=>x) fun _ _ x=>x);obtain⟨hT,h₂⟩:=h₂;unfold subscriptTail;refine Ab ?_;rw[getitemInPython_of_ne hT.not_modules];refine Ab (wpAny_specialOf hT hl ?_);have fin:wpAny (model prog w) A (subscripted slice false o i) (fun r s₃=>wpAny (model prog w) A (letTemporaryGo value o r >>= fun _=>pure r) Q E s₃) E s₂:=by
  rw[hs o i];exact wpAny_operating (Aq h₂ (fun r s₃ h₃=>Ab (wpAny_letTemporaryGo (Ae h₃))) fun _ _ x=>x)
 first
  | exact Ae (Ab fin)
  | exact Ab (Ae (Ab fin))
  | exact Ab fin
theorem o3{s:Shared}(I:Inv X pins σ H s)(g:DGet H a y o):s.TypeIs (.ref a) "dict":=by
 rcases g with⟨kvs,k,e,_,_⟩|⟨ep,kvs,k,b,e,_,_,_⟩
 ·obtain⟨_,_,vs,_,dd⟩:=o0 I.hok e;exact dd.typeIs
 ·obtain⟨_,_,xs,_,dd⟩:=rJ I.hok e;exact dd.typeIs
def Gf(td ty:TE):TE:=fun σ H Q=>td σ H fun x H1=>ty σ H1 fun y H2=>∃a v,x=.ref a/\DGet H2 a y (some v)/\Q v H2
section
variable {X:Cx}{o i e value:Expr}{pos pos' tpos:Pos}{td ty tv:TE}
theorem yd(hu:X.A.units+1<cLine)(ho:PE X o td)(hi:PE X i ty)(hs:DU i):PE X (.Subscript o i pos) (Gf td ty):=by
 intro pins s σ H Q I h;refine yc PySem.F.slot_dict_getitem.lookup hs (thn (ho pins s σ H _ I h) fun u s1 ⟨x,H1,I1,rx,q1⟩=>thn (hi pins s1 σ H1 _ I1 q1) fun iv s2 zz9=>?_);obtain⟨y,H2,I2,ry,a,v,ex,g,q2⟩:=zz9;subst ex;obtain rfl:u=Value.ref a:=rx;exact⟨o3 I2 g,tP hu I2 g ry fun w' s3 I3 rw'=>⟨v,H2,I3,rw',q2⟩⟩
end
theorem u8(h:Heap)(hb:sysModules<h.objs.size):ObjOk P w H (h.push { cls:=.type "dict",data:=.dict #[] }) h.objs.size (.dK []) :=
 ⟨Wm _,beq_eq_false_iff_ne.mpr (Ne.symm (Qe hb)),[],.nil,Heap.DictOf.new h⟩
def u9:TE:=fun _ H Q=>∀p,H p=none->Q (.ref p) (upd H p (.dK []))
section
variable {X:Cx}{pos:Pos}
theorem o4:PE X (.Dict [] [] pos) u9:=fun pins s σ H Q I h =>
 wpAny_Dict_empty ⟨.ref s.heap.objs.size,_,I.laid (a:=s.heap.objs.size) (o:=.dK []) (t':=s.toks) (fun _ _ q=>Ac _ q) (Wa _) (u8 s.heap I.big),rfl,h _ (I.hok.fresh (Wa _))⟩
end
structure M2(X:Cx)(o:Expr)(m:Str)(apos:Pos)(e f:Expr)(cpos:Pos):Prop where
 base:attributeBase o m X.env (eval o X.env)=eval o X.env
 few:((backTo cpos (starEach [e,f] X.env)).all (fun x=>!x.1)&&(backToKw cpos (keywordEach [] X.env)).all (fun x=>x.1.isSome)
  && decide (([e,f]:List Expr).length+([]:List Keyword).length+(if ([]:List Keyword).isEmpty then 0 else 1)<30))=true
 line:(apos.endLine == cpos.line)=true
 trees:backTo cpos (starEach [e,f] X.env)=[(false,eval e X.env),(false,eval f X.env)]
def IsD(H:Hp)(a:Addr):Prop:=(∃kvs,Rd H a (.dK kvs))∨∃ep kvs,Rd H a (.dT ep kvs)
theorem DV{s:Shared}(I:Inv X pins σ H s)(d:IsD H a) :
  s.TypeIs (.ref a) "dict"/\(∀b,Value.ref a=.ref b->∃ob,s.heap.get? b=some ob/\ob.dict=none)/\(a == sysModules)=false:=by
 rcases d with⟨kvs,e⟩|⟨ep,kvs,e⟩
 ·obtain⟨_,hd,vs,_,dd⟩:=o0 I.hok e;refine⟨dd.typeIs,fun b q=>?_,hd⟩;cases q;obtain⟨ob,_,_,h1,h2,_⟩:=dd;exact⟨ob,h1,h2.2.1⟩
 ·obtain⟨_,hd,xs,_,dd⟩:=rJ I.hok e;refine⟨dd.typeIs,fun b q=>?_,hd⟩;cases q;obtain⟨ob,_,_,h1,h2,_⟩:=dd;exact⟨ob,h1,h2.2.1⟩
section
variable {X:Cx}{pins:List (Addr×Obj)}{σ:St}{H:Hp}{s:Shared}{a:Addr}{y d:V}{u r:Value}{o:Option V}{A:Around}{E:Value->Shared->Prop}
theorem DW(hu:A.units+1<cLine)(I:Inv X pins σ H s)(g:DGet H a y o)(ry:RelV y u)(rd:RelV d r)(h:∀w' s',Inv X pins σ H s'->RelV (o.getD d) w'->Q w' s') :
  wpAny (model X.prog X.w) A (call (.builtin "dict.get") [.ref a,u,r]) Q E s:=by
 rcases g with⟨kvs,k,e,ey,l⟩|⟨ep,kvs,k,b,e,ey,eb,l⟩
 ·subst ey;obtain⟨z,hd,vs,rel,dd⟩:=o0 I.hok e;refine call_meetsIn BK dd.typeIs CF (Cw _ _ _) (meets_dict_get_default (bp X.prog X.w) a (rH ry) hd r) ⟨_,dd.mapOf,h _ _ (I.tok _) ?_⟩;rw[l];exact(rel.val k).getD rd
 ·subst ey;cases (show u=Value.ref b from ry);obtain⟨z,hd,xs,rel,dd⟩:=rJ I.hok e;refine call_meetsIn BK dd.typeIs CF (Cw _ _ _) (meetsH_dict_get_default (tupleKind (bp X.prog X.w)) a b hd r) ⟨BX hu,k,xs,kS I.hok eb,dd,h _ _ (I.tok _) ?_⟩;rw[l];exact(rel.val k).getD rd
end
def va(td ty tx:TE):TE:=fun σ H Q=>td σ H fun x H1=>∃a,x=.ref a/\IsD H1 a/\ty σ H1 fun y H2=>tx σ H2 fun z H3=>∃o,DGet H3 a y o/\Q (o.getD z) H3
section
variable {X:Cx}{o e f:Expr}{apos cpos:Pos}{td ty tx:TE}
theorem vb(hu:X.A.units+1<cLine)(ho:PE X o td)(he:PE X e ty)(hf:PE X f tx)(m:M2 X o "get" apos e f cpos):PE X (.Call (.Attribute o "get" apos) [e,f] [] cpos) (va td ty tx):=by
 intro pins s σ H Q I h;refine wpAny_Call_method m.base m.few m.line PySem.F.plainAttrs_dict BK PySem.F.type_dict_get (thn (ho pins s σ H _ I h) fun u s1 zz9=>?_);obtain⟨x,H1,I1,rx,a,ex,d,q1⟩:=zz9;subst ex;obtain rfl:u=Value.ref a:=rx;obtain⟨t1,t2,_⟩:=DV I1 d;refine⟨t1,t2,?_⟩;rw[m.trees]
 refine BG rfl (BR (B2 (thn (he pins s1 σ H1 _ I1 q1) fun iv s2 ⟨y,H2,I2,ry,q2⟩ =>
  B2 (thn (hf pins s2 σ H2 _ I2 q2) fun fv s3 ⟨z,H3,I3,rz,ov,g,q3⟩=>Calls.spliced_nil ?_))))
 exact DW hu I3 g ry rz fun w' s4 I4 rw'=>⟨_,H3,I4,rw',q3⟩
end
end L2
namespace HT
open PySem PyProof.Rows
theorem rcLt_int(A:Around)(s:Shared)(a:Int)(t:Tok)(c:Int)(u:Tok)(prog:Program)(w:World)(E:Value->Shared->Prop)(Q:Value->Shared->Prop)(h:Q (.bool (decide (a<c))) s) :
  wpAny (model prog w) A (richCompare .Lt (.int a t) (.int c u)) Q E s :=
 (PyProof.Rows.lt_int h:wpAny (model prog w) A (compareOp .Lt (.int a t) (.int c u)) Q E s)
section
variable {prog:Program}{w:World}{A:Around}{E:Value->Shared->Prop}{s:Shared}
theorem cat_tup{vs ws:List Value}(ht:IsTup s.heap t vs.toArray)(hb:IsTup s.heap b ws.toArray)(hv:vs≠[])
  (h1:ws=[]->Q (.ref t) s)(h2:ws≠[]->Q (.ref s.heap.objs.size) { s with heap:=s.heap.push { cls:=.type "tuple",data:=.seq (vs++ws).toArray } })
  (hsz:vs.length+ws.length<=sizeLine):wpAny (model prog w) A (binaryOp .Add (.ref t) (.ref b)) Q E s:=by
 obtain⟨⟨cls,dd,data,sl⟩,ho,hc,n,hd⟩:=id ht;obtain⟨⟨cls2,dd2,data2,sl2⟩,ho2,hc2,n2,hd2⟩:=id hb;simp only at hc hd hc2 hd2;subst hc hd hc2 hd2;have e:vs.toArray++ws.toArray=(vs++ws).toArray:=by simp
 by_cases hw:ws=[]
 ·exact concat_meets ⟨_,ho,rfl⟩ ⟨_,ho2,rfl⟩ Cb seq_tuple_add BD Bu (Bs _ _)
   (tuple_addW1 t b vs.toArray ws.toArray n n2 dd dd2 sl sl2 (by simpa using hv) (by simp[hw])) ⟨ho,ho2,h1 hw⟩
 ·refine concat_meets ⟨_,ho,rfl⟩ ⟨_,ho2,rfl⟩ Cb seq_tuple_add BD Bu (Bs _ _)
   (tuple_addW2 t b vs.toArray ws.toArray n n2 dd dd2 sl sl2 (by simpa using hv) (by simpa using hw) (by rw[Qa,Qa];exact hsz)) ⟨ho,ho2,?_⟩
  rw[e];exact h2 hw
def sIx(n d:Nat):Option Int->Nat
 | none=>d
 | some v=>if v<0 then(v+(n:Int)).toNat else min v.toNat n
theorem sIx_none(n d:Nat):sIx n d none=d:=rfl
theorem sIx_nat(n d k:Nat):sIx n d (some (k:Int))=min k n:=by
 show(if (k:Int)<0 then((k:Int)+(n:Int)).toNat else min (k:Int).toNat n)=min k n;rw[Ag (by lia),Vk]
theorem DX(n d:Nat)(hd:d<=n)(o:Option Int):sIx n d o<=n:=by
 cases o with
 | none=>exact hd
 | some v =>
  show(if v<0 then(v+(n:Int)).toNat else min v.toNat n)<=n;by_cases hv:v<0
  ·rw[Ad hv];lia
  ·rw[Ag hv];exact Nat.min_le_right _ _
theorem clip_nat(v:Int)(n:Nat)(hv:¬ v<0):min v (n:Int)=((min v.toNat n:Nat):Int):=by
 obtain⟨k,rfl⟩:=Wf (Int.not_lt.mp hv);rw[Vk];rcases Nat.le_total k n with h|h
 ·rw[Ch h];exact Int.min_eq_left (Int.ofNat_le.mpr h)
 ·rw[Nat.min_eq_right h];exact Int.min_eq_right (Int.ofNat_le.mpr h)
theorem rL(v:Int)(n d:Nat):(if v<0 then max (v+(n:Int)) 0 else min v (n:Int))=((sIx n d (some v):Nat):Int):=by
 show(if v<0 then max (v+(n:Int)) 0 else min v (n:Int))=(((if v<0 then(v+(n:Int)).toNat else min v.toNat n):Nat):Int);by_cases hv:v<0
 ·rw[Ad hv,Ad hv];exact(Int.ofNat_toNat _).symm
 ·rw[Ag hv,Ag hv];exact clip_nat v n hv
theorem qr(lo hi:Option Int)(n:Nat):Builtin.Slice.sliceAdjust lo hi 1 (n:Int)=(((sIx n 0 lo:Nat):Int),((sIx n n hi:Nat):Int)):=by
 have h1:¬ ((1:Int)<0):=by lia
 unfold Builtin.Slice.sliceAdjust;simp only[h1,if_false];refine Prod.ext ?_ ?_
 ·cases lo with
  | none=>rfl
  | some v=>exact rL v n 0
 ·cases hi with
  | none=>rfl
  | some v=>exact rL v n n
theorem qt(i j:Nat):Builtin.Slice.slicePlaces (i:Int) (j:Int) 1=j-i:=by
 unfold Builtin.Slice.slicePlaces;have h1:(1:Int) > 0:=by lia
 simp only[h1,if_true,Int.ediv_one];split<;>lia
theorem kT(p:IsPart v o)(h:Q o s):wpAny (model prog w) A (Builtin.Slice.slicePartIndex v) Q E s:=by
 cases p with
 | none=>exact slicePart_none h
 | int i t=>exact slicePart_int h
theorem fF{sl:Addr}{vl vu:Value}{lo hi:Option Int}{n:Nat}{Q:Int×Int×Nat->Shared->Prop}(hs:s.heap.IsSliceOf sl vl vu .none)(pl:IsPart vl lo)(pu:IsPart vu hi)
  (h:Q (((sIx n 0 lo:Nat):Int),1,sIx n n hi-sIx n 0 lo) s):wpAny (model prog w) A (Builtin.Slice.sliceApplied (.ref sl) (pure (n:Int))) Q E s:=by
 obtain⟨os,hos,hcs,hds⟩:=id hs;unfold Builtin.Slice.sliceApplied Builtin.Slice.sliceFields;refine Ab (Ab (AE hos hds (x:=vl) rfl (Ab (AE hos hds (x:=vu) rfl (Ab (AE hos hds (x:=.none) rfl (Ae ?_)))))));refine Ab (slicePart_none ?_);show wpAny _ _ (if ((1:Int) == 0)=true then _ else _) _ _ s;rw[Ag (by decide)]
 refine Ab (kT pl (Ab (kT pu (Ab (Ae ?_)))));show wpAny _ _ (match Builtin.Slice.sliceAdjust lo hi 1 (n:Int) with|(lo,hi)=>pure (lo,(1:Int),Builtin.Slice.slicePlaces lo hi 1)) _ _ s
 rw[qr lo hi n];show wpAny _ _ (pure (((sIx n 0 lo:Nat):Int),(1:Int),Builtin.Slice.slicePlaces ((sIx n 0 lo:Nat):Int) ((sIx n n hi:Nat):Int) 1)) _ _ s;rw[qt];exact Ae h
theorem vc(xs:Array Value)(i k:Nat):((List.range k).filterMap fun(m:Nat)=>xs[((i:Int)+(m:Int)*1).toNat]?).toArray=((xs.toList.drop i).take k).toArray:=by
 have e:(fun(m:Nat)=>xs[((i:Int)+(m:Int)*1).toNat]?)=fun m=>xs[i+m]?:=by
  funext m
  have:((i:Int)+(m:Int)*1).toNat=i+m:=by lia
  rw[this]
 rw[e];have:=pick_run xs i k;rw[List.filterMap_map]at this;have e2:((fun x=>xs[x]?) ∘ fun x=>i+x)=fun m=>xs[i+m]?:=rfl;rw[e2]at this;rw[this]
theorem getItem_tuple_cut{t sl:Addr}{items:Array Value}{vl vu:Value}{lo hi:Option Int}{Q:Value->Shared->Prop}(ht:IsTup s.heap t items)(hs:s.heap.IsSliceOf sl vl vu .none)(pl:IsPart vl lo)(pu:IsPart vu hi)
  (hw:¬ (sIx items.size 0 lo=0/\sIx items.size items.size hi=items.size))
  (h:Q (.ref s.heap.objs.size) { s with heap:=s.heap.push { cls:=.type "tuple",data:=.seq ((items.toList.drop (sIx items.size 0 lo)).take (sIx items.size items.size hi-sIx items.size 0 lo)).toArray } })
  (hsz:items.size<=sizeLine):wpAny (model prog w) A (getItem (.ref t) (.ref sl)) Q E s:=by
 have htake:sizeOk (.seq ((items.toList.drop (sIx items.size 0 lo)).take (sIx items.size items.size hi-sIx items.size 0 lo)).toArray):=by
  show((items.toList.drop (sIx items.size 0 lo)).take (sIx items.size items.size hi-sIx items.size 0 lo)).toArray.size<=sizeLine;rw[Qa,By,Vm,Vc];exact Qc (Nat.min_le_right _ _) (Qc (Nat.sub_le _ _) hsz)
 have hj:sIx items.size items.size hi<=items.size:=DX _ _ (Wa _) hi;obtain⟨os,hos,hcs,hds⟩:=id hs;have hTs:s.TypeIs (.ref sl) "slice":=⟨os,hos,hcs⟩;unfold getItem
 try with_reducible refine AD ?_
 first|refine Ab (Ae ?_)|skip
 refine Ab (wpAny_sequenceKey ht.typeIs (by decide) ?_)
 refine Ab (Ay (name:=Str.ofString "__getitem__") ht.typeIs AJ
  (AB AJ ht.typeIs entry_tuple_getitem ?_ (args_tuple_getitem _ _)))
 show wpAny _ _ (Builtin.Tuple.tupleItemsOf (.ref t) >>= _) _ _ s;refine Ab (tupleItemsOf_ ht ?_);refine Ab (A6 hTs ?_);rw[Ad (by decide)]
 refine Ab (fF hs pl pu ?_);have hno:¬ ((((sIx items.size 0 lo:Nat):Int) == 0&&(1:Int) == 1&&(sIx items.size items.size hi-sIx items.size 0 lo) == items.size)=true):=by
  intro q;rw[Zg,Zg]at q;have q1:((sIx items.size 0 lo:Nat):Int)=0:=eq_of_beq q.1.1;have q2:sIx items.size items.size hi-sIx items.size 0 lo=items.size:=eq_of_beq q.2;exact hw ⟨by lia,by lia⟩
 show wpAny _ _ (if (((sIx items.size 0 lo:Nat):Int) == 0&&(1:Int) == 1&&(sIx items.size items.size hi-sIx items.size 0 lo) == items.size)=true then _ else _) _ _ s;rw[Ag hno,vc]
 first
  | exact Ab (m:=Builtin.Tuple.tupleExact _) (As (Ae ⟨_,rfl,Ae h⟩) htake)
  | exact Ab (m:=Builtin.Tuple.tupleExact _) (As (Ab (Ae (Ae ⟨_,rfl,Ae h⟩))) htake)
  | exact Ab (Ab (m:=Builtin.Tuple.tupleExact _) (As (Ae (Ae ⟨_,rfl,Ae h⟩)) htake))
  | exact Ab (Ab (m:=Builtin.Tuple.tupleExact _) (As (Ae ⟨_,rfl,Ae h⟩) htake))
end
end HT
namespace L2
open PySem PySem.Spec PyProof.Rows
abbrev TO:=St->Hp->(Option Int->Hp->Prop)->Prop
def PO(X:Cx)(e:Option Expr)(t:TO):Prop :=
 ∀(pins:List (Addr×Obj))(s:Shared)(σ:St)(H:Hp)(Q:Option Int->Hp->Prop),Inv X pins σ H s->t σ H Q ->
  wpAny (model X.prog X.w) X.A (evalPart e X.env) (fun u s'=>∃o H',Inv X pins σ H' s'/\IsPart u o/\Q o H') X.xe s
def rM:TO:=fun _ H Q=>Q none H
def zX(t:TE):TO:=fun σ H Q=>t σ H fun x H1=>∃i,x=.int i/\Q (some i) H1
section
variable {X:Cx}{e:Expr}{te:TE}{lo hi:Option Expr}{tl th:TO}{pos p2:Pos}
theorem gQ:PO X none rM:=by
 intro pins s σ H Q I h;rw[evalPart_none];exact Ae ⟨none,H,I,.none,h⟩
theorem eG(h:PE X e te):PO X (some e) (zX te):=by
 intro pins s σ H Q I hw;rw[evalPart_some];refine thn (h pins s σ H _ I hw) fun u s1 zz9=>?_;obtain⟨x,H1,I1,r1,q1⟩:=zz9;obtain⟨i,rfl,q⟩:=q1;obtain⟨t,rfl⟩:=r1;exact⟨some i,H1,I1,.int i t,q⟩
def SlR(X:Cx)(r:V->Option Int->Option Int->Hp->VK->Prop):Prop :=
 ∀(pins:List (Addr×Obj))(s:Shared)(σ:St)(H:Hp)(x:V)(v vl vu:Value)(lo hi:Option Int)(sl:Addr)(Q:VK),Inv X pins σ H s->RelV x v->s.heap.IsSliceOf sl vl vu .none->IsPart vl lo->IsPart vu hi->r x lo hi H Q ->
  ∃T id,typeLookup (.type T) "__getitem__"=pure (some (.builtin id))/\s.TypeIs v T/\wpAny (model X.prog X.w) X.A (getItem v (.ref sl)) (EP X pins σ Q) X.xe s
theorem SlR.or(h:SlR X r)(h':SlR X r'):SlR X (fun x lo hi H Q=>r x lo hi H Q∨r' x lo hi H Q):=by
 intro pins s σ H x v vl vu lo hi sl Q I rx hs pl pu q;rcases q with q|q
 ·exact h pins s σ H x v vl vu lo hi sl Q I rx hs pl pu q
 ·exact h' pins s σ H x v vl vu lo hi sl Q I rx hs pl pu q
def tSl(r:V->Option Int->Option Int->Hp->VK->Prop)(te:TE)(tl th:TO):TE:=fun σ H Q=>te σ H fun x H1=>tl σ H1 fun l H2=>th σ H2 fun u H3=>r x l u H3 Q
theorem dW(hr:SlR X r)(he:PE X e te)(hl:PO X lo tl)(hu:PO X hi th):PE X (.Subscript e (.Slice lo hi none p2) pos) (tSl r te tl th):=by
 intro pins s σ H Q I h;refine Subscript_ (thn (he pins s σ H _ I h) fun v s1 zz9=>?_);obtain⟨x,H1,I1,r1,q1⟩:=zz9;refine wpAny_Slice (thn (hl pins s1 σ H1 _ I1 q1) fun vl s2 ⟨l,H2,I2,pl,q2⟩=>thn (hu pins s2 σ H2 _ I2 q2) fun vu s3 zz9=>?_);obtain⟨u,H3,I3,pu,q3⟩:=zz9;rw[evalPart_none];refine Ae ?_;have I4:Inv X pins σ H3 { s3 with heap:=s3.heap.push { cls:=.type "slice",data:=.fields #[vl,vu,.none] } }:=I3.kept (t':=s3.toks) fun b ob q=>Ac _ q;obtain⟨T,id,hT,ht,hg⟩:=hr pins { s3 with heap:=s3.heap.push { cls:=.type "slice",data:=.fields #[vl,vu,.none] } } σ H3 x v vl vu l u s3.heap.objs.size Q I4 r1 (Heap.IsSliceOf.new ..) pl pu q3;show wpAny (model X.prog X.w) X.A (subscriptTail e (.Slice lo hi none p2) v (.ref s3.heap.objs.size)) (EP X pins σ Q) X.xe { s3 with heap:=s3.heap.push { cls:=.type "slice",data:=.fields #[vl,vu,.none] } };exact tail_any (ops:=[.ref s3.heap.objs.size,v]) ht hT hg (by with_unfolding_all rfl)
def o5(xs:List V)(lo hi:Option Int):List V:=(xs.drop (HT.sIx xs.length 0 lo)).take (HT.sIx xs.length xs.length hi-HT.sIx xs.length 0 lo)
theorem jX(xs:List V)(lo hi:Option Int):(o5 xs lo hi).length<=xs.length:=by
 unfold o5;rw[By,Vm];lia
def DY(K:Aa):V->Option Int->Option Int->Hp->VK->Prop:=fun x lo hi H Q=>∃a xs,x=.ref a/\SqT K H a xs /\
 ¬ (HT.sIx xs.length 0 lo=0/\HT.sIx xs.length xs.length hi=xs.length)/\∀p,H p=none->Q (.ref p) (upd H p (.tup (o5 xs lo hi)))
theorem DZ:SlR X (DY X.K):=by
 intro pins s σ H x v vl vu lo hi sl Q I rx hs pl pu h;obtain⟨a,xs,rfl,hx,hw,q⟩:=h;cases rx;obtain⟨its,r,ht,hz⟩:=I.tuple hx;have hlen:its.toArray.size=xs.length:=by rw[Qa];exact r.length.symm
 refine⟨"tuple",_,AJ.lookup,ht.typeIs,?_⟩;refine HT.getItem_tuple_cut ht hs pl pu (by rw[hlen];exact hw) ?_ (by rw[hlen];exact hz)
 rw[hlen];refine⟨.ref s.heap.objs.size,_,I.laid (t':=s.toks) (o:=.tup (o5 xs lo hi)) (fun b ob q=>Ac _ q) (Wa _) ?_,rfl,q _ (I.hok.fresh (Wa _))⟩;exact⟨Qc (jX xs lo hi) hz,_,(r.drop (HT.sIx xs.length 0 lo)).take (HT.sIx xs.length xs.length hi-HT.sIx xs.length 0 lo),IsTup.new _ _⟩
def vd(K:Aa):R2:=fun x y H Q=>∃a b xs ys,x=.ref a/\y=.ref b/\SqT K H a xs/\SqT K H b ys/\xs≠[]/\xs.length+ys.length<=sizeLine /\
 (ys=[]->Q (.ref a) H)/\(ys≠[]->∀p,H p=none->Q (.ref p) (upd H p (.tup (xs++ys))))
theorem Vals.nil_iff(r:Vals xs us):us=[]↔xs=[]:=by
 cases r with
 | nil=>simp
 | cons _ _=>simp
theorem ye:OpR X (binaryOp .Add) (vd X.K):=by
 intro pins s σ H x y v u Q I rx ry h;obtain⟨a,b,xs,ys,rfl,rfl,ha,hb,hx,hz,q1,q2⟩:=h;cases rx;cases ry;obtain⟨its,r1,p1,_⟩:=I.tuple ha;obtain⟨its2,r2,p2,_⟩:=I.tuple hb;refine HT.cat_tup p1 p2 (fun z=>hx (r1.nil_iff.mp z)) (fun z=>⟨.ref a,H,I,rfl,q1 (r2.nil_iff.mp z)⟩) (fun z=>?_) (by rw[← r1.length,← r2.length];exact hz)
 refine⟨.ref s.heap.objs.size,_,I.laid (t':=s.toks) (o:=.tup (xs++ys)) (fun b ob q=>Ac _ q) (Wa _) ?_,rfl,q2 (fun w=>z (r2.nil_iff.mpr w)) _ (I.hok.fresh (Wa _))⟩;exact⟨by rw[Yb];exact hz,_,r1.append r2,IsTup.new _ _⟩
end
end L2
namespace L2
open PySem PySem.Spec PyProof.Rows
def ixN(n:Nat)(i:Int):Option Nat:=if 0<=i then(if i<n then some i.toNat else none) else if -(n:Int)<=i then some (i+n).toNat else none
def atI{α:Type}(xs:List α)(i:Int):Option α:=(ixN xs.length i).bind fun j=>xs[j]?
theorem rN(h:ixN n i=some j):seqIndex? i n=some j/\j<n/\-(n:Int)<=i/\i<n:=by
 unfold ixN at h;by_cases h0:0<=i
 ·rw[Ad h0]at h;by_cases h1:i<n
  ·rw[Ad h1]at h;have e:i.toNat=j:=Option.some.inj h;exact⟨by rw[seqIndex_of h0 h1,e],by lia,by lia,h1⟩
  ·rw[Ag h1]at h;cases h
 ·rw[Ag h0]at h;by_cases h1:-(n:Int)<=i
  ·rw[Ad h1]at h;have e:(i+n).toNat=j:=Option.some.inj h;exact⟨by rw[seqIndex_neg (by lia) h1,e],by lia,h1,by lia⟩
  ·rw[Ag h1]at h;cases h
theorem nO{xs:List α}(h:atI xs i=some v):∃j,seqIndex? i xs.length=some j/\xs[j]?=some v/\j<xs.length/\-(xs.length:Int)<=i/\i<xs.length:=by
 unfold atI at h;cases e:ixN xs.length i with
 | none=>rw[e]at h;cases h
 | some j =>
  rw[e]at h;obtain⟨h1,h2,h3,h4⟩:=rN e;exact⟨j,h1,h,h2,h3,h4⟩
theorem iQ{α:Type}{xs:List α}{j:Nat}{v:α}(h:xs[j]?=some v):atI xs (j:Int)=some v:=by
 have hj:j<xs.length:=(Va.mp h).1;have e:ixN xs.length (j:Int)=some j:=by
  unfold ixN;rw[Ad (by lia),Ad (by lia)];simp
 unfold atI;rw[e];exact h
def nP(b:Expr):Prop:=∀o i,subscripted b false o i=operate [o,i] (getItem o i)
def IxR(X:Cx)(r:R2):Prop :=
 ∀(value slice:Expr)(pins:List (Addr×Obj))(s:Shared)(σ:St)(H:Hp)(x y:V)(v u:Value)(Q:VK),Inv X pins σ H s->RelV x v->RelV y u->r x y H Q ->
  subscripted slice false v u=operate [v,u] (getItem v u)->wpAny (model X.prog X.w) X.A (subscriptTail value slice v u) (EP X pins σ Q) X.xe s
def MtR(X:Cx)(id:String)(r:V->List V->Hp->VK->Prop):Prop :=
 ∀(pins:List (Addr×Obj))(s:Shared)(σ:St)(H:Hp)(x:V)(xs:List V)(v:Value)(us:List Value)(Q:VK),Inv X pins σ H s->RelV x v->Vals xs us->r x xs H Q ->
  wpAny (model X.prog X.w) X.A (call (.builtin id) (v::us)) (EP X pins σ Q) X.xe s
section
variable {X:Cx}{a b:Expr}{ta tb:TE}{pos:Pos}
theorem IxR.or(h:IxR X r)(h':IxR X r'):IxR X (fun x y H Q=>r x y H Q∨r' x y H Q):=by
 intro value slice pins s σ H x y v u Q I rx ry q hs;rcases q with q|q
 ·exact h value slice pins s σ H x y v u Q I rx ry q hs
 ·exact h' value slice pins s σ H x y v u Q I rx ry q hs
theorem zY(hr:IxR X r)(ha:PE X a ta)(hb:PE X b tb)(hs:nP b):PE X (.Subscript a b pos) (tOp r ta tb):=by
 intro pins s σ H Q I h;exact Subscript_ (DM ha hb I h fun v u s2 x y H2 I2 rx ry q=>hr a b pins s2 σ H2 x y v u Q I2 rx ry q (hs _ _))
def D0(K:Aa):R2:=fun x y H Q=>∃p xs i v,x=.ref p/\y=.int i/\SqL K H p xs/\atI xs i=some v/\Q v H
def D1(K:Aa):R2:=fun x y H Q=>∃p xs i v,x=.ref p/\y=.int i/\SqT K H p xs/\atI xs i=some v/\Q v H
def D2:R2:=fun x y H Q=>∃z i c,x=.str z/\y=.int i/\z.length<=sizeLine/\atI z.cps.toList i=some c/\Q (.str ⟨#[c]⟩) H
theorem ix_list:IxR X (D0 X.K):=by
 intro value slice pins s σ H x y v u Q I rx ry h hs;obtain⟨p,xs,i,z,rfl,rfl,hq,he,q⟩:=h;cases rx;obtain⟨t,rfl⟩:=ry;obtain⟨its,r,pl,hz⟩:=I.list hq;obtain⟨j,h1,h2,h3,h4,h5⟩:=nO he;obtain⟨w,ew,rw'⟩:=r.get h2;have hl:=r.length;have hn:=iq;have fin:EP X pins σ Q w s:=⟨z,H,I,rw',q⟩;by_cases h0:0<=i
 ·have hj:i.toNat=j:=by
   rw[seqIndex_of h0 h5]at h1;exact Option.some.inj h1
  exact item_listR pl.isList h0 (by lia) (by rw[hj];simpa using ew) fin hs
 ·have hj:(i+(its.toArray.size:Int)).toNat=j:=by
   rw[seqIndex_neg (by lia) h4]at h1
   rw[Qa,← hl];exact Option.some.inj h1
  exact subscriptTail_builtinR (x:=w) pl.isList.typeIs slot_list_getitem.lookup
   (wpAny_getItem_list_neg (Q:=fun r s'=>r=w/\EP X pins σ Q r s') pl.isList (by lia) (by rw[Qa]<;>lia) (by lia) (by rw[hj];simpa using ew) ⟨rfl,fin⟩) hs
theorem ix_tup:IxR X (D1 X.K):=by
 intro value slice pins s σ H x y v u Q I rx ry h hs;obtain⟨p,xs,i,z,rfl,rfl,hq,he,q⟩:=h;cases rx;obtain⟨t,rfl⟩:=ry;obtain⟨its,r,pl,hz⟩:=I.tuple hq;obtain⟨j,h1,h2,h3,h4,h5⟩:=nO he;obtain⟨w,ew,rw'⟩:=r.get h2;have hl:=r.length;have hn:=iq;have fin:EP X pins σ Q w s:=⟨z,H,I,rw',q⟩;exact subscriptTail_builtinR (x:=w) pl.typeIs slot_tuple_getitem.lookup
  (getItem_tuple (j:=j) (Q:=fun r s'=>r=w/\EP X pins σ Q r s') pl (by lia) (by lia) (by rw[Qa,← hl];exact h1) (by simpa using ew) ⟨rfl,fin⟩) hs
theorem ix_str:IxR X D2:=by
 intro value slice pins s σ H x y v u Q I rx ry h hs;obtain⟨z,i,c,rfl,rfl,hz,he,q⟩:=h;obtain⟨t,rfl⟩:=rx;obtain⟨t',rfl⟩:=ry;obtain⟨j,h1,h2,h3,h4,h5⟩:=nO he;have hl:z.cps.toList.length=z.length:=by simp[Str.length]
 rw[hl]at h1 h4 h5;have hn:=iq
 exact tail_any (Co s z t) slot_str_getitem.lookup (getItem_str (c:=c) (by
  have e1:decide (i < -(2 ^ 63:Int))=false:=Af (by lia)
  have e2:decide (i ≥ 2 ^ 63)=false:=Af (by lia)
  rw[e1,e2,Bool.or_false]) (by rw[h1];simpa using h2) ⟨.str ⟨#[c]⟩,H,I.tok _,⟨_,rfl⟩,q⟩) hs
def rIx(K:Aa):R2:=fun x y H Q=>D0 K x y H Q∨D1 K x y H Q∨D2 x y H Q
theorem D3:IxR X (rIx X.K):=ix_list.or (ix_tup.or ix_str)
theorem qu(its:List Value)(n j:Nat)(u:Value):Obj.mapSeq (·.setIfInBounds j u) { cls:=.type "list",data:=.seq its.toArray n }={ cls:=.type "list",data:=.seq (its.set j u).toArray n }:=by
 simp[Obj.mapSeq]
theorem Inv.lst{s:Shared}(I:Inv X pins σ H s)(h:H p=some (.lst xs)) :
  ∃(its:List Value)(n:Nat),Vals xs its/\s.heap.get? p=some { cls:=.type "list",data:=.seq its.toArray n }/\xs.length<=sizeLine:=by
 obtain⟨z,its,n,r,e⟩:=I.hok p _ h;exact⟨its,n,r,e,z⟩
theorem Inv.lstUpd{s:Shared}{xs ys:List V}{its its':List Value}(I:Inv X pins σ H s)(h:H p=some (.lst xs))
  (ho:s.heap.get? p=some { cls:=.type "list",data:=.seq its.toArray n })(hf:f { cls:=.type "list",data:=.seq its.toArray n }={ cls:=.type "list",data:=.seq its'.toArray n' })(r:Vals ys its')(hz:ys.length<=sizeLine)(t:Nat) :
  Inv X pins σ (upd H p (.lst ys)) { s with heap:=s.heap.update p f,toks:=t }:=by
 have e:(s.heap.update p f).get? p=some { cls:=.type "list",data:=.seq its'.toArray n' }:=by
  rw[Ax f ho (by rw[hf]<;>rfl),hf]
 refine I.write (x:=p) (e:=p) (by rw[h];trivial) (.inl rfl) (fun b u hb q=>(An _ _ (Ne.symm hb)).trans q) ⟨_,e⟩ ?_
 exact⟨hz,its',n',r,e⟩
def zZ:V->V->V->Hp->(Hp->Prop)->Prop:=fun o i v H Q=>∃p xs k j,o=.ref p/\i=.int k/\H p=some (.lst xs)/\ixN xs.length k=some j/\Q (upd H p (.lst (xs.set j v)))
theorem set_list:DH X zZ:=by
 intro pins s σ H o i v ov iv u Q I ro ri rv h;obtain⟨p,xs,k,j,rfl,rfl,hp,hj,q⟩:=h;cases ro;obtain⟨t,rfl⟩:=ri;obtain⟨its,n,r,ho,hz⟩:=I.lst hp;obtain⟨h1,h2,h3,h4⟩:=rN hj;have hl:=r.length;have hn:=iq;have I':Inv X pins σ (upd H p (.lst (xs.set j v))) { s with heap:=s.heap.update p (Obj.mapSeq (·.setIfInBounds j u)) } :=
  I.lstUpd hp ho (qu its n j u) (r.set rv j) (by rw[List.length_set];exact hz) s.toks
 by_cases h0:0<=k
 ·have hk:k.toNat=j:=by
   rw[seqIndex_of h0 h4]at h1;exact Option.some.inj h1
  exact PySem.W.ki_setAt ho h0 (by lia) (by rw[Qa,← hl];exact h4) (by rw[hk];exact⟨_,I',q⟩)
 ·have hk:(k+(its.toArray.size:Int)).toNat=j:=by
   rw[seqIndex_neg (by lia) h3]at h1
   rw[Qa,← hl];exact Option.some.inj h1
  exact PySem.W.ki_setBack ho (by lia) (by rw[Qa,← hl];exact h3) (by lia) (by rw[hk];exact⟨_,I',q⟩)
theorem ve(i:Int)(n:Nat):max 0 (min (if i<0 then i+(n:Int) else i) (n:Int))=(((if i<0 then(i+(n:Int)).toNat else min i.toNat n):Nat):Int):=by
 by_cases h:i<0
 ·rw[Ad h,Ad h,Int.min_eq_left (by lia),Int.max_comm];exact(Int.ofNat_toNat _).symm
 ·rw[Ag h,Ag h,HT.clip_nat i n h];exact Int.max_eq_right (Int.natCast_nonneg _)
theorem nQ(lo hi:Option Int)(n:Nat):(sliceBounds lo hi none n).1=((HT.sIx n 0 lo:Nat):Int)/\(sliceBounds lo hi none n).2.1=((HT.sIx n n hi:Nat):Int)/\(sliceBounds lo hi none n).2.2=1:=by
 refine⟨?_,?_,rfl⟩
 ·cases lo with
  | none=>simp[sliceBounds,HT.sIx]
  | some i=>exact ve i n
 ·cases hi with
  | none=>simp[sliceBounds,HT.sIx]
  | some i=>exact ve i n
theorem my(its:List Value)(lo hi:Option Int):slicePick its.toArray lo hi none=((its.drop (HT.sIx its.length 0 lo)).take (HT.sIx its.length its.length hi-HT.sIx its.length 0 lo)).toArray:=by
 obtain⟨h1,h2,h3⟩:=nQ lo hi its.toArray.size;unfold slicePick;rw[h1,h2,h3];simp only[sliceRange_one,pick_run,Qa]<;>rfl
def D4(K:Aa):V->Option Int->Option Int->Hp->VK->Prop:=fun x lo hi H Q=>∃a xs,x=.ref a/\SqL K H a xs/\∀p,H p=none->Q (.ref p) (upd H p (.lst (o5 xs lo hi)))
theorem yf:SlR X (D4 X.K):=by
 intro pins s σ H x v vl vu lo hi sl Q I rx hs pl pu h;obtain⟨a,xs,rfl,hx,q⟩:=h;cases rx;obtain⟨its,r,ht,hz⟩:=I.list hx;have hlen:=r.length;refine⟨"list",_,slot_list_getitem.lookup,ht.isList.typeIs,?_⟩;refine wpAny_getItem_list_slice ht.isList hs pl pu .none (by simp) ?_ (by rw[Qa]<;>lia)
 rw[my,← hlen];refine⟨.ref s.heap.objs.size,_,I.laid (t':=s.toks) (o:=.lst (o5 xs lo hi)) (fun b ob q=>Ac _ q) (Wa _) ?_,rfl,q _ (I.hok.fresh (Wa _))⟩;exact⟨Qc (jX xs lo hi) hz,_,0,(r.drop (HT.sIx xs.length 0 lo)).take (HT.sIx xs.length xs.length hi-HT.sIx xs.length 0 lo),Aj _ rfl⟩
def ib:V->Bool
 | .non=>true
 | .bl _=>true
 | .int _=>true
 | .str _=>true
 | _=>false
def eqV:V->V->Bool
 | .non,.non=>true
 | .bl a,.bl b=>a == b
 | .bl a,.int b=>(if a then 1 else 0) == b
 | .int a,.bl b=>a == (if b then 1 else 0)
 | .int a,.int b=>a == b
 | .str a,.str b=>a == b
 | _,_=>false
theorem D5(ry:RelV y u)(rx:RelV x v)(fy:ib y=true)(fx:ib x=true):SeqAt.EqAt A s u v (eqV y x):=by
 cases y with
 | non =>
  cases ry;cases x with
  | non=>cases rx;exact SeqAt.EqAt.same _
  | bl b=>cases rx;exact SeqAt.EqAt.none_bool b
  | int b=>obtain⟨t,rfl⟩:=rx;exact SeqAt.EqAt.none_int b t
  | str b=>obtain⟨t,rfl⟩:=rx;exact SeqAt.EqAt.none_str b t
  | _=>exact absurd (show false=true from fx) Qb
 | bl a =>
  cases ry;cases x with
  | non=>cases rx;exact SeqAt.EqAt.bool_none a
  | bl b=>cases rx;exact SeqAt.EqAt.bool_bool a b
  | int b=>obtain⟨t,rfl⟩:=rx;exact SeqAt.EqAt.bool_int a b t
  | str b=>obtain⟨t,rfl⟩:=rx;exact SeqAt.EqAt.bool_str a b t
  | _=>exact absurd (show false=true from fx) Qb
 | int a =>
  obtain⟨t',rfl⟩:=ry;cases x with
  | non=>cases rx;exact SeqAt.EqAt.int_none a t'
  | bl b=>cases rx;exact SeqAt.EqAt.int_bool a t' b
  | int b=>obtain⟨t,rfl⟩:=rx;exact SeqAt.EqAt.int_int a t' b t
  | str b=>obtain⟨t,rfl⟩:=rx;exact B0 a t' b t
  | _=>exact absurd (show false=true from fx) Qb
 | str a =>
  obtain⟨t',rfl⟩:=ry;cases x with
  | non=>cases rx;exact SeqAt.EqAt.str_none a t'
  | bl b=>cases rx;exact SeqAt.EqAt.str_bool a t' b
  | int b=>obtain⟨t,rfl⟩:=rx;exact BZ a t' b t
  | str b=>obtain⟨t,rfl⟩:=rx;exact SeqAt.EqAt.str_str a t' b t
  | _=>exact absurd (show false=true from fx) Qb
 | _=>exact absurd (show false=true from fy) Qb
def eqU(x:V)(u:Value):Bool:=match u with
 | .none=>eqV .non x
 | .bool b=>eqV (.bl b) x
 | .int i _=>eqV (.int i) x
 | .str z _=>eqV (.str z) x
 | _=>false
theorem vf(r:RelV y u)(f:ib y=true):eqU x u=eqV y x:=by
 cases y with
 | non=>cases r;rfl
 | bl b=>cases r;rfl
 | int i=>obtain⟨t,rfl⟩:=r;rfl
 | str z=>obtain⟨t,rfl⟩:=r;rfl
 | _=>exact absurd (show false=true from f) Qb
theorem iR:∀{xs:List V}{us:List Value},Vals xs us->xs.all ib=true->us.any (eqU x)=xs.any fun y=>eqV y x
 | _,_,.nil,_=>rfl
 | y::xs,u::us,.cons r t,f=>by
  rw[Bt,Zg]at f;rw[Ql,Ql,vf r f.1,iR t f.2]
theorem gx(rx:RelV x v)(fx:ib x=true):∀{xs:List V}{us:List Value},Vals xs us->xs.all ib=true->∀u∈us,SeqAt.EqAt A s u v (eqU x u)
 | _,_,.nil,_=>fun u hu=>by cases hu
 | y::xs,u::us,.cons r t,f=>fun u' hu=>by
  rw[Bt,Zg]at f;rcases Xd.mp hu with rfl|hu
  ·rw[vf r f.1];exact D5 r rx f.1 fx
  ·exact gx rx fx t f.2 u' hu
def inV(x:V)(xs:List V):Bool:=xs.any fun y=>eqV y x
def rIn(K:Aa)(neg:Bool):R2:=fun x y H Q=>∃p xs,y=.ref p/\(SqL K H p xs∨SqT K H p xs)/\ib x=true/\xs.all ib=true/\Q (.bl (if neg then !inV x xs else inV x xs)) H
theorem tR:OpR X (compareOp .In) (rIn X.K false):=by
 intro pins s σ H x y v u Q I rx ry h;obtain⟨p,xs,rfl,hq,fx,fs,q⟩:=h;cases ry;rcases hq with hq|hq
 ·obtain⟨its,r,pl,hz⟩:=I.list hq;refine SeqAt.in_listAt (eqU x) pl.isList (fun w hw=>gx rx fx r fs w (by simpa using hw)) ⟨.bl _,H,I,rfl,?_⟩
  rw[show its.toArray.any (eqU x)=its.any (eqU x) by simp,iR r fs]
  exact q
 ·obtain⟨its,r,pl,hz⟩:=I.tuple hq;refine SeqAt.in_tupleAt (eqU x) pl (fun w hw=>gx rx fx r fs w (by simpa using hw)) ⟨.bl _,H,I,rfl,?_⟩
  rw[show its.toArray.any (eqU x)=its.any (eqU x) by simp,iR r fs]
  exact q
theorem nR:OpR X (compareOp .NotIn) (rIn X.K true):=by
 intro pins s σ H x y v u Q I rx ry h;obtain⟨p,xs,rfl,hq,fx,fs,q⟩:=h;cases ry;rcases hq with hq|hq
 ·obtain⟨its,r,pl,hz⟩:=I.list hq;refine SeqAt.notIn_listAt (eqU x) pl.isList (fun w hw=>gx rx fx r fs w (by simpa using hw)) ⟨.bl _,H,I,rfl,?_⟩
  rw[show its.toArray.any (eqU x)=its.any (eqU x) by simp,iR r fs]
  exact q
 ·obtain⟨its,r,pl,hz⟩:=I.tuple hq;refine SeqAt.notIn_tupleAt (eqU x) pl (fun w hw=>gx rx fx r fs w (by simpa using hw)) ⟨.bl _,H,I,rfl,?_⟩
  rw[show its.toArray.any (eqU x)=its.any (eqU x) by simp,iR r fs]
  exact q
theorem nS:CallR X (.builtin "len") (fun xs H Q=>∃p ys,xs=[.ref p]/\(SqL X.K H p ys∨SqT X.K H p ys)/\Q (.int ys.length) H):=by
 intro pins s σ H xs us Q I r h;obtain⟨p,ys,rfl,hq,q⟩:=h;obtain⟨u,rfl,rx⟩:=vals1 r;cases rx;have hn:=iq;rcases hq with hq|hq
 ·obtain⟨its,r',pl,hz⟩:=I.list hq;have hlen:=r'.length;exact Calls.call_len_list pl.isList (by simp only[Qa]<;>lia) ⟨.int ys.length,H,I.tok _,⟨s.toks+1,by rw[Qa,hlen]⟩,q⟩
 ·obtain⟨its,r',pl,hz⟩:=I.tuple hq;have hlen:=r'.length;exact len_tuple pl (by simp only[Qa]<;>lia) ⟨.int ys.length,H,I.tok _,⟨s.toks+1,by rw[Qa,hlen]⟩,q⟩
theorem nU:CallR X (.builtin "len") (fun xs H Q=>∃z,xs=[.str z]/\z.length<=sizeLine/\Q (.int z.length) H):=by
 intro pins s σ H xs us Q I r h;obtain⟨z,rfl,hz,q⟩:=h;obtain⟨u,rfl,t,rfl⟩:=vals1 r;have hn:=iq;exact len_str (by lia) ⟨.int z.length,H,I.tok _,⟨_,rfl⟩,q⟩
theorem CallR.or(h:CallR X f r)(h':CallR X f r'):CallR X f (fun xs H Q=>r xs H Q∨r' xs H Q):=by
 intro pins s σ H xs us Q I rs q;rcases q with q|q
 ·exact h pins s σ H xs us Q I rs q
 ·exact h' pins s σ H xs us Q I rs q
theorem nV:CallR X (.type "list") (fun xs H Q=>∃p ys,xs=[.ref p]/\(SqL X.K H p ys∨SqT X.K H p ys)/\∀l,H l=none->Q (.ref l) (upd H l (.lst ys))):=by
 intro pins s σ H xs us Q I r h;obtain⟨p,ys,rfl,hq,q⟩:=h;obtain⟨u,rfl,rx⟩:=vals1 r;cases rx;have fin:∀(its:List Value),Vals ys its->ys.length<=sizeLine->∀(h':Heap)(c':Nat),(∀b o',s.heap.get? b=some o'->h'.get? b=some o') ->
   h'.get? s.heap.objs.size=some { cls:=.type "list",dict:=none,data:=.seq its.toArray c',slots:=#[] }->EP X pins σ Q (.ref s.heap.objs.size) { s with heap:=h' }:=fun its r' hz h' c' kp e =>
  ⟨.ref s.heap.objs.size,_,I.laid (t':=s.toks) kp (Wa _) (show ObjOk X.prog X.w _ h' _ (.lst ys) from⟨hz,its,c',r',e⟩),rfl,q _ (I.hok.fresh (Wa _))⟩
 rcases hq with hq|hq
 ·obtain⟨its,r',pl,hz⟩:=I.list hq;have hlen:=r'.length;obtain⟨o,ho,hc,n,hd⟩:=pl.isList;exact call_list_seq p (.inl rfl) ho hc hd (fun h' c' kp e=>fin its r' hz h' c' kp e) (by simp only[Qa]<;>lia)
 ·obtain⟨its,r',pl,hz⟩:=I.tuple hq;have hlen:=r'.length;obtain⟨o,ho,hc,n,hd⟩:=pl;exact call_list_seq p (.inr rfl) ho hc hd (fun h' c' kp e=>fin its r' hz h' c' kp e) (by simp only[Qa]<;>lia)
theorem mz:CallR X (.type "tuple") (fun xs H Q=>∃p ys,xs=[.ref p]/\((SqL X.K H p ys/\∀l,H l=none->Q (.ref l) (upd H l (.tup ys)))∨(SqT X.K H p ys/\Q (.ref p) H))):=by
 intro pins s σ H xs us Q I r h;obtain⟨p,ys,rfl,h⟩:=h;obtain⟨u,rfl,rx⟩:=vals1 r;cases rx;rcases h with⟨hq,q⟩|⟨hq,q⟩
 ·obtain⟨its,r',pl,hz⟩:=I.list hq;have hlen:=r'.length;refine call_tuple_list pl.isList (fun h' kp=>?_) (by simp only[Qa]<;>lia)
  have I1:Inv X pins σ H { s with heap:=h' }:=I.kept (t':=s.toks) kp;have I2:Inv X pins σ (upd H h'.objs.size (.tup ys)) { s with heap:=h'.push { cls:=.type "tuple",data:=.seq its.toArray } } :=
   I1.laid (t':=s.toks) (fun b o e=>Ac _ e) (Wa _) (show ObjOk X.prog X.w _ _ _ (.tup ys) from⟨hz,its,r',IsTup.new _ _⟩)
  exact⟨.ref h'.objs.size,_,I2,rfl,q _ (I1.hok.fresh (Wa _))⟩
 ·obtain⟨its,r',pl,hz⟩:=I.tuple hq;exact call_tuple_same pl ⟨.ref p,H,I,rfl,q⟩
def tyV(K:Aa)(T:String)(x:V)(H:Hp):Prop:=match x with
 | .str _=>T="str"
 | .int _=>T="int"
 | .ref p=>(T="list"/\∃xs,SqL K H p xs)∨(T="tuple"/\∃o,K.lookup p=some o/\o.cls=.type "tuple"/\o.dict=none) ∨
   (T="dict"/\((∃kvs,H p=some (.dK kvs))∨∃ep kvs,H p=some (.dT ep kvs)))∨(T="set"/\∃S n,H p=some (.set S n))
 | _=>False
theorem D6{s:Shared}(I:Inv X pins σ H s)(r:RelV x v)(ty:tyV X.K T x H) :
  s.TypeIs v T/\∀a,v=.ref a->∃ob,s.heap.get? a=some ob/\ob.dict=none:=by
 cases x with
 | str z =>
  obtain⟨t,rfl⟩:=r;cases (show T="str" from ty);exact⟨Co s z t,fun _ e=>nomatch e⟩
 | int i =>
  obtain⟨t,rfl⟩:=r;cases (show T="int" from ty);exact⟨typeIs_int s i t,fun _ e=>nomatch e⟩
 | ref p =>
  cases r;rcases ty with⟨rfl,xs,hq⟩|⟨rfl,o,hk,hc,hd⟩|⟨rfl,hk⟩|⟨rfl,S,n,hk⟩
  ·obtain⟨its,_,pl,_⟩:=I.list hq;refine⟨pl.isList.typeIs,fun a e=>?_⟩;cases e;obtain⟨o,n,e,c,hd,_⟩:=pl;exact⟨o,e,hd⟩
  ·refine⟨⟨o,I.kIn p o hk,hc⟩,fun a e=>?_⟩;cases e;exact⟨o,I.kIn _ o hk,hd⟩
  ·have z:∃o,s.heap.get? p=some o/\o.ExactDict:=by
    rcases hk with⟨kvs,hk⟩|⟨ep,kvs,hk⟩
    ·obtain⟨_,_,_,_,o,_,_,e,ex,_⟩:=I.hok p _ hk;exact⟨o,e,ex⟩
    ·obtain⟨_,_,_,_,_,o,_,e,ex,_⟩:=I.hok p _ hk;exact⟨o,e,ex⟩
   obtain⟨o,e,ex⟩:=z;refine⟨⟨o,e,ex.1⟩,fun a e2=>?_⟩;cases e2;exact⟨o,e,ex.2.1⟩
  ·obtain⟨o,_,_,_,e,ex,_⟩:=I.hok p _ hk;refine⟨⟨o,e,ex.1⟩,fun a e2=>?_⟩;cases e2;exact⟨o,e,ex.2.1⟩
 | _=>exact False.elim ty
def tBM(K:Aa)(T:String)(r:V->List V->Hp->VK->Prop)(to:TE)(t:TA):TE:=fun σ H Q=>to σ H fun x H1=>tyV K T x H1/\t σ H1 fun xs H2=>r x xs H2 Q
variable {o e:Expr}{es:List Expr}{to:TE}{t:TA}{name:Str}{apos cpos:Pos}{T id:String}{r:V->List V->Hp->VK->Prop}
theorem jY(pa:PlainAttrs T)(slot:Slot T name id)(hty:typeOf (.builtin id)=pure (.type "method_descriptor"))(hm:MtR X id r)(ho:PE X o to)(ha:PA X (e::es) t)
  (hbase:attributeBase o name X.env (eval o X.env)=eval o X.env:=by rfl)
  (hfew:((backTo cpos (starEach (e::es) X.env)).all (fun x=>!x.1)&&(backToKw cpos (keywordEach [] X.env)).all (fun x=>x.1.isSome)
   && decide ((e::es).length+([]:List Keyword).length+(if ([]:List Keyword).isEmpty then 0 else 1)<30))=true:=by rfl)
  (hline:(apos.endLine == cpos.line)=true:=by rfl) (hs:starEach (e::es) X.env=(false,eval e X.env)::starEach es X.env:=by rfl) (hplain:(backTo cpos (starEach es X.env)).any (·.1)=false:=by rfl) :
  PE X (.Call (.Attribute o name apos) (e::es) [] cpos) (tBM X.K T r to t):=by
 intro pins s σ H Q I h;refine wpAny_Call_method_late hbase hfew hline rfl (thn (ho pins s σ H _ I h) fun v s1 zz9=>?_);obtain⟨x,H1,I1,r1,ty,q1⟩:=zz9;obtain⟨h1,h2⟩:=D6 I1 r1 ty;refine⟨T,id,pa,slot,hty,h1,h2,?_⟩;have hA:=ha cpos pins s1 σ H1 _ I1 q1;rw[hs]at hA ⊢;refine BG (by show(false||(backTo cpos (starEach es X.env)).any (·.1))=false;rw[hplain]<;>rfl) (BR ?_)
 exact thn hA fun us s2 ⟨vs,H2,I2,r2,q2⟩=>hm pins s2 σ H2 x vs v us Q I2 r1 r2 q2
end
end L2
namespace L2
open PySem PySem.Spec PyProof.Rows
def MtM(X:Cx)(id:String)(r:V->List V->Hp->VK->Prop):Prop :=
 ∀(pins:List (Addr×Obj))(s:Shared)(σ:St)(H:Hp)(x:V)(xs:List V)(v:Value)(us:List Value)(Q:VK),Inv X pins σ H s->RelV x v->Vals xs us->r x xs H Q ->
  wpAny (model X.prog X.w) X.A (call (.builtin id) (v::us)) (EP X pins σ Q) X.xe s
theorem Vals.one:∀{x:V}{us:List Value},Vals [x] us->∃u,us=[u]/\RelV x u
 | _,_,.cons r .nil=>⟨_,rfl,r⟩
theorem Vals.eraseIdx:∀{xs:List V}{us:List Value}(i:Nat),Vals xs us->Vals (xs.eraseIdx i) (us.eraseIdx i)
 | _,_,_,.nil=>.nil
 | _,_,0,.cons _ t=>t
 | _,_,i+1,.cons r t=>.cons r (Vals.eraseIdx i t)
theorem mU:∀(l:List α)(i:Nat),(l.eraseIdx i).length<=l.length
 | [],_=>Wa _
 | _::_,0=>BP _
 | _::r,i+1=>Nat.succ_le_succ (mU r i)
section
variable {X:Cx}{pins:List (Addr×Obj)}{σ:St}{H:Hp}{s:Shared}{l b:Addr}{xs ys zs:List V}
theorem Inv.lset{its its':List Value}{t':Nat}(I:Inv X pins σ H s)(hH:H l=some (.lst xs))
  (e:s.heap.get? l=some { cls:=.type "list",data:=.seq its.toArray n })(hf:f its.toArray=its'.toArray)(hv:Vals ys its')(hz:ys.length<=sizeLine) :
  Inv X pins σ (upd H l (.lst ys)) { s with heap:=s.heap.update l (Obj.mapSeq f),toks:=t' }:=by
 have q:=PySem.IsL.update e f;rw[hf]at q;refine I.write (x:=l) (e:=l) (by rw[hH];exact trivial) (.inl rfl) (fun b' u hb hu=>(An s.heap (Obj.mapSeq f) (Ne.symm hb)).trans hu) ⟨_,q⟩ ?_
 exact⟨hz,its',_,hv,q⟩
theorem Inv.lnew{t':Nat}(I:Inv X pins σ H s)(hv:Vals ys its)(hz:ys.length<=sizeLine) :
  Inv X pins σ (upd H s.heap.objs.size (.lst ys)) { s with heap:=s.heap.push { cls:=.type "list",data:=.seq its.toArray },toks:=t' } :=
 I.laid (fun _ _ q=>Ac _ q) (Wa _) ⟨hz,its,0,hv,Aj _ rfl⟩
theorem Inv.fresh(I:Inv X pins σ H s):H s.heap.objs.size=none:=I.hok.fresh (Wa _)
theorem Inv.lstM(I:Inv X pins σ H s)(hH:H l=some (.lst xs)):xs.length<=sizeLine/\∃(its:List Value)(n:Nat),Vals xs its/\xs.length=its.length/\s.heap.get? l=some { cls:=.type "list",data:=.seq its.toArray n }:=by
 obtain⟨z,its,n,r,e⟩:=I.hok l _ hH;exact⟨z,its,n,r,r.length,e⟩
theorem o6(h:n<=sizeLine):Builtin.List.listTooLong n=false:=by
 unfold Builtin.List.listTooLong;exact Af (by lia)
end
section
variable {X:Cx}
def nW:V->List V->Hp->VK->Prop:=fun x vs H Q=>∃l xs y,x=.ref l/\vs=[y]/\H l=some (.lst xs)/\xs.length<sizeLine/\Q .non (upd H l (.lst (xs++[y])))
theorem tS:MtM X "list.append" nW:=by
 intro pins s σ H x vs v us Q I rx rv h;obtain⟨l,xs,y,rfl,rfl,hH,hz,q⟩:=h;cases rx;obtain⟨u,rfl,ru⟩:=rv.one;obtain⟨z,its,n,r,hl,e⟩:=I.lstM hH;refine BY F.slot_list_append ⟨_,e,rfl⟩ F.entry_list_append (F.args_list_append_2 _ _) (PySem.list_append l its.toArray n u (by rw[Qa];lia)) ⟨e,?_⟩
 refine⟨.non,_,I.lset (its':=its++[u]) hH e (by simp) (r.append (.cons ru .nil)) ?_,rfl,q⟩
 rw[Yb,Zh];lia
def rO:V->List V->Hp->VK->Prop:=fun x vs H Q=>∃l b xs zs,x=.ref l/\vs=[.ref b]/\H l=some (.lst xs)/\H b=some (.lst zs)/\xs.length+zs.length<=sizeLine/\Q .non (upd H l (.lst (xs++zs)))
theorem tT:MtM X "list.extend" rO:=by
 intro pins s σ H x vs v us Q I rx rv h;obtain⟨l,b,xs,zs,rfl,rfl,hH,hB,hz,q⟩:=h;cases rx;obtain⟨u,rfl,ru⟩:=rv.one;cases ru;obtain⟨z,its,n,r,hl,e⟩:=I.lstM hH;obtain⟨z2,its2,n2,r2,hl2,e2⟩:=I.lstM hB;have hsz:its.toArray.size+its2.toArray.size<=sizeLine:=by rw[Qa,Qa];lia
 have hlong:¬ (!its.toArray.isEmpty&&Builtin.List.listTooLong (its.toArray.size+its2.toArray.size))=true:=by
  rw[o6 hsz,Bool.and_false];exact Qb
 refine BY F.slot_list_extend ⟨_,e,rfl⟩ F.entry_list_extend (F.args_list_extend_2 _ _)
  (AutoSeq1.list_extend_list_list_0 l its.toArray n b its2.toArray n2 hlong (by rw[Qa];lia) (by lia)) ⟨e,e2,?_⟩
 refine⟨.non,_,I.lset (its':=its++its2) hH e (by simp) (r.append r2) ?_,rfl,q⟩
 rw[Yb];lia
def vg:V->List V->Hp->VK->Prop:=fun x vs H Q=>∃l xs i k y,x=.ref l/\vs=[.int i]/\H l=some (.lst xs)/\-(2 ^ 63)<=i/\i<2 ^ 63/\seqIndex? i xs.length=some k/\xs[k]?=some y/\Q y (upd H l (.lst (xs.eraseIdx k)))
theorem o7:MtM X "list.pop" vg:=by
 intro pins s σ H x vs v us Q I rx rv h;obtain⟨l,xs,i,k,y,rfl,rfl,hH,h1,h2,hk,hy,q⟩:=h;cases rx;obtain⟨u,rfl,ru⟩:=rv.one;obtain⟨t,rfl⟩:=ru;obtain⟨z,its,n,r,hl,e⟩:=I.lstM hH;obtain⟨w,hw,rw'⟩:=r.get hy;refine BY F.slot_list_pop ⟨_,e,rfl⟩ F.entry_list_pop (F.args_list_pop_2 _ _)
  (MeetsSeq.list_pop_at l its.toArray n i t k w (fitsIndex_both h1 h2) (by rw[Qa,← hl];exact hk) (by rw[← AW];exact hw) (by rw[Qa];lia)) ⟨e,?_⟩
 refine⟨y,_,I.lset (its':=its.eraseIdx k) hH e ?_ (r.eraseIdx k) ?_,rw',q⟩
 ·show its.toArray.eraseIdxIfInBounds k=(its.eraseIdx k).toArray;rw[List.eraseIdxIfInBounds_toArray]
 ·have:=mU xs k;lia
def D7:R2:=fun x y H Q=>∃l b xs zs,x=.ref l/\y=.ref b/\H l=some (.lst xs)/\H b=some (.lst zs)/\xs.length+zs.length<=sizeLine/\∀p,H p=none->Q (.ref p) (upd H p (.lst (xs++zs)))
theorem op_cat:OpR X (binaryOp .Add) D7:=by
 intro pins s σ H x y v u Q I rx ry h;obtain⟨l,b,xs,zs,rfl,rfl,hH,hB,hz,q⟩:=h;cases rx;cases ry;obtain⟨z,its,n,r,hl,e⟩:=I.lstM hH;obtain⟨z2,its2,n2,r2,hl2,e2⟩:=I.lstM hB;refine PySem.P.add_list e e2 ?_ (by rw[Qa,Qa];lia)
 have ea:its.toArray++its2.toArray=(its++its2).toArray:=by simp
 rw[ea];exact⟨.ref _,_,I.lnew (t':=s.toks) (r.append r2) (by rw[Yb];lia),rfl,q _ I.fresh⟩
end
end L2
namespace Att
open PySem PySem.W PySem.Calls PyProof.Rows
theorem kh:∀(ns:List Int)(vs:List Value),WellAll P h vs (ns.map WData.int)->IntsAre vs ns:=by
 intro ns;induction ns with
 | nil =>
  intro vs w;rw[List.map_nil]at w;cases w;exact .nil
 | cons n ns ih =>
  intro vs w;rw[Zd]at w;cases w with
  | cons a b =>
   cases a;exact .cons _ _ (ih _ b)
theorem tU{l:OpenLaw}(hn:l.most=some n){h:Heap}
  (hpre:l.row.toRowW.claim.pre args=true)(hwl:WellAll P h vals args) :
  ∃a vs ns,vals=[Value.ref a]/\args=[WData.list (ns.map WData.int)]/\h.get? a=some { cls:=.type "list",data:=.seq vs.toArray }/\IntsAre vs ns/\ns.length<=n:=by
 have hsh:WShape.hasAll [] args [.list .int]=true:=(pre_splitW hpre).1;have hc:l.pre.holds [] { args:=args }=true:=(pre_splitW hpre).2;obtain⟨d,r,rfl,h1,h2⟩:=hasAllW_cons hsh;obtain rfl:=hasAllW_nil h2;obtain⟨xs,rfl,h3⟩:=hasW_list h1;obtain⟨ns,rfl⟩:=items_int h3;have hlen:ns.length<=n:=by
  unfold OpenLaw.pre at hc;have h4:(WTm.not (.lt (.lit (.int (n:Int))) (.len (.arg 0)))).holds [] { args:=[.list (ns.map .int)] }=true:=by
   have h4:=(holds_andW hc).1;rw[hn]at h4;exact h4
  have h5:=condW_of h4 (w_not (w_lt w_lit (w_len_list (w_arg rfl))));rw[Ya]at h5;refine Bx fun q=>?_;have q':(n:Int)<((ns.length:Nat):Int):=by lia
  first
   | (rw[Ai q']at h5;exact absurd h5 (by decide))
   | (simp at h5;lia)
 cases hwl with
 | cons w1 w2 =>
  cases w2;cases w1 with
  | list ho hall=>exact⟨_,_,ns,rfl,rfl,ho,kh ns _ hall,hlen⟩
theorem tV(l:OpenLaw)(args:List WData):l.row.toRowW.claim.post args (.bool true) args=true :=
 postW_of (r:=l.row.toRowW) (X:=(true == true))
  (show WShape.has [] (.bool true) .bool=true by first|rfl|decide|simp[WShape.has,WShape.arms,WShape.armsAll])
  (show(WTm.eq .res (.lit (.bool true))).value [] { args:=args,res:=some (.bool true),after:=args }=some (.bool (true == true)) from w_eq_bool (w_res rfl) w_lit) rfl
theorem attach_call{l:OpenLaw}{d:DefRec}
  (hn:l.most=some n)(hdf:d.params.defaults=[])
  (call:∀(w:World)(s₀ s₁:Shared)(mg mb:Str->Option Value)(fa:Addr)(o:Obj)(pm cd doc:Value)(a:Addr)(vs:List Value)(ns:List Int),
   Ground q loose [] XP w s₀ mg mb s₁.heap->YP w s₁.heap ->
   s₁.heap.get? fa=some o->o.data=.func (docDef d.name d.params d.body d.scope pm cd doc)->s₁.heap.CodeRec cd d.name->mg d.name=some (.ref fa) ->
   s₁.heap.get? a=some { cls:=.type "list",data:=.seq vs.toArray }->IntsAre vs ns->ns.length<=n->s₁.gens=#[] ->
   codeAny (model l.prog w) callerA (.call (.ref fa) ⟨[.ref a],[]⟩) (fun r s'=>r=.ok (.ret (.bool true))/\OldK s₁.heap s'.heap/\s'.os=s₁.os/\AllBare s'.gens) s₁) :
  WalkO q loose XP YP l.row.toRowW d [] (fun f vs=>PySem.call f vs):=by
 intro w s₀ s₁ mg mb G Y fa o pm cd doc dV kV ho hd hcd hD hmg hg args vals as hpre hlay hrd hwl hlo;obtain rfl:dV=.none:=Dflts.none hD hdf;obtain rfl:kV=.none:=Dflts.noKw hD;obtain⟨a,vs,ns,rfl,rfl,hobj,hints,hlen⟩:=tU hn hpre hwl;refine enter_call (AH (call w s₀ s₁ mg mb fa o pm cd doc a vs ns G Y ho (fd_plain hd) hcd hmg hobj hints hlen hg) fun r s' hq=>?_);obtain⟨rfl,h2,h3,h4⟩:=hq;exact⟨.inl ⟨.bool true,.bool true,[],rfl,fun _=>rfl,.bool true,tV l _,fun _=>⟨List.Pairwise.nil,fun _ hm=>(nomatch hm)⟩⟩,h2,h3,h4⟩
end Att
namespace L2
open PySem PySem.Spec PyProof.Rows
theorem mV:∀{vs:List Value}{ns:List Int},IntsAre vs ns->Vals (ns.map V.int) vs
 | _,_,.nil=>.nil
 | _,_,.cons n t h=>.cons ⟨t,rfl⟩ (mV h)
def D8(H:Hp):Prop:=∀b,H b=none∨∃o xs,H b=some (.frz o (.lst xs))
theorem vh{K:Aa}{s₁:Shared}{vs:List Value}{ns:List Int}
  (KX:K.In s₁.heap)(hns:s₁.heap.Ns mainGlobals mg)(hb:s₁.heap.Ns builtinsNs mb)(hbb:∀x:Str,x≠"__name__"->mb x=bootBuiltins x)(hlim:s₁.heap.NoLimit)(hg:s₁.gens=#[])
  (ha:s₁.heap.get? a=some { cls:=.type "list",data:=.seq vs.toArray }) (hi:IntsAre vs ns) (hl:ns.length<=sizeLine) (hr:Room k callerA)
  (F:∀base:Heap,K.In base->base.Ns mainGlobals mg->FnOk P w K mg base CX k fa fd [x] sp) (hbind:∀(s:Shared)(u:Value),BindsTo s fd ⟨[u],[]⟩ [(x,u)])
  (hsp:∀H:Hp,D8 H->SqL K H a (ns.map V.int)->sp [.ref a] H (fun v _=>v=.bl true) fun _ _ _=>False)
  (hCX:∀H e s',CX [] H s₁ (fun _ _ _=>False) e s'->False) :
  codeAny (model P w) callerA (.call (.ref fa) ⟨[.ref a],[]⟩) (fun r s'=>r=.ok (.ret (.bool true))/\OldK s₁.heap s'.heap/\s'.os=s₁.os/\AllBare s'.gens) s₁:=by
 have rv:=mV hi;have yr:=hi.length;have core:∀H:Hp,D8 H->SqL K H a (ns.map V.int)->HOk P w H s₁.heap->(∀b,H b≠none->b=a)->(H a≠none->K.lookup a=none) ->
   codeAny (model P w) callerA (.call (.ref fa) ⟨[.ref a],[]⟩) (fun r s'=>r=.ok (.ret (.bool true))/\OldK s₁.heap s'.heap/\s'.os=s₁.os/\AllBare s'.gens) s₁:=by
  intro H hO hS hok hA hK;have base_of:∀{b:Addr}{o:Obj},s₁.heap.get? b=some o->H b=none->(nL s₁.heap H).get? b=some o:=fun e n=>uU e n;have noA:∀{b:Addr}{o:Obj}{es:Array DictEntry}{ep:Nat},s₁.heap.get? b=some o->o.data=.dict es ep->H b=none:=fun {b o es ep} e d=>by
   cases q:H b with
   | none=>rfl
   | some u =>
    have e':b=a:=hA b (by rw[q];simp)
    subst e';rw[ha]at e;cases e;have d':Data.seq vs.toArray _=Data.dict es ep:=d;cases d'
  have nsK:∀{b:Addr}{m:Str->Option Value},s₁.heap.Ns b m->(nL s₁.heap H).Ns b m:=fun {b m} ⟨o,es,ep,e,d,r⟩=>⟨o,es,ep,base_of e (noA e d),d,r⟩
  have hKb:K.In (nL s₁.heap H):=fun b o e=>base_of (KX b o e) (by
   cases q:H b with
   | none=>rfl
   | some u =>
    have e':b=a:=hA b (by rw[q];simp)
    subst e'
    rw[hK (by rw[q];simp)]at e;cases e)
  have hM:Mod K mg (nL s₁.heap H):=⟨hKb,nsK hns,⟨mb,nsK hb,hbb⟩,let ⟨mc,h1,h2⟩:=hlim;⟨mc,nsK h1,h2⟩⟩;have e0:Env0 P w K mg (nL s₁.heap H) callerA [] s₁ H:=⟨rfl,hM,fun b o e=>xT e,Nat.le_of_eq (tH _ _),trivial,fun b hb=>absurd (show b∈([]:List Addr) from hb) (by simp),hok,.of_eq hg⟩
  refine AH ((F _ hKb (nsK hns)).run callerA [] s₁ H ⟨[.ref a],[]⟩ [.ref a] [.ref a] _ _ hr e0 (hbind s₁ (.ref a)) (.cons rfl .nil) (hsp H hO hS)) fun r s' h=>?_;cases r with
  | error e=>exact(hCX H e s' h).elim
  | ok fl =>
   cases fl with
   | next=>exact False.elim h
   | brk=>exact False.elim h
   | cont=>exact False.elim h
   | ret u =>
    obtain⟨v,H',os,bare,un,hok',r',q⟩:=h;have q':v=.bl true:=q;subst q';obtain rfl:u=Value.bool true:=r';refine⟨rfl,OldK.of_keep fun b o e=>?_,os,bare⟩;cases q:H b with
    | none=>exact un.keep b o e q (by intro z;exact absurd (show b∈([]:List Addr) from z) (by simp)) (by simp)
    | some u =>
     rcases hO b with z|⟨ob,xs,z⟩
     ·rw[q]at z;cases z
     ·have z2:=un.frzs b ob _ z;obtain⟨e1,_⟩:=hok b _ z;obtain⟨e2,_⟩:=hok' b _ z2;rw[e]at e1;cases e1;exact e2
 cases hk:K.lookup a with
 | some o =>
  have e:=KX a o hk;rw[ha]at e;cases e;refine core (fun _=>none) (fun _=>.inl rfl) (.inr ⟨_,vs.toArray,_,hk,rfl,rfl,rfl,by rw[Qa,yr];exact hl,by simpa using rv⟩) (fun b u z=>by have z':(none:Option HO)=some u:=z;cases z') (fun b z=>absurd rfl z) fun z=>absurd rfl z
 | none =>
  refine core (fun b=>if b=a then some (.frz { cls:=.type "list",data:=.seq vs.toArray } (.lst (ns.map V.int))) else none) (fun b=>?_) (.inl (.inr ⟨{ cls:=.type "list",data:=.seq vs.toArray },Ad rfl⟩)) (fun b u z=>?_) (fun b z=>?_) fun _=>hk
  ·by_cases hb:b=a
   ·exact .inr ⟨_,_,Ad hb⟩
   ·exact .inl (Ag hb)
  ·by_cases hb:b=a
   ·have z':=(Ad hb).symm.trans z;cases z';subst hb;exact⟨ha,by rw[Ya];exact hl,vs,_,rv,ha⟩
   ·have z':=(Ag hb).symm.trans z;cases z'
  ·by_cases hb:b=a
   ·exact hb
   ·exact absurd (Ag hb) z
theorem walk_of{l:PySem.W.OpenLaw}{n k:Nat}{loose:List Str}{XP:(Str->Option Value)->Heap->Prop}{YP:World->Heap->Prop}{d:DefRec}{K:Params->Aa}{CX:World->CXT}{sp:World->Sp}{x:Str}
  (hn:l.most=some n)(hn2:n<=sizeLine)(hdf:d.params.defaults=[])(hr:Room k callerA)
  (hY:∀(w:World)(h:Heap),YP w h->(K w.params).In h)
  (F:∀(w:World)(mg:Str->Option Value)(fa:Addr)(h:Heap),(K w.params).In h->h.Ns mainGlobals mg->mg d.name=some (.ref fa) ->
   ∃fd:FuncData,(∀(s:Shared)(u:Value),BindsTo s fd ⟨[u],[]⟩ [(x,u)]) /\
    ∀base:Heap,(K w.params).In base->base.Ns mainGlobals mg->FnOk l.prog w (K w.params) mg base (CX w) k fa fd [x] (sp w))
  (hsp:∀(w:World)(H:Hp)(a:Addr)(ns:List Int),ns.length<=n->D8 H->SqL (K w.params) H a (ns.map V.int)->sp w [.ref a] H (fun v _=>v=.bl true) fun _ _ _=>False)
  (hCX:∀(w:World)(H:Hp)(s:Shared)(e:Value)(s':Shared),CX w [] H s (fun _ _ _=>False) e s'->False) :
  PySem.W.WalkO q loose XP YP l.row.toRowW d [] (fun f vs=>PySem.call f vs):=by
 refine Att.attach_call hn hdf fun w s₀ s₁ mg mb fa o pm cd doc a vs ns G Y ho hd hcd hmg hobj hints hlen hg=>?_;have KX:=hY w _ Y;obtain⟨fd,hb,hF⟩:=F w mg fa _ KX G.T.g hmg;exact vh KX G.T.g G.T.b G.T.builtins G.T.nolimit hg hobj hints (Qc hlen hn2) hr hF hb (fun H hO hS=>hsp w H a ns hlen hO hS) fun H e s'=>hCX w H s₁ e s'
end L2
namespace L2
open PySem PySem.Spec PyProof.Rows
def fO(s:Stmt):Arguments:=match s with
 | .FunctionDef _ a _ _ _ _ _ _ _ _=>a
 | _=>{ posonlyargs:=[],args:=[],vararg:=none,kwonlyargs:=[],kw_defaults:=[],kwarg:=none,defaults:=[] }
def cg(s:Stmt):List Stmt:=match s with
 | .FunctionDef _ _ b _ _ _ _ _ _ _=>b
 | _=>[]
def ar(s:Stmt):Scope:=match s with
 | .FunctionDef _ _ _ _ _ _ sc _ _ _=>sc
 | _=>{ kind:=.function,names:=[],isGenerator:=false,isCoroutine:=false }
abbrev CX0:CXT:=fun _ _ _ _ _ _=>False
abbrev E0:XK:=fun _ _ _=>False
theorem Gg:qp CX0 X E0:=fun _ _ _ _ _ _ _ h=>h.elim
structure Fun(K:Aa)(x qual:Str)(st:Stmt)(f:Addr)(fd:FuncData):Prop where
 ex:∃(oc:Value)(od:Option Addr)(kV doc pm:Value)(an:Option Addr)(cdv ct:Value)(osl:Array (Option Value)),
  fd=PySem.W.fnOf x qual (fO st) (cg st) (ar st) .none kV doc pm an cdv ct/\K.lookup f=some ⟨oc,od,.func fd,osl⟩/\PySem.W.codeIn K cdv qual=true
 kp:PySem.W.keepIn K (.ref f)=true
section
variable {P:Program}{w:World}{K:Aa}{mg:Str->Option Value}{base:Heap}
theorem Fun.ok{x qual:Str}{st:Stmt}{f:Addr}{fd:FuncData}{N ps:List Str}{k:Nat}{sp:Sp}(F:Fun K x qual st f fd)(S:FnScope N ps (ar st))(len:∀vs H Q E,sp vs H Q E->vs.length=ps.length)
  (hbody:∀(cdv:Value)(A:Around)(outer:List Env)(s:Shared)(H:Hp)(vs:List V)(Q:VK)(E:XK),Room k (A.deeper (envOfC qual (ar st) s.heap.objs.size f cdv))->sp vs H Q E ->
   ∃t,PSs (b9 CX0 P w K mg base N qual (ar st) f cdv A outer s H E).nox (cg st) t/\t { nx:=fun _ H'=>Q .non H',rt:=Q } (start N vs) H):FnOk P w K mg base CX0 (k+1) f fd ps sp:=by
 obtain⟨oc,od,kV,doc,pm,an,cdv,ct,osl,rfl,lk,hcd⟩:=F.ex;refine zU lk hcd S len fun A outer s H vs Q E hr hsp=>?_;obtain⟨t,h,q⟩:=hbody cdv A outer s H vs Q E hr hsp;exact⟨t,h.nox,q⟩
theorem Fun.binds{x qual:Str}{st:Stmt}{f:Addr}{fd:FuncData}{ps:List Str}(F:Fun K x qual st f fd)
  (h:∀(kV doc pm:Value)(an:Option Addr)(cdv ct:Value)(us:List Value),us.length=ps.length->bindArgs (PySem.W.fnOf x qual (fO st) (cg st) (ar st) .none kV doc pm an cdv ct) ⟨us,[]⟩=pure (ps.zip us)):Binds K fd ps []:=by
 obtain⟨oc,od,kV,doc,pm,an,cdv,ct,osl,rfl,lk,hcd⟩:=F.ex;exact .all (h kV doc pm an cdv ct)
theorem D9{x qual:Str}{st:Stmt}{f:Addr}{oc:Value}{od an:Option Addr}{osl:Array (Option Value)}{kV doc pm cdv ct:Value}(l:K.lookup f=some ⟨oc,od,.func (PySem.W.fnOf x qual (fO st) (cg st) (ar st) .none kV doc pm an cdv ct),osl⟩)
  (c:PySem.W.codeIn K cdv qual=true)(k:PySem.W.keepIn K (.ref f)=true):Fun K x qual st f (PySem.W.fnOf x qual (fO st) (cg st) (ar st) .none kV doc pm an cdv ct):=⟨⟨oc,od,kV,doc,pm,an,cdv,ct,osl,rfl,l,c⟩,k⟩
end
theorem mW{A:Around}(hr:Room k A):A.units+1<cLine:=Xl (Vj (by decide:1<=64) _) hr.units
theorem tW(h:n<=1000):n<sizeLine:=Xl h (by decide)
section
variable {X:Cx}
theorem pv(i:Nat)(hN:X.N[i]?=some x:=by rfl)(hv:Vis X.env.scope x:=by first|exact Or.inl rfl|exact Or.inr (Or.inl rfl)|exact Or.inr (Or.inr rfl))(hd:(x == ("__debug__":Str))=false:=by decide)
  (hcd:(x == ("__classdict__":Str))=false:=by decide):PE X (.Name x pos) (kM i):=DB hN hv hd hcd
end
def Same(H H':Hp):Prop:=∀b o,H b=some o->H' b=some o
theorem Same.refl(H:Hp):Same H H:=fun _ _ h=>h
end L2
namespace L2
open PySem PySem.Spec PyProof.Rows
def bo(env:Env):List (Str×NameKind)->List (Str×Addr)->List (Str×Addr)
 | [],acc=>acc
 | (n,k)::r,acc=>if k=.free then bo env r ((n,(env.cells.lookup n).getD 0)::acc) else bo env r acc
theorem fP{env:Env}{f:Str×NameKind->List (Str×Addr)->Sem (ForInStep (List (Str×Addr)))}
  (h1:∀n k cs c,k=NameKind.free->env.cells.lookup n=some c->f (n,k) cs=pure (.yield ((n,c)::cs)))
  (h2:∀n k cs,k≠NameKind.free->f (n,k) cs=pure (.yield cs)) :
  ∀(names:List (Str×NameKind))(acc:List (Str×Addr)),(∀x∈names,x.2=.free->∃c,env.cells.lookup x.1=some c)->forIn names acc f=pure (bo env names acc)
 | [],_,_=>rfl
 | (n,k)::r,acc,h=>by
  have hr:∀x∈r,x.2=.free->∃c,env.cells.lookup x.1=some c:=fun x hx=>h x (Zc _ hx);by_cases hk:k=.free
  ·obtain⟨c,hc⟩:=h (n,k) Wc hk;have e:bo env ((n,k)::r) acc=bo env r ((n,c)::acc):=by
    show(if k=.free then _ else _)=_;rw[Ad hk];have hc':env.cells.lookup n=some c:=hc;rw[hc'];rfl
   rw[List.forIn_cons,h1 n k acc c hk hc,pure_bind,e];exact fP h1 h2 r _ hr
  ·have e:bo env ((n,k)::r) acc=bo env r acc:=by
    show(if k=.free then _ else _)=_;rw[Ag hk]
   rw[List.forIn_cons,h2 n k acc hk,pure_bind,e];exact fP h1 h2 r _ hr
theorem iS{scope:Scope}{env:Env}(h:∀x∈scope.names,x.2=.free->∃c,env.cells.lookup x.1=some c):closureFor scope env=pure (bo env scope.names []):=by
 simp only[closureFor];have key:=fun f h1 h2=>fP (env:=env) (f:=f) h1 h2 scope.names [] h
 rw[key _ (fun n k cs c hk hc=>by subst hk;simp[cellOf,hc]) (fun n k cs hk=>by
  have:(k == NameKind.free)=false:=by simpa using hk
  simp only[this,Zf,if_false])]
 rfl
theorem bF{α β:Type}[BEq α]{x n:α}{k:β}{r:List (α×β)}:List.lookup x ((n,k)::r)=if (x == n)=true then some k else List.lookup x r:=by
 rw[List.lookup_cons];cases x == n<;>rfl
theorem eW{env:Env}{x:Str}{c:Addr}:∀(names:List (Str×NameKind))(acc:List (Str×Addr)),(∀x∈names,x.2=.free->∃c,env.cells.lookup x.1=some c) ->
  (∀y c,acc.lookup y=some c->env.cells.lookup y=some c)->(bo env names acc).lookup x=some c->env.cells.lookup x=some c
 | [],acc,_,ha,e=>ha x c e
 | (n,k)::r,acc,h,ha,e=>by
  have hr:∀x∈r,x.2=.free->∃c,env.cells.lookup x.1=some c:=fun x hx=>h x (Zc _ hx);by_cases hk:k=.free
  ·obtain⟨c',hc⟩:=h (n,k) Wc hk;have hc':env.cells.lookup n=some c':=hc;have q:bo env ((n,k)::r) acc=bo env r ((n,c')::acc):=by
    show(if k=.free then _ else _)=_;rw[Ad hk,hc'];rfl
   rw[q]at e;refine eW r _ hr (fun y d hy=>?_) e;rw[bF]at hy;by_cases hyn:(y == n)=true
   ·rw[Ad hyn]at hy;have:y=n:=by simpa using hyn
    rw[this,hc',hy]
   ·rw[Ag hyn]at hy;exact ha y d hy
  ·have q:bo env ((n,k)::r) acc=bo env r acc:=by
    show(if k=.free then _ else _)=_;rw[Ag hk]
   rw[q]at e;exact eW r _ hr ha e
theorem iu{env:Env}{x:Str}{c:Addr}(hx:env.cells.lookup x=some c):∀(names:List (Str×NameKind))(acc:List (Str×Addr)),(acc.lookup x=some c∨(x,NameKind.free)∈names)->(bo env names acc).lookup x=some c
 | [],acc,h=>by
  rcases h with h|h
  ·exact h
  ·cases h
 | (n,k)::r,acc,h=>by
  by_cases hk:k=.free
  ·have q:bo env ((n,k)::r) acc=bo env r ((n,(env.cells.lookup n).getD 0)::acc):=by
    show(if k=.free then _ else _)=_;rw[Ad hk]
   rw[q];refine iu hx r _ ?_;by_cases hxn:(x == n)=true
   ·left;have e:x=n:=by simpa using hxn
    rw[bF,Ad hxn,← e,hx];rfl
   ·rcases h with h|h
    ·left;rw[bF,Ag hxn];exact h
    ·right;rcases Xd.mp h with h|h
     ·cases h;exact absurd (by simp) hxn
     ·exact h
  ·have q:bo env ((n,k)::r) acc=bo env r acc:=by
    show(if k=.free then _ else _)=_;rw[Ag hk]
   rw[q];refine iu hx r _ ?_;rcases h with h|h
   ·exact .inl h
   ·rcases Xd.mp h with h|h
    ·cases h;exact absurd rfl hk
    ·exact .inr h
theorem cz{env:Env}{x:Str}:∀(names:List (Str×NameKind)),
  ((names.map fun(n,k)=>if (k == NameKind.free&&env.scope.kind == .function&&env.kindOf n == some .cell) then(n,NameKind.cell) else(n,k)).lookup x=none/\names.lookup x=none) ∨
  ∃k k',names.lookup x=some k/\(names.map fun(n,k)=>if (k == NameKind.free&&env.scope.kind == .function&&env.kindOf n == some .cell) then(n,NameKind.cell) else(n,k)).lookup x=some k'/\(k'=k∨(k=.free/\k'=.cell))
 | []=>.inl ⟨rfl,rfl⟩
 | (n,k)::r=>by
  have ih:=@cz env x r;show(List.lookup x ((if (k == NameKind.free&&env.scope.kind == .function&&env.kindOf n == some .cell)=true then(n,NameKind.cell) else(n,k))::_)=none/\_)∨∃k' k'',_/\List.lookup x ((if (k == NameKind.free&&env.scope.kind == .function&&env.kindOf n == some .cell)=true then(n,NameKind.cell) else(n,k))::_)=_/\_;by_cases hc:(k == NameKind.free&&env.scope.kind == .function&&env.kindOf n == some .cell)=true
  ·rw[Ad hc,bF,bF];have hk:k=.free:=by
    simp only[Zg]at hc;simpa using hc.1.1
   by_cases hx:(x == n)=true
   ·rw[Ad hx,Ad hx];exact .inr ⟨k,.cell,rfl,rfl,.inr ⟨hk,rfl⟩⟩
   ·rw[Ag hx,Ag hx];exact ih
  ·rw[Ag hc,bF,bF];by_cases hx:(x == n)=true
   ·rw[Ad hx,Ad hx];exact .inr ⟨k,k,rfl,rfl,.inl rfl⟩
   ·rw[Ag hx,Ag hx];exact ih
abbrev cxC(X:Cx)(N:List Str)(scope:Scope)(C:Addr)(s:Shared)(H:Hp)(fp:List Addr):Cx :=
 { X with N:=N,s₀:=s,H₀:=H,env:=compEnvC scope (bo X.env scope.names []) C X.env,outer:=X.stack,stack:=X.stack,ex:=fp,fn:=fun _=>false,pn:=[],xe:=fun _ _=>False }
structure BlkScope(X:Cx)(N:List Str)(k:Nat)(caps:List Nat)(scope:Scope):Prop where
 kind:scope.kind=.function
 nocell:∀y∈scope.names,y.2≠.cell
 loc:∀y∈scope.names,y.2=.local->scope.names.lookup y.1=some .local
 free:∀y∈scope.names,y.2=.free->(X.env.kindOf y.1=some .cell∨X.env.kindOf y.1=some .free)
 len:N.length=k+caps.length
 cap:∀(j i:Nat),caps[j]?=some i->∃x,N[k+j]?=some x/\X.N[i]?=some x/\scope.names.lookup x=some .free
def blk(k:Nat)(caps:List Nat)(σ:St):St:=List.replicate k none++caps.map fun i=>(σ[i]?).getD none
section
variable {X:Cx}{N:List Str}{k:Nat}{caps:List Nat}{scope:Scope}
theorem BlkScope.cells(S:BlkScope X N k caps scope)(ok:X.Ok):∀x∈scope.names,x.2=.free->∃c,X.env.cells.lookup x.1=some c:=fun x hx hk=>ok.has x.1 (S.free x hx hk)
theorem BlkScope.sub(S:BlkScope X N k caps scope)(ok:X.Ok)(e:(bo X.env scope.names []).lookup x=some c):X.env.cells.lookup x=some c :=
 eW _ _ (S.cells ok) (fun y c h=>by cases h) e
theorem BlkScope.has(S:BlkScope X N k caps scope)(ok:X.Ok)(h:scope.names.lookup x=some .free):∃c,X.env.cells.lookup x=some c/\(bo X.env scope.names []).lookup x=some c:=by
 have hm:=AA h;obtain⟨c,hc⟩:=S.cells ok _ hm rfl;exact⟨c,hc,iu hc _ _ (.inr hm)⟩
theorem rP(σ:St):(blk k caps σ).length=k+caps.length:=by unfold blk;simp
theorem rQ(h:(blk k caps σ)[i]?=some (some v)):∃j i',i=k+j/\caps[j]?=some i'/\σ[i']?=some (some v):=by
 unfold blk at h;by_cases hi:i<k
 ·rw[Ze (by simpa using hi),Yj]at h
  split at h<;>cases h
 ·rw[Wd (by simpa using hi),Zi,Xb]at h
  refine⟨i-k,?_⟩;cases e:caps[i-k]? with
  | none=>rw[e]at h;cases h
  | some i' =>
   rw[e]at h;refine⟨i',by lia,rfl,?_⟩
   have h':(σ[i']?).getD none=some v:=by simpa using h
   cases q:σ[i']? with
   | none=>rw[q]at h';cases h'
   | some o=>rw[q]at h';have h'':o=some v:=h';rw[h'']
theorem Ea{s:Shared}(S:BlkScope X N k caps scope)(I:Inv X pins σ H s)(hf:∀b∈fp,jy X pins H b)(hlt:∀b∈fp,b<s.heap.objs.size)(hC:s.heap.objs.size<=C) :
  (cxC X N scope C s H fp).Ok:=by
 have nfs:∀b∈fp,b∉frs X.stack:=fun b hb z=>by
  rcases Xd.mp (I.stkSub b z) with e|e
  ·exact(hf b hb).2.1 e
  ·exact(hf b hb).2.2.1 e
 refine⟨I.ok.mod,S.kind,I.ok.glob,I.ok.blt,hC,fun x y c h1 h2=>I.ok.inj x y c (S.sub I.ok h1) (S.sub I.ok h2),fun x hx=>?_,fun x c h=>(by cases h),I.ok.hd,I.ok.frames,.inl rfl,fun b hb=>⟨?_,fun x c e=>?_⟩,I.bs,Qc I.ok.bsz I.sz,fun b o e hb=>?_,nfs,I.stack,I.stkFree⟩
 ·have hx':(relabel scope X.env).names.lookup x=some .cell∨(relabel scope X.env).names.lookup x=some .free:=hx;rcases cz (env:=X.env) (x:=x) scope.names with⟨e,_⟩|⟨k1,k2,e1,e2,e3⟩
  ·rcases hx' with z|z<;>(have z':=e.symm.trans z;cases z')
  ·have hk2:k2=.cell∨k2=.free:=by
    rcases hx' with z|z
    ·exact .inl (Option.some.inj (e2.symm.trans z))
    ·exact .inr (Option.some.inj (e2.symm.trans z))
   have hfree:k1=.free:=by
    rcases e3 with z|⟨z,_⟩
    ·rcases hk2 with q|q
     ·exact absurd (z.symm.trans q) (S.nocell _ (AA e1))
     ·exact z.symm.trans q
    ·exact z
   rw[hfree]at e1;obtain⟨c,_,hc⟩:=S.has I.ok e1;exact⟨c,hc⟩
 ·exact Qe (Wb (hlt b hb) hC)
 ·exact(hf b hb).2.2.2.2.1 x c (S.sub I.ok e)
 ·rcases(hf b hb).2.2.2.1 with z|z
  ·exact I.ok.noex b o e z
  ·exact absurd (Wb (Ah (I.ok.bs b o e).1) z) (Yh _)
theorem yg{s s3:Shared}(S:BlkScope X N k caps scope)(I:Inv X pins σ H s)(hf:∀b∈fp,jy X pins H b)(hlt:∀b∈fp,b<s.heap.objs.size)
  (hC:s.heap.objs.size<=C)(hos:s3.os=s.os)(hg:s3.gens=s.gens)(kp:∀b o,s.heap.get? b=some o->s3.heap.get? b=some o)(hn:s3.heap.Ns C m):Inv (cxC X N scope C s H fp) [] (blk k caps σ) H s3:=by
 refine⟨Ea S I hf hlt hC,hos,by rw[hg];exact I.bare,Un.kept kp,⟨m,hn,fun i x v e1 e2 e3=>?_⟩,fun x c e=>?_,I.hok.fresh hC,fun x c e=>I.freeC x c (S.sub I.ok e),fun p hp=>absurd hp (by simp),I.hok.kept kp,by rw[rP];exact S.len.symm⟩
 ·obtain⟨j,i',rfl,hc,hv⟩:=rQ e2;obtain⟨y,h1,h2,h3⟩:=S.cap j i' hc;have exy:y=x:=Option.some.inj (h1.symm.trans e1);subst exy;obtain⟨c,hc1,hc2⟩:=S.has I.ok h3;obtain⟨m0,hn0,hl0⟩:=I.loc;have hkind:=S.free _ (AA h3) rfl;obtain⟨u,ru,lu⟩:=hl0 i' y v h2 hv (hkind.elim (fun z=>.inr (.inl z)) (fun z=>.inr (.inr z)));refine⟨u,ru,.inr ⟨?_,c,hc2,?_⟩⟩
  ·rcases cz (env:=X.env) (x:=y) scope.names with⟨_,e⟩|⟨k1,k2,q1,q2,q3⟩
   ·rw[e]at h3;cases h3
   ·have hk1:k1=.free:=Option.some.inj (q1.symm.trans h3);rcases q3 with z|⟨_,z⟩
    ·right;show(relabel scope X.env).names.lookup y=_;exact q2.trans (by rw[z,hk1])
    ·left;show(relabel scope X.env).names.lookup y=_;exact q2.trans (by rw[z])
  ·rcases lu with⟨hk,_⟩|⟨_,c',hc',cell⟩
   ·rcases hkind with z|z<;>(have z':=hk.symm.trans z;cases z')
   ·have:c'=c:=Option.some.inj (hc'.symm.trans hc1);subst this;obtain⟨o,ho,hd⟩:=cell;exact⟨o,kp _ o ho,hd⟩
 ·obtain⟨v,o,ho,hd⟩:=I.cell x c (S.sub I.ok e);exact⟨v,o,kp _ o ho,hd⟩
end
def PIf(X:Cx)(ifs:List Expr)(t:TT):Prop :=
 ∀(pins:List (Addr×Obj))(s:Shared)(σ:St)(H:Hp)(Q:Bool->Hp->Prop),Inv X pins σ H s->t σ H Q ->
  wpAny (model X.prog X.w) X.A (forIn ifs true fun c r=>if r=true then do let ok ← isTrue c X.env (eval c X.env);pure (ForInStep.yield ok) else pure (ForInStep.yield r)) (TP X pins σ Q) X.xe s
def Gh:TT:=fun _ H Q=>Q true H
theorem fQ:PIf X [] Gh:=fun _ _ _ H _ I h=>wpAny_tests_nil ⟨H,I,h⟩
theorem rR(h:PT X c t):PIf X [c] t:=fun pins s σ H Q I hw=>wpAny_tests_one (h pins s σ H Q I hw)
theorem gy(I:Nat->Shared->Prop)
  (turn:∀n s,I n s->wpAny (model prog w) A (pyNext it) (fun r s₁=>match r with
   | none=>R (.ok .next) s₁
   | some v=>wpAny (model prog w) A (letOwnedTupleGo target it v) (fun _ s₀=>wpAny (model prog w) A (assign target env v) (fun _ s₂ =>
     wpAny (model prog w) A (forIn ifs true fun c r=>if r=true then do let ok ← isTrue c env (eval c env);pure (ForInStep.yield ok) else pure (ForInStep.yield r)) (fun ok s₃ =>
      if ok=true then wpAny (model prog w) A (eval elt env) (fun x s₄ =>
       wpAny (model prog w) A (call (.builtin "list.append") [acc,x]) (fun _ s₅=>∃m,m<n/\I m s₅) (fun _ _=>False) s₄) (fun _ _=>False) s₃
      else ∃m,m<n/\I m s₃) (fun _ _=>False) s₂) (fun _ _=>False) s₀) (fun _ _=>False) s₁) (fun _ _=>False) s)
  (n:Nat) (h:I n s) :
  codeAny (model prog w) A (.compLoop (.ListComp elt [⟨target,iter,ifs,0⟩] scope pos) 0 it acc env) R s:=by
 refine codeAny_loop rfl I (fun n s hI=>?_) n h;show wpAny _ A ((compTurn (.ListComp elt [⟨target,iter,ifs,0⟩] scope pos) 0 it acc env).onRaise (fun x=>do noteFrame x env;theTreesLotGoes x)) _ _ s
 refine wpAny_noted ?_;rw[compTurn_list];refine Ab (AX (Ab (Aq (turn n s hI) (fun r s₁ h₁=>?_) fun _ _ h'=>False.elim h')));cases r with
 | none=>exact Ae h₁
 | some v =>
  refine Ab (Aq h₁ (fun _ s₀ h₀=>?_) fun _ _ h'=>False.elim h');refine Ab (Aq h₀ (fun _ s₂ h₂=>Ab (Aq h₂ (fun ok s₃ h₃=>?_) fun _ _ h'=>False.elim h')) fun _ _ h'=>False.elim h');cases ok with
  | false=>exact Ae ⟨rfl,h₃⟩
  | true =>
   exact Ab (Ab (Aq h₃ (fun x s₄ h₄=>Ab (Aq h₄ (fun _ s₅ h₅=>Ae (Ae ⟨rfl,h₅⟩)) fun _ _ h'=>False.elim h')) fun _ _ h'=>False.elim h'))
def mX(k:Nat)(caps:List Nat)(wi:TI)(g:TG)(tc:TT)(te:TE):TE:=fun σ H Q=>wi σ H fun J H1=>∃(n:Nat)(W:Nat->List V->Hp->Prop),W 0 [] H1 /\
 (∀xs H,W n xs H->J.stop n H/\∀p,H p=none->Q (.ref p) (upd H p (.lst xs))) /\
 ∀i xs H,i<n->W i xs H->J.go i H/\xs.length<sizeLine/\∀x H',J.yld i H x H'->g x (blk k caps σ) H' fun σ2 H2=>tc σ2 H2 fun ok H3 =>
  if ok=true then te σ2 H3 fun y H4=>σ2.drop k=(blk k caps σ).drop k/\W (i+1) (xs++[y]) H4
  else σ2.drop k=(blk k caps σ).drop k/\W (i+1) xs H3
abbrev dD(its:List Value)(n:Nat):Obj:={ cls:=.type "list",data:=.seq its.toArray n }
def z0(X:Cx)(pins:List (Addr×Obj))(H:Hp)(C:Addr):Prop :=
 H C=none/\C≠X.env.locals/\(C∈X.ex∨X.s₀.heap.objs.size<=C)/\(∀x c,X.env.cells.lookup x=some c->c≠C)/\∀p∈X.pn++pins,p.1≠C
inductive CI(X':Cx)(A:Addr)(σ:St)(tn:Nat->Heap->Prop)(fp:List Addr)(n0:Nat)(W:Nat->List V->Hp->Prop)(n:Nat)(s':Shared):Prop
 | mk (i:Nat) (xs:List V) (its:List Value) (nn:Nat) (H':Hp) (J:Inv X' [(A,dD its nn)] σ H' s') (st:tn i s'.heap) (fr:∀b∈fp,H' b=none) (vs:Vals xs its) (hz:xs.length<=sizeLine) (hn:n=n0-i) (hi:i<=n0) (w:W i xs H')
theorem o8{X:Cx}
  (S:BlkScope X N k caps scope)(hc:X.calm=true)(hi:PI X tg iter wi)
  (hg:∀C s H fp,PG (cxC X N scope C s H fp) tg g) (ht:∀C s H fp,PIf (cxC X N scope C s H fp) ifs tc) (he:∀C s H fp,PE (cxC X N scope C s H fp) elt te)
  (hs:∀x,foldedSetIterable iter X.env x=pure x) (I:Inv X pins σ H s) (h:mX k caps wi g tc te σ H Q)
  (fin:∀(D C:Addr)(H4:Hp)(s4:Shared)(m:Str->Option Value),Inv X pins σ H4 s4->s4.heap.Ns C m->z0 X pins H4 C->Q (.ref D) H4->compPost (model X.prog X.w) X.A X.xe use Q' (.ref D) C (.ok .next) s4) :
  wpAny (model X.prog X.w) X.A (comprehension (.ListComp elt [⟨tg,iter,ifs,0⟩] scope pos) scope X.env cpos (newList []) false (eval iter X.env) use) Q' X.xe s:=by
 refine wpAny_comprehension_free rfl hs (iS (S.cells I.ok)) S.kind S.loc ?_;refine thn (hi pins s σ H _ I h) fun v s1 h1=>thn h1 fun itv s2 h2=>?_;obtain⟨it,fp,tn,J,H2,e,I2,T,st2,f2,n0,W,w0,wstop,turn⟩:=h2;subst e;refine As (wpAny_newFunctionEnv S.nocell (by intro y hy;simp at hy) (fun h₁ hns₁ hsb₁=>?_) S.kind)
 dsimp only at hns₁ hsb₁ ⊢;generalize hG:s2.heap.push { cls:=.type "list",dict:=none,data:=.seq ([]:List Value).toArray }=G at hns₁ hsb₁ ⊢;have hCG:G.objs.size=s2.heap.objs.size+1:=by rw[← hG,AT]
 have hDC:s2.heap.objs.size≠G.objs.size:=by lia
 have below:∀b,b<s2.heap.objs.size->b≠G.objs.size/\b≠s2.heap.objs.size:=fun b hb=>⟨by lia,by lia⟩
 have old:∀b o,s2.heap.get? b=some o->h₁.get? b=some o:=fun b o e=>hsb₁.extBut b o (below b (Ah e)).1 (Ac _ (hG ▸ Ac _ e));have hacc:h₁.get? s2.heap.objs.size=some (dD [] 0):=hsb₁.extBut _ _ hDC (Ac _ (hG ▸ Aj _ rfl));have hlt:∀b∈fp,b<s2.heap.objs.size:=fun b hb=>by obtain⟨o,ho,_⟩:=T.obj 0 _ st2 b hb;exact Ah ho
 have hDf:s2.heap.objs.size∉fp:=fun z=>Yh _ (hlt _ z);have hle:s2.heap.objs.size<=G.objs.size:=by lia
 have hDcell:∀x c,(bo X.env scope.names []).lookup x=some c->c≠s2.heap.objs.size:=fun x c e z=>by
  obtain⟨v,q⟩:=I2.cell x c (S.sub I2.ok e);exact absurd q.lt (by rw[z];exact Yh _)
 have hDfs:s2.heap.objs.size∉frs X.stack:=fun z=>by
  obtain⟨_,o,ho,_⟩:=I2.stack.mem z;exact absurd (Ah ho) (Yh _)
 have nfs:∀b∈fp,b∉frs X.stack:=fun b hb z=>by
  rcases Xd.mp (I2.stkSub b z) with e|e
  ·exact(f2 b hb).2.1 e
  ·exact(f2 b hb).2.2.1 e
 have fpk:∀{H':Hp}{its:List Value}{n:Nat},(∀b∈fp,H' b=none)->∀b∈fp,jy (cxC X N scope G.objs.size s2 H2 fp) [(s2.heap.objs.size,dD its n)] H' b:=fun {H' its n} hn b hb =>
  ⟨hn b hb,(below b (hlt b hb)).1,nfs b hb,.inl hb,fun x c e=>(f2 b hb).2.2.2.2.1 x c (S.sub I2.ok e),fun p hp=>by
   have e:p=(s2.heap.objs.size,dD its n):=by simpa using hp
   rw[e];exact Ne.symm (below b (hlt b hb)).2⟩
 have pinD:∀{H':Hp}{s':Shared}{σ':St}{its:List Value}{n:Nat},Inv (cxC X N scope G.objs.size s2 H2 fp) [] σ' H' s'->s'.heap.get? s2.heap.objs.size=some (dD its n)->H' s2.heap.objs.size=none->Inv (cxC X N scope G.objs.size s2 H2 fp) [(s2.heap.objs.size,dD its n)] σ' H' s':=fun {H' s' σ' its n} J e hn =>
  J.pins_of fun p hp=>by
   have q:p=(s2.heap.objs.size,dD its n):=by simpa using hp
   rw[q];exact⟨e,hn,hDC,hDfs,fun v z=>by cases z⟩
 have I3:Inv (cxC X N scope G.objs.size s2 H2 fp) [] (blk k caps σ) H2 { s2 with heap:=h₁,toks:=s2.toks+([]:List (Str×Value)).length }:=yg S I2 f2 hlt hle rfl rfl old hns₁;have loop:codeAny (model X.prog X.w) X.A (.compLoop (.ListComp elt [⟨tg,iter,ifs,0⟩] scope pos) 0 (.ref it) (.ref s2.heap.objs.size) (compEnvC scope (bo X.env scope.names []) G.objs.size X.env))
   (compPost (model X.prog X.w) X.A X.xe use Q' (.ref s2.heap.objs.size) G.objs.size) { s2 with heap:=h₁,toks:=s2.toks+([]:List (Str×Value)).length }:=by
  refine gy (CI (cxC X N scope G.objs.size s2 H2 fp) s2.heap.objs.size (blk k caps σ) tn fp n0 W) ?_ n0
   ⟨0,[],[],0,H2,pinD I3 hacc (I2.hok.fresh (Wa _)),T.keep _ _ _ st2 fun b _ o e=>old b o e,fun b hb=>(f2 b hb).1,.nil,Wm _,rfl,Wm _,w0⟩
  rintro n s3 ⟨i,xs,its,nn,H3,J3,st3,fr3,vs3,hz3,hn3,hi3,w3⟩;by_cases hin:i<n0
  rotate_left
  ·have ein:i=n0:=by lia
   subst ein;obtain⟨stop,qn⟩:=wstop xs H3 w3;refine thn (T.done (cxC X N scope G.objs.size s2 H2 fp) rfl rfl rfl hc i _ s3 _ H3 _ J3 (fpk fr3) st3 stop) fun r s4 zz9=>?_;obtain⟨hr,J4⟩:=zz9;subst hr;obtain⟨eD,nD,_⟩:=J4.pin (s2.heap.objs.size,dD its nn) (by simp)
   have eD:s4.heap.get? s2.heap.objs.size=some (dD its nn):=eD;have nD:H3 s2.heap.objs.size=none:=nD;obtain⟨m4,hm4,_⟩:=J4.loc;have U:Un (frs X.stack) fp H2 H3 s2.heap s4.heap:=J4.base;have neC:∀b o,s2.heap.get? b=some o->b≠G.objs.size:=fun b o e=>(below b (Ah e)).1;have neD:∀b o,s2.heap.get? b=some o->b≠s2.heap.objs.size:=fun b o e=>(below b (Ah e)).2;have H2D:H2 s2.heap.objs.size=none:=I2.hok.fresh (Wa _);have HC:H3 G.objs.size=none:=J4.free;refine fin s2.heap.objs.size G.objs.size (upd H3 s2.heap.objs.size (.lst xs)) s4 m4 (I2.call' (s':=s4) (ch:=fp) J4.os ?_ ?_ J4.bare ?_) hm4 ?_ (qn _ nD)
   ·refine⟨fun b o e n hb hx=>U.keep b o e n hb hx,fun b o e n hb hx=>U.slot b o e n hb hx,fun b o e n hx=>?_,fun b o e hx=>U.there b o e hx,fun b ys e=>?_,fun b o u e=>?_,fun b ps e=>?_⟩
    ·rw[am (neD b o e)];exact U.free b o e n hx
    ·rw[am (aP e H2D)];exact U.tups b ys e
    ·rw[am (aP e H2D)];exact U.frzs b o u e
    ·obtain⟨more,q⟩:=U.tbls b ps e;exact⟨more,by rw[am (aP e H2D)];exact q⟩
   ·intro b u e;by_cases hb:b=s2.heap.objs.size
    ·subst hb;rw[ay]at e;cases e;exact⟨hz3,its,nn,vs3,eD⟩
    ·rw[am hb]at e;exact(J4.hok b u e).stay (fun c v _ q=>q) (fun c q=>by rw[am (aP q nD)];exact q) fun c ys q=>by rw[am (aP q nD)];exact q
   ·exact fun b hb=>⟨(f2 b hb).2.2.2.1,(f2 b hb).2.1,(f2 b hb).2.2.2.2.1,(f2 b hb).2.2.2.2.2⟩
   ·refine⟨by rw[am (Ne.symm hDC)];exact HC,A8 (Wb I2.lt hle),.inr (Qc I2.sz hle),fun x c e z=>?_,fun p hp z=>?_⟩
    ·obtain⟨v,q⟩:=I2.cell x c e;exact absurd (Wb q.lt (by rw[z];exact hle)) (Yh _)
    ·exact absurd (Wb (Ah (I2.pin p hp).1) (by rw[z];exact hle)) (Yh _)
  ·obtain⟨go,hz,step⟩:=turn i xs H3 hin w3;refine thn (T.item (cxC X N scope G.objs.size s2 H2 fp) rfl rfl rfl hc i _ s3 _ H3 _ J3 (fpk fr3) st3 go) fun r s4 zz9=>?_;obtain⟨u,hr,h4⟩:=zz9;subst hr;refine thn h4 fun _ s5 zz9=>?_;obtain⟨x,H5,J5,r5,y5,st5,fr5⟩:=zz9;have J5':=J5.pinned (fpk fr5) (T.obj _ _ st5);refine thn (hg _ _ _ _ _ s5 _ H5 x u _ J5' r5 (step x H5 y5)) fun _ s6 zz9=>?_;obtain⟨σ6,H6,J6,q6⟩:=zz9;refine thn (ht _ _ _ _ _ s6 σ6 H6 _ J6 q6) fun ok s7 zz9=>?_;obtain⟨H7,J7,q7⟩:=zz9;have wk:∀{σ8:St}{H8:Hp}{s8:Shared}{pl:List (Addr×Obj)},Inv (cxC X N scope G.objs.size s2 H2 fp) pl σ8 H8 s8->σ8.drop k=(blk k caps σ).drop k->Inv (cxC X N scope G.objs.size s2 H2 fp) pl (blk k caps σ) H8 s8:=fun {σ8 H8 s8 pl} J8 hd =>
    J8.weak (by rw[rP,J8.len];exact S.len.symm) fun j v e=>by
     obtain⟨j',i',rfl,hc',hv'⟩:=rQ e;have e1:((blk k caps σ).drop k)[j']?=some (some v):=by rw[Xh];exact e
     rw[← hd,Xh]at e1;exact e1
   have recs:∀{σ8:St}{H8:Hp}{s8:Shared},Inv (cxC X N scope G.objs.size s2 H2 fp) ([(s2.heap.objs.size,dD its nn)]++kP fp s5.heap) σ8 H8 s8->(∀b∈fp,∀o,s5.heap.get? b=some o->s8.heap.get? b=some o)/\(∀b∈fp,H8 b=none):=fun {σ8 H8 s8} J8 =>
    ⟨fun b hb o e=>(J8.pin (b,o) (Xe _ (Xe _ (fN hb e)))).1,fun b hb=>by
     obtain⟨o,e,d⟩:=T.obj _ _ st5 b hb
     exact(J8.pin (b,o) (Xe _ (Xe _ (fN hb e)))).2.1⟩
   cases ok with
   | false =>
    rw[Ag (by decide)]at q7 ⊢
    obtain⟨hd,w7⟩:=q7;obtain⟨k1,k2⟩:=recs J7;exact⟨n0-(i+1),by lia,i+1,xs,its,nn,H7,wk J7.unpinned hd,T.keep _ _ _ st5 k1,k2,vs3,hz3,rfl,hin,w7⟩
   | true =>
    rw[Ad rfl]at q7 ⊢;refine thn (he _ _ _ _ _ s7 σ6 H7 _ J7 q7) fun uy s8 zz9=>?_;obtain⟨y,H8,J8,r8,hd,w8⟩:=zz9;obtain⟨k1,k2⟩:=recs J8;obtain⟨eD,nD,_⟩:=J8.pin (s2.heap.objs.size,dD its nn) (by simp)
    have eD:s8.heap.get? s2.heap.objs.size=some (dD its nn):=eD;have nD:H8 s2.heap.objs.size=none:=nD;have hl3:=vs3.length;refine BY F.slot_list_append ⟨_,eD,rfl⟩ F.entry_list_append (F.args_list_append_2 _ _) (PySem.list_append s2.heap.objs.size its.toArray nn uy (by rw[Qa];lia)) ⟨eD,?_⟩
    have q:=PySem.IsL.update eD (fun a:Array Value=>a.push uy);have qe:its.toArray.push uy=(its++[uy]).toArray:=by simp
    rw[qe]at q;have oth:∀b o,b≠s2.heap.objs.size->s8.heap.get? b=some o->(s8.heap.update s2.heap.objs.size (Obj.mapSeq fun a=>a.push uy)).get? b=some o:=fun b o hb e=>(An s8.heap _ (Ne.symm hb)).trans e;have J9:Inv (cxC X N scope G.objs.size s2 H2 fp) [] σ6 H8 { s8 with heap:=s8.heap.update s2.heap.objs.size (Obj.mapSeq fun a=>a.push uy),toks:=s8.toks } :=
     (J8.pins_of (pins':=[]) fun p hp=>absurd hp (by simp)).turned oth nD hDC (.inr (Wa _)) hDcell (fun p hp=>absurd hp (by simp))
    refine⟨n0-(i+1),by lia,i+1,xs++[y],its++[uy],_,H8,wk (pinD J9 q nD) hd,T.keep _ _ _ st5 fun b hb o e=>oth b o (fun z=>hDf (z ▸ hb)) (k1 b hb o e),k2,vs3.append (.cons r8 .nil),?_,rfl,hin,w8⟩
    rw[Yb,Zh];lia
 exact codeAny_compStart_list loop (T.self _ 0 _ _ _ (T.keep _ _ _ st2 fun b _ o e=>old b o e) loop)
theorem Inv.aside{s:Shared}(I:Inv X pins σ H s)(a:z0 X pins H C)(hs:Heap.SameBut C s.heap h'):Inv X pins σ H { s with heap:=h' } :=
 I.turned (t':=s.toks) (fun b o hb e=>hs.extBut b o hb e) a.1 a.2.1 a.2.2.1 a.2.2.2.1 a.2.2.2.2
theorem fR{X:Cx}(S:BlkScope X N k caps scope)(hc:X.calm=true)(hi:PI X tg iter wi)
  (hg:∀C s H fp,PG (cxC X N scope C s H fp) tg g)(ht:∀C s H fp,PIf (cxC X N scope C s H fp) ifs tc)(he:∀C s H fp,PE (cxC X N scope C s H fp) elt te)
  (hs:∀x,foldedSetIterable iter X.env x=pure x:=by intro _;rfl):PE X (.ListComp elt [⟨tg,iter,ifs,0⟩] scope pos) (mX k caps wi g tc te):=by
 intro pins s σ H Q I h;rw[eval_ListComp];exact o8 (use:=none) S hc hi hg ht he hs I h fun D C H4 s4 m I4 hm a q=>⟨m,hm,fun h' hs'=>⟨.ref D,H4,I4.aside a hs',rfl,q⟩⟩
theorem yh{X:Cx}{pos py spos:Pos}(S:BlkScope X N k caps scope)(hc:X.calm=true)(hN:X.N.Nodup)(hi':X.N[i]?=some y)(hy:Loc X.env.scope y)(hi:PI X tg iter wi)
  (hg:∀C s H fp,PG (cxC X N scope C s H fp) tg g)(ht:∀C s H fp,PIf (cxC X N scope C s H fp) ifs tc)(he:∀C s H fp,PE (cxC X N scope C s H fp) elt te)
  (hs:∀x,foldedSetIterable iter X.env x=pure x:=by intro _;rfl) (hsw:swapsWith (.ListComp elt [⟨tg,iter,ifs,0⟩] scope pos) (some (.Name y py)) spos.line X.env=pure true:=by rfl)
  (hf:X.fn y=true∨X.env.scope.names.lookup y=some .local:=by first|exact .inl rfl|exact .inr rfl|assumption) :
  PS X (.Assign [.Name y py] (.ListComp elt [⟨tg,iter,ifs,0⟩] scope pos) spos) (qg (mX k caps wi g tc te) (jV i)):=by
 intro pins s σ H D I h;rw[exec_Assign_Name_used _ _ _ _ hsw];refine Ab (AX (Ab ?_));show wpAny _ X.A (do let _ ← comprehension (.ListComp elt [⟨tg,iter,ifs,0⟩] scope pos) scope X.env _ (newList []) false (eval iter X.env) (some (assign (.Name y py) X.env))) _ _ s
 refine Ab (Aq (o8 (use:=some (assign (.Name y py) X.env)) (Q':=fun _ s'=>SP X pins D .next s') S hc hi hg ht he hs I h ?_) (fun _ s' hq=>Ae (Ae hq)) fun _ _ e=>e)
 intro Da C H4 s4 m I4 hm a q;refine wpAny_assign_Name (mK I4 hN hi' hy (show RelV (.ref Da) (.ref Da) from rfl) (fun s5 I5 zz9=>?_) hf);obtain⟨b,sb,hb⟩:=zz9;have hbC:C≠b:=by
  rcases hb with z|z
  ·rw[z];exact a.2.1
  ·exact fun e=>a.2.2.2.1 _ _ z e.symm
 exact⟨m,hm.sameBut sb hbC,fun h' hs'=>⟨_,H4,I5.aside a hs',q⟩⟩
end L2
namespace L2
open PySem PySem.Spec PyProof.Rows
def Its(x:Str):It:=⟨fun i _=>i<x.cps.size,fun i H v H'=>H'=H/\∃c,x.cps[i]?=some c/\v=.str ⟨#[c]⟩,fun i _=>x.cps.size<=i⟩
theorem tX{P:Program}{w:World}{K:Aa}{tg:Expr}(it:Addr)(x:Str)(t:Tok):Turn P w K tg (Its x) [it] it (fun i h=>h.IsStrIter it "str_ascii_iterator" x t i) where
 mem:=by simp
 obj:=fun i h st b hb=>by
  have e:b=it:=by simpa using hb
  subst e;obtain⟨o,e,c,d⟩:=st;exact⟨o,e,fun v z=>by rw[d]at z;cases z⟩
 keep:=fun i h h' st k=>let ⟨o,ho,r⟩:=st;⟨o,k it (by simp) o ho,r⟩
 item:=by
  intro X hP hw hK hc i pins s σ H E I hf st hg;subst hP hw hK;obtain⟨f0,f1,f2,f3,f4,f5⟩:=hf it (by simp)
  have hg':i<x.cps.size:=hg;refine wpAny_pyNext_ascii_item st (c:=x.cps[i]) (by simp[hg']) fun h' st' sb=>?_
  have I1:Inv X pins σ H { s with heap:=h',toks:=s.toks+1 }:=I.turned (fun b o hb e=>sb.extBut b o hb e) f0 f1 f3 f4 f5;obtain⟨o,e,c,d⟩:=id st';exact⟨_,rfl,mM (s:={ s with heap:=h',toks:=s.toks+1 }) e c d (by decide) ⟨.str ⟨#[x.cps[i]]⟩,H,I1,⟨_,rfl⟩,⟨rfl,_,by simp[hg'],rfl⟩,st',fun b hb=>(hf b hb).1⟩⟩
 done:=by
  intro X hP hw hK hc i pins s σ H E I hf st hg;subst hP hw hK;obtain⟨f0,f1,f2,f3,f4,f5⟩:=hf it (by simp)
  have hg':x.cps.size<=i:=hg;exact wpAny_pyNext_ascii_end (I.ok.hd hc) st (by simp[hg']) fun h' eb=>⟨rfl,I.turned (t':=s.toks) (fun b o hb e=>eb b o hb e) f0 f1 f3 f4 f5⟩
 self:=fun _ _ _ _ _ st h=>wpAny_pyIter_striter_ascii st h
theorem tY{P:Program}{w:World}{K:Aa}{tg:Expr}(it:Addr)(x:Str)(t:Tok):Turn P w K tg (Its x) [it] it (fun i h=>h.IsStrIter it "str_iterator" x t i) where
 mem:=by simp
 obj:=fun i h st b hb=>by
  have e:b=it:=by simpa using hb
  subst e;obtain⟨o,e,c,d⟩:=st;exact⟨o,e,fun v z=>by rw[d]at z;cases z⟩
 keep:=fun i h h' st k=>let ⟨o,ho,r⟩:=st;⟨o,k it (by simp) o ho,r⟩
 item:=by
  intro X hP hw hK hc i pins s σ H E I hf st hg;subst hP hw hK;obtain⟨f0,f1,f2,f3,f4,f5⟩:=hf it (by simp)
  have hg':i<x.cps.size:=hg;refine wpAny_pyNext_wide_item st (c:=x.cps[i]) (by simp[hg']) fun h' st' sb=>?_
  have I1:Inv X pins σ H { s with heap:=h',toks:=s.toks+1 }:=I.turned (fun b o hb e=>sb.extBut b o hb e) f0 f1 f3 f4 f5;obtain⟨o,e,c,d⟩:=id st';exact⟨_,rfl,mM (s:={ s with heap:=h',toks:=s.toks+1 }) e c d (by decide) ⟨.str ⟨#[x.cps[i]]⟩,H,I1,⟨_,rfl⟩,⟨rfl,_,by simp[hg'],rfl⟩,st',fun b hb=>(hf b hb).1⟩⟩
 done:=by
  intro X hP hw hK hc i pins s σ H E I hf st hg;subst hP hw hK;obtain⟨f0,f1,f2,f3,f4,f5⟩:=hf it (by simp)
  have hg':x.cps.size<=i:=hg;exact wpAny_pyNext_wide_end (I.ok.hd hc) st (by simp[hg']) fun h' eb=>⟨rfl,I.turned (t':=s.toks) (fun b o hb e=>eb b o hb e) f0 f1 f3 f4 f5⟩
 self:=fun _ _ _ _ _ st h=>wpAny_pyIter_striter_wide st h
section
variable {X:Cx}{tg:Expr}
def Eb(tl:TE):TI:=fun σ H R=>tl σ H fun x H1=>∃z,x=.str z/\R (Its z) H1
theorem Ec{l:Expr}{tl:TE}(hl:PE X l tl):PI X tg l (Eb tl):=by
 intro pins s σ H R I h;refine thn (hl pins s σ H _ I h) fun v s1 zz9=>?_;obtain⟨x,H1,I1,r1,q1⟩:=zz9;obtain⟨z,e,q⟩:=q1;subst e;obtain⟨t,rfl⟩:=r1;have fpk:∀b∈[s1.heap.objs.size],jy X pins H1 b:=fun b hb=>by
  have e:b=s1.heap.objs.size:=by simpa using hb
  subst e;exact I1.fpOk (Wa _) (I1.hok.fresh (Wa _))
 cases ha:z.cps.all (·<128) with
 | true=>exact wpAny_pyIter_ascii ha ⟨s1.heap.objs.size,[s1.heap.objs.size],_,_,H1,rfl,I1.kept (t':=s1.toks) fun b o e=>Ac _ e,tX _ z t,⟨_,Aj _ rfl,rfl,rfl⟩,fpk,q⟩
 | false=>exact wpAny_pyIter_wide ha ⟨s1.heap.objs.size,[s1.heap.objs.size],_,_,H1,rfl,I1.kept (t':=s1.toks) fun b o e=>Ac _ e,tY _ z t,⟨_,Aj _ rfl,rfl,rfl⟩,fpk,q⟩
theorem range_all(bs:List Bool):(List.range bs.length).all (fun i=>bs.getD i true)=bs.all id:=by
 induction bs with
 | nil=>rfl
 | cons b r ih =>
  rw[Yc,CH,Bt,List.all_map,Bt,← ih];rfl
theorem vm(hc:X.calm=true):CallR X (.builtin "all") (fun xs H Q=>∃(p:Addr)(bs:List Bool),xs=[.ref p]/\SqL X.K H p (bs.map V.bl)/\Q (.bl (bs.all id)) H):=by
 intro pins s σ H xs us Q I rv h;obtain⟨p,bs,rfl,hq,q⟩:=h;obtain⟨u,rfl,ru⟩:=vals1 rv;cases ru;obtain⟨its,r,pl,hz⟩:=I.list hq;have hlen:its.length=bs.length:=by have:=r.length;simpa using this.symm
 obtain⟨op,np,ep,cp,dp,sp⟩:=id pl;have hne:p≠s.heap.objs.size:=Qe (Ah ep);refine call_all_walk (Bh pl.isList ?_);refine⟨s.heap.objs.size,_,_,_,_,_,fun i=>bs.getD i true,rfl,Walks.list (show X.A.in1.handled=none from I.ok.hd hc) s.heap.objs.size p hne its.toArray,⟨⟨_,Aj _ rfl,rfl,rfl⟩,⟨op,Ac _ ep,cp,np,sp⟩⟩,?_,fun h' tk kp=>?_⟩
 ·intro i v s' Q' E' hv hQ';have hv':its[i]?=some v:=by simpa using hv
  have hi:i<its.length:=(Va.mp hv').1;have hb:(bs.map V.bl)[i]?=some (V.bl (bs[i]'(by lia))):=by
   rw[Xb,Za (by lia)];rfl
  obtain⟨u',e1,e2⟩:=r.get hb;rw[hv']at e1;cases e1;cases e2;have:bs.getD i true=bs[i]'(by lia):=by rw[Xc,Za (by lia)];rfl
  have hQ2:Q' (bs.getD i true) s':=hQ';rw[this]at hQ2;exact AG hQ2
 ·have e:(List.range its.toArray.size).all (fun i=>bs.getD i true)=bs.all id:=by
   rw[Qa,hlen];exact range_all bs
  rw[e]
  exact⟨.bl (bs.all id),H,I.kept (fun b o e=>kp b o (by
   intro z;have z':b=s.heap.objs.size:=by simpa using z
   exact absurd (Ah e) (by rw[z'];exact Yh _)) (Ac _ e)),rfl,q⟩
theorem kU:∀{ys:List Str}{us:List Value},Vals (ys.map V.str) us->StrsAre us ys
 | [],_,r=>by cases r;exact .nil
 | y::ys,_,r=>by
  cases r with
  | cons a b =>
   obtain⟨t,rfl⟩:=a;exact .cons y t (kU b)
def sgn(x:Str):List V:=x.cps.toList.map fun c=>.str ⟨#[c]⟩
theorem o9{x:Str}{acc:Array Value}(h:ItemsOf (SignAt x) acc x.cps.size):Vals (sgn x) acc.toList:=by
 obtain⟨h1,h2⟩:=h;have gen:∀(cs:List Nat)(us:List Value),us.length=cs.length->(∀(j:Nat) v,us[j]?=some v->∃c u,cs[j]?=some c/\v=Value.str ⟨#[c]⟩ u)->Vals (cs.map fun c=>V.str ⟨#[c]⟩) us:=by
  intro cs;induction cs with
  | nil=>intro us hl _;cases us with
   | nil=>exact .nil
   | cons _ _=>cases hl
  | cons c cs ih =>
   intro us hl hu;cases us with
   | nil=>cases hl
   | cons u us =>
    obtain⟨c',tk,e1,e2⟩:=hu 0 u rfl;have:c=c':=by simpa using e1
    subst this;subst e2;refine .cons ⟨tk,rfl⟩ (ih us (by simpa using hl) fun j v e=>?_)
    have:=hu (j+1) v (by simpa using e)
    simpa using this
 refine gen x.cps.toList acc.toList (by simp[h1]) fun j v e=>?_
 obtain⟨c,u,e1,e2⟩:=h2 j v (by simpa using e)
 exact⟨c,u,by simpa using e1,e2⟩
theorem rS(x:Str):(sgn x).length=x.cps.size:=by simp[sgn]
theorem kW(hc:X.calm=true):CallR X (.type "list") (fun xs H Q=>∃z:Str,xs=[.str z]/\z.cps.size<=sizeLine/\∀l,H l=none->Q (.ref l) (upd H l (.lst (sgn z)))):=by
 intro pins s σ H xs us Q I rv h;obtain⟨z,rfl,hz,q⟩:=h;obtain⟨u,rfl,ru⟩:=vals1 rv;obtain⟨t,rfl⟩:=ru;refine call_list_str (I.ok.hd hc) z t (fun h' tk acc' c' kp hS hi=>?_) hz;refine⟨.ref s.heap.objs.size,upd H s.heap.objs.size (.lst (sgn z)),I.laid kp (Wa _) ⟨by rw[rS];exact hz,acc'.toList,c',o9 hi,by simpa using hS⟩,rfl,q _ (I.hok.fresh (Wa _))⟩
theorem ObjOk.there{h:Heap}(x:ObjOk P w H h a o):∃ob,h.get? a=some ob:=by
 cases o with
 | lst xs=>obtain⟨_,_,_,_,e⟩:=x;exact⟨_,e⟩
 | tup xs=>obtain⟨_,_,_,o,e,_⟩:=x;exact⟨_,e⟩
 | dK kvs=>obtain⟨_,_,_,_,o,_,_,e,_⟩:=x;exact⟨_,e⟩
 | dT ep kvs=>obtain⟨_,_,_,_,_,o,_,e,_⟩:=x;exact⟨_,e⟩
 | set S n=>obtain⟨o,_,_,_,e,_⟩:=x;exact⟨_,e⟩
 | ins C dx fs=>obtain⟨_,_,_,e,_⟩:=x;exact⟨_,e⟩
 | own y=>exact x
 | xd fs=>obtain⟨_,⟨_,_,_,e,_⟩,_⟩:=x;exact⟨_,e⟩
 | rng lo hi=>obtain⟨_,_,_,e⟩:=x;exact⟨_,e⟩
 | frz ob u=>obtain⟨e,_⟩:=x;exact⟨_,e⟩
 | tbl ps=>exact⟨_,x⟩
 | met f y=>exact⟨_,x⟩
 | ext φ=>obtain⟨_,e,_⟩:=x;exact e
theorem Inv.laid2{s:Shared}{h':Heap}{t':Nat}(I:Inv X pins σ H s)(k:∀b u,s.heap.get? b=some u->h'.get? b=some u)(hne:∀b u,s.heap.get? b=some u->b≠a)(hn:H a=none)(new:ObjOk X.prog X.w (upd H a o) h' a o) :
  Inv X pins σ (upd H a o) { s with heap:=h',toks:=t' }:=by
 refine I.un ⟨fun b u e _ _ _=>k b u e,fun b u e _ _ _=>⟨u.slots,k b u e⟩,fun b u e n _=>by rw[am (hne b u e)];exact n,fun b u e _=>⟨u,k b u e⟩,fun b xs e=>by rw[am (aP e hn)];exact e,fun b u v e=>by rw[am (aP e hn)];exact e,fun b ps e=>⟨#[],by rw[am (aP e hn),e];simp⟩⟩ ?_
 intro b u e;by_cases hb:b=a
 ·subst hb;rw[ay]at e;cases e;exact new
 ·rw[am hb]at e;exact(I.hok b u e).stay (fun c v _ q=>k c v q) (fun c q=>by rw[am (aP q hn)];exact q) fun c xs q=>by rw[am (aP q hn)];exact q
theorem ki(hc:X.calm=true):CallR X (.type "tuple") (fun xs H Q=>∃z:Str,xs=[.str z]/\z.cps.size<=sizeLine/\∀l,H l=none->Q (.ref l) (upd H l (.tup (sgn z)))):=by
 intro pins s σ H xs us Q I rv h;obtain⟨z,rfl,hz,q⟩:=h;obtain⟨u,rfl,ru⟩:=vals1 rv;obtain⟨t,rfl⟩:=ru;refine call_tuple_str (I.ok.hd hc) z t (fun h' tk acc kp hi=>?_) hz;have hne:∀b u,s.heap.get? b=some u->b≠h'.objs.size:=fun b u e z=>absurd (Ah (kp b u e)) (by rw[z];exact Yh _)
 have hn:H h'.objs.size=none:=by
  cases e:H h'.objs.size with
  | none=>rfl
  | some o =>
   obtain⟨ob,eo⟩:=(I.hok _ _ e).there;exact absurd rfl (hne _ _ eo)
 refine⟨.ref h'.objs.size,upd H h'.objs.size (.tup (sgn z)),I.laid2 (fun b u e=>Ac _ (kp b u e)) hne hn ⟨by rw[rS];exact hz,acc.toList,o9 hi,⟨_,Aj _ rfl,rfl,0,by simp⟩⟩,rfl,q _ hn⟩
theorem Ed:SlR X (fun x lo hi H Q=>∃z:Str,x=.str z/\z.length<=sizeLine/\Q (.str (Txt.slice z lo hi)) H):=by
 intro pins s σ H x v vl vu lo hi sl Q I rx hs pl pu h;obtain⟨z,rfl,hz,q⟩:=h;obtain⟨t,rfl⟩:=rx;refine⟨"str",_,F.slot_str_getitem.lookup,Co _ _ _,?_⟩;have fin:∀(o p:Option Int),lo=o->hi=p->∀t' k,EP X pins σ Q (.str (Txt.slice z o p) t') { s with toks:=k }:=fun o p e1 e2 t' k=>⟨.str _,H,I.tok k,⟨t',rfl⟩,by rw[← e1,← e2];exact q⟩
 cases pl with
 | none =>
  cases pu with
  | none=>exact AQ (l:=none) (u:=none) (st:=none) hs rfl (BJ ⟨Qc (B6 z _ _) hz,fun t' k=>fin _ _ rfl rfl t' k⟩)
  | int j uj=>exact AQ (l:=none) (u:=some (j,uj)) (st:=none) hs rfl (BJ ⟨Qc (B6 z _ _) hz,fun t' k=>fin _ _ rfl rfl t' k⟩)
 | int i ui =>
  cases pu with
  | none=>exact AQ (l:=some (i,ui)) (u:=none) (st:=none) hs rfl (BJ ⟨Qc (B6 z _ _) hz,fun t' k=>fin _ _ rfl rfl t' k⟩)
  | int j uj=>exact AQ (l:=some (i,ui)) (u:=some (j,uj)) (st:=none) hs rfl (BJ ⟨Qc (B6 z _ _) hz,fun t' k=>fin _ _ rfl rfl t' k⟩)
end
end L2
namespace L2
open PySem PySem.Spec PyProof.Rows
structure Cal(P:Program)(w:World)(K:Aa)(mg:Str->Option Value)(base:Heap)(x:Str)(k:Nat)(ps:List Str)(sp:Sp):Prop where
 ex:∃f fd,FnOk P w K mg base CX0 k f fd ps sp/\mg x=some (.ref f)/\PySem.W.keepIn K (.ref f)=true/\Binds K fd ps []
def tZ(sp:Sp)(t:TA):TE:=fun σ H Q=>t σ H fun vs H1=>sp vs H1 Q E0
section
variable {X:Cx}
theorem aE(C:Cal X.prog X.w X.K X.mg X.base x k ps sp)(hr:Room k' X.A)(hg:Gl X x)(ha:PA X (e::es) t)(hk:k<=k':=by decide)
  (hdb:(x == ("__debug__":Str))=false:=by decide) (he:starEach (e::es) X.env=(false,eval e X.env)::starEach es X.env:=by rfl) (hpl:(backTo pos (starEach es X.env)).any (·.1)=false:=by rfl) :
  PE X (.Call (.Name x p) (e::es) [] pos) (tZ sp t):=by
 obtain⟨f,fd,F,hm,hkp,hb⟩:=C.ex;intro pins s σ H Q I h;refine yb F (hr.mono hk) hg hm hkp hb .nil Gg ha hdb he hpl pins s σ H Q I ?_;have e0:tZ sp t=u7 sp [] E0 t:=by
  funext σ H Q
  unfold tZ u7;simp only[Qf]
 rw[e0]at h;exact h
def noStar:Expr->Bool
 | .Starred ..=>false
 | _=>true
theorem dU(h:noStar e=true):starEach (e::es) env=(false,eval e env)::starEach es env:=by
 cases e<;>first|rfl|cases h
theorem ao(ha:PE X e te)(hr:PA X es t)(h:noStar e=true:=by rfl):PA X (e::es) (b8 te t):=ky ha hr (dU h)
def strsOf:List Expr->Option (List Str)
 | []=>some []
 | .Constant (.str x) _ _::r=>(strsOf r).map (x::·)
 | _=>none
def z5(xs:List Str):TA:=fun _ H Q=>Q (xs.map V.str) H
theorem rT:∀{es:List Expr}{xs:List Str},strsOf es=some xs->PA X es (z5 xs)
 | [],xs,h=>by
  have e:xs=[]:=(Option.some.inj h).symm;subst e;exact fun pos pins s σ H Q I q=>ag pos pins s σ H Q I q
 | e::r,xs,h=>by
  cases e with
  | Constant c j p =>
   cases c with
   | str x =>
    have h':(strsOf r).map (x::·)=some xs:=h;obtain⟨ys,h1,h2⟩:=Qd.mp h';subst h2;intro pos pins s σ H Q I q;exact ky (eR (x:=x)) (rT h1) (dU rfl) pos pins s σ H Q I q
   | _=>cases h
  | _=>cases h
theorem aL(i:Nat){pos' pos:Pos}(hN:X.N.Nodup)(he:PE X e te)(hi:X.N[i]?=some x:=by rfl)(hx:Loc X.env.scope x:=by first|exact Or.inl rfl|exact Or.inr rfl)(hf:X.fn x=true∨X.env.scope.names.lookup x=some .local:=by first|exact .inl rfl|exact .inr rfl|assumption)
  (hs:swapsWithSole [.Name x pos'] e pos.line X.env=pure false:=by rfl) (hw:swappedStores [.Name x pos'] e X.env=pure none:=by rfl) (h1:(assignEach [.Name x pos'] X.env).map (·.2)=[assign (.Name x pos') X.env]:=by rfl) :
  PS X (.Assign [.Name x pos'] e pos) (qg te (jV i)):=gw he (nM hN hi hx hf) hs hw h1
theorem bU(i:Nat)(hN:X.N.Nodup)(hi:X.N[i]?=some x:=by rfl)(hx:Loc X.env.scope x:=by first|exact Or.inl rfl|exact Or.inr rfl)(hf:X.fn x=true∨X.env.scope.names.lookup x=some .local:=by first|exact .inl rfl|exact .inr rfl|assumption):PG X (.Name x pos) (jV i):=nM hN hi hx hf
theorem vn(i:Nat){pos py spos:Pos}(S:BlkScope X N k caps scope)(hc:X.calm=true)(hN:X.N.Nodup)(hi:PI X tg iter wi)
  (hg:∀C s H fp,PG (cxC X N scope C s H fp) tg g)(ht:∀C s H fp,PIf (cxC X N scope C s H fp) ifs tc)(he:∀C s H fp,PE (cxC X N scope C s H fp) elt te)
  (hi':X.N[i]?=some y:=by rfl) (hy:Loc X.env.scope y:=by first|exact Or.inl rfl|exact Or.inr rfl)
  (hs:∀x,foldedSetIterable iter X.env x=pure x:=by intro _;rfl) (hsw:swapsWith (.ListComp elt [⟨tg,iter,ifs,0⟩] scope pos) (some (.Name y py)) spos.line X.env=pure true:=by rfl)
  (hf:X.fn y=true∨X.env.scope.names.lookup y=some .local:=by first|exact .inl rfl|exact .inr rfl|assumption) :
  PS X (.Assign [.Name y py] (.ListComp elt [⟨tg,iter,ifs,0⟩] scope pos) spos) (qg (mX k caps wi g tc te) (jV i)):=yh S hc hN hi' hy hi hg ht he hs hsw hf
end
theorem fS:bootBuiltins "list"=some (.type "list"):=by decide +kernel
theorem pb:bootBuiltins "tuple"=some (.type "tuple"):=by decide +kernel
theorem t8:bootBuiltins "str"=some (.type "str"):=by decide +kernel
theorem gR:bootBuiltins "int"=some (.type "int"):=by decide +kernel
theorem qv:bootBuiltins "bool"=some (.type "bool"):=by decide +kernel
theorem Ef{K:Aa}{T S:String}{b:Bool}(h:(if (Value.type T == Value.type S)=true then some true else if PySem.W.kitMeta S=true then(fastBuiltinMro T).map (·.contains (Value.type S)) else none)=some b):PySem.W.kitOne K (.type T) (.type S)=some b:=h
theorem boot_isinstance:bootBuiltins "isinstance"=some (.builtin "isinstance"):=by decide +kernel
theorem boot_all:bootBuiltins "all"=some (.builtin "all"):=by decide +kernel
def vo(osc:Scope)(ON N:List Str)(k:Nat)(caps:List Nat)(scope:Scope):Bool :=
 decide (scope.kind=.function)&&scope.names.all (fun y=>decide (y.2≠.cell))&&scope.names.all (fun y=>decide (y.2=.local->scope.names.lookup y.1=some .local)) &&
 scope.names.all (fun y=>decide (y.2=.free->(osc.names.lookup y.1=some .cell∨osc.names.lookup y.1=some .free)))&&decide (N.length=k+caps.length) &&
 (List.range caps.length).all fun j=>match caps[j]?,N[k+j]? with
  | some i,some x=>decide (ON[i]?=some x)&&decide (scope.names.lookup x=some .free)
  | _,_=>false
theorem fT{X:Cx}(h:vo osc ON N k caps scope=true)(ho:X.env.scope=osc)(hN:X.N=ON):BlkScope X N k caps scope:=by
 unfold vo at h;simp only[Zg,decide_eq_true_eq,Qm]at h;obtain⟨⟨⟨⟨⟨h1,h2⟩,h3⟩,h4⟩,h5⟩,h6⟩:=h;refine⟨h1,h2,h3,fun y hy hf=>?_,h5,fun j i hj=>?_⟩
 ·show X.env.scope.names.lookup y.1=_∨X.env.scope.names.lookup y.1=_;rw[ho];exact h4 y hy hf
 ·have hlt:j<caps.length:=(Va.mp hj).1;have q:=h6 j (List.mem_range.mpr hlt);rw[hj]at q;cases e:N[k+j]? with
  | none=>rw[e]at q;cases q
  | some x =>
   rw[e]at q;have q':(decide (ON[i]?=some x)&&decide (scope.names.lookup x=some .free))=true:=q;simp only[Zg,decide_eq_true_eq]at q';exact⟨x,rfl,by rw[hN];exact q'.1,q'.2⟩
theorem aI(h:H p=none)(o:HO):Same H (upd H p o):=fun b u q=>by rw[am (aP q h)];exact q
theorem Gi:atI (x::r) 0=some x:=iQ (j:=0) rfl
theorem vp{xs:List α}{i:Int}(h0:0<=i)(h1:i<xs.length):∃v,atI xs i=some v/\v∈xs/\xs[i.toNat]?=some v:=by
 have hk:i.toNat<xs.length:=by lia
 have ek:i=((i.toNat:Nat):Int):=by lia
 refine⟨xs[i.toNat],?_,Wg hk,Za hk⟩;have q:atI xs ((i.toNat:Nat):Int)=some xs[i.toNat]:=iQ (Za hk);rw[← ek]at q;exact q
end L2
namespace L2
open PySem PySem.Spec PyProof.Rows
section
variable {X:Cx}
theorem mD:MtR X "str.startswith" (fun x vs H Q=>∃(a b:Str),x=.str a/\vs=[.str b]/\Q (.bl (Txt.startswith a b)) H):=by
 intro pins s σ H x vs v us Q I rx rv h;obtain⟨a,b,rfl,rfl,q⟩:=h;obtain⟨t,rfl⟩:=rx;obtain⟨u,rfl,ru⟩:=vals1 rv;obtain⟨t',rfl⟩:=ru;exact SC.startswith ⟨.bl _,H,I,rfl,q⟩
theorem mulOk_of{x:Str}(h0:0<=n)(hn:n<=1000)(hx:x.length<=1000):MulOk x n:=by
 have hx':(x.length:Int)<=1000:=by lia
 have hm:(x.length:Int)*n<=1000*1000:=Int.mul_le_mul hx' hn h0 (by decide)
 have hm2:x.length*n.toNat<=1000*1000:=Nat.mul_le_mul hx (by lia)
 refine⟨?_,fun h1 _=>?_,fun h1 h2=>?_⟩
 ·rw[Af (by lia),Af (by lia)];rfl
 ·have:(x.length:Int)<=(2 ^ 63-1) / n:=(Int.le_ediv_iff_mul_le (by lia)).mpr (Int.le_trans hm (by decide))
  lia
 ·unfold Builtin.Str.tooLong;have:=tW (Wa 1000);exact Af (by rw[Bj];lia)
theorem qw:OpR X (binaryOp .Mult) (fun x y H Q=>∃(a:Str)(n:Int),x=.str a/\y=.int n/\MulOk a n/\Q (.str (Txt.mul a n)) H):=by
 intro pins s σ H x y v u Q I rx ry h;obtain⟨a,n,rfl,rfl,hok,q⟩:=h;obtain⟨t,rfl⟩:=rx;obtain⟨t',rfl⟩:=ry;exact SB.mul hok fun t2 k=>⟨.str _,H,I.tok k,⟨t2,rfl⟩,q⟩
theorem Eg(hu:X.A.units<cLine):OpR X (compareOp .NotEq) (fun x y H Q=>∃(a b:Addr)(xs:List V),x=.ref a/\y=.ref b/\SqL X.K H a xs/\SqL X.K H b []/\Q (.bl (!xs.isEmpty)) H):=by
 intro pins s σ H x y v u Q I rx ry h;obtain⟨a,b,xs,rfl,rfl,ha,hb,q⟩:=h;cases rx;cases ry;obtain⟨its,r,pl,_⟩:=I.list ha;obtain⟨its2,r2,pl2,_⟩:=I.list hb;cases r2;cases xs with
 | nil =>
  cases r;exact SeqAt.RcNeAt.lists (e:=fun _=>true) pl.isList pl2.isList rfl hu (fun j h1 _=>absurd h1 (by simp)) _ _ _ _ ⟨.bl _,H,I,rfl,q⟩
 | cons x1 xr =>
  cases r;exact Cq pl.isList pl2.isList (by simp) hu _ _ _ _ ⟨.bl _,H,I,rfl,q⟩
end
theorem nX{X:Cx}{K:Aa}(h:X.K=K):IxR X (rIx K):=h ▸ D3
end L2
namespace VX
open PySem
def yφ(C e dx T:Addr):Heap->Prop:=fun h=>∃vs sl,h.get? e=some ⟨.ref C,some dx,.fields vs,sl⟩/\vs[1]?=some (.ref T)
def tφ(T:Addr)(fl:Value):Heap->Prop:=fun h=>∃o ts,h.get? T=some o/\o.data=.fields ts/\ts[3]?=some fl
end VX
namespace VF
open PySem L2
abbrev AS:=Addr->Prop
theorem bsP{α β γ:Type}{o:Option (α×β)}{f:α×β->Option γ}{z:γ}{P:Prop}(h:o.bind f=some z)(k:∀a b,o=some (a,b)->f (a,b)=some z->P):P:=by
 obtain⟨⟨a,b⟩,e,h⟩:=Option.bind_eq_some_iff.mp h;exact k a b e h
theorem bsO{α γ:Type}{o:Option α}{f:α->Option γ}{z:γ}{P:Prop}(h:o.bind f=some z)(k:∀a,o=some a->f a=some z->P):P:=by
 obtain⟨a,e,h⟩:=Option.bind_eq_some_iff.mp h;exact k a e h
theorem aB{i:Decidable c}(h:(if c then x else none)=some z):c/\x=some z:=by
 by_cases q:c
 ·rw[Ad q]at h;exact⟨q,h⟩
 ·rw[Ag q]at h;cases h
abbrev U(O Z:AS):AS:=fun p=>O p∨Z p
abbrev ins(p:Addr)(O:AS):AS:=fun b=>b=p∨O b
inductive D where
 | non|bl (b:Bool)|int (i:Int)|str (x:Str)|tup (ds:List D)|lst (ds:List D)|fl (ds:List D)|ty (n:String)|dk (kvs:List (Key×D))|dt (kvs:List (List Key×D))|xc (c n:Str) (x:Option Str)
def oV:Option Str->V
 | none=>.non
 | some x=>.str x
def XO(K:Aa)(Y:AS)(H:Hp)(a:Addr)(c n:Str)(x:Option Str):Prop:=∃C dx T,PySem.W.nsIn K mainGlobals c=some (some (.ref C))/\T≠a/\(∀b,b=a∨b=dx∨b=T->¬ Y b)/\H a=some (.ext (VX.yφ C a dx T))/\H dx=some (.xd [(n,oV x)])/\H T=some (.ext (VX.tφ T .none))
theorem XO.go(h:XO K Y H a c n x)(k:∀b o,H b=some o->¬ Y b->H' b=some o)(m:∀b,Y' b->Y b∨H b=none):XO K Y' H' a c n x:=by
 obtain⟨C,dx,T,h1,h2,h3,h4,h5,h6⟩:=h;have q1:=h3 a (.inl rfl);have q2:=h3 dx (.inr (.inl rfl));have q3:=h3 T (.inr (.inr rfl));refine⟨C,dx,T,h1,h2,fun b hb z=>?_,k _ _ h4 q1,k _ _ h5 q2,k _ _ h6 q3⟩;rcases m b z with w|w
 ·exact h3 b hb w
 ·rcases hb with rfl|rfl|rfl
  ·rw[h4]at w;cases w
  ·rw[h5]at w;cases w
  ·rw[h6]at w;cases w
def TupA(K:Aa)(Y:AS)(H:Hp)(a:Addr)(vs:List V):Prop:=H a=some (.tup vs)/\¬ Y a
def LstA(K:Aa)(Y:AS)(H:Hp)(a:Addr)(vs:List V):Prop:=(Rd H a (.lst vs)/\¬ Y a)∨∀H',SqL K H' a vs
theorem TupA.sq(h:TupA K Y H a vs):SqT K H a vs:=.inl (.inl h.1)
theorem LstA.sq(h:LstA K Y H a vs):SqL K H a vs:=by
 rcases h with h|h
 ·exact .inl h.1
 ·exact h H
def KA(Y:AS)(H:Hp)(as:List Addr):Prop:=∀b∈as,¬ Y b/\H b≠none
theorem KA.go(h:KA Y H as)(k:∀b o,H b=some o->¬ Y b->H' b=some o)(n:∀b,Y' b->Y b∨H b=none):KA Y' H' as:=fun b hb=>by
 obtain⟨h1,h2⟩:=h b hb;refine⟨fun z=>(n b z).elim h1 h2,?_⟩;cases e:H b with
 | none=>exact absurd e h2
 | some o=>rw[k b o e h1];simp
theorem KA.less(h:KA Y H as)(n:∀b,Y' b->Y b):KA Y' H as:=fun b hb=>⟨fun z=>(h b hb).1 (n b z),(h b hb).2⟩
inductive DA(K:Aa)(Y:AS)(H:Hp):V->D->Prop where
 | non:DA K Y H .non .non
 | bl (b:Bool):DA K Y H (.bl b) (.bl b)
 | int (i:Int):DA K Y H (.int i) (.int i)
 | str (x:Str):DA K Y H (.str x) (.str x)
 | tup {a:Addr} {vs:List V} {ds:List D}:TupA K Y H a vs->vs.length=ds.length->(∀(i:Nat) v d,vs[i]?=some v->ds[i]?=some d->DA K Y H v d)->DA K Y H (.ref a) (.tup ds)
 | ty (n:String):DA K Y H (.ty n) (.ty n)
 | lst {a:Addr} {vs:List V} {ds:List D}:¬ Y a->H a=some (.lst vs)->vs.length=ds.length->(∀(i:Nat) v d,vs[i]?=some v->ds[i]?=some d->DA K Y H v d)->DA K Y H (.ref a) (.lst ds)
 | fl {a:Addr} {vs:List V} {ds:List D}:LstA K Y H a vs->vs.length=ds.length->(∀(i:Nat) v d,vs[i]?=some v->ds[i]?=some d->DA K Y H v d)->DA K Y H (.ref a) (.fl ds)
 | dk {a:Addr} {kvs:List (Key×V)} {ds:List (Key×D)}:¬ Y a->H a=some (.dK kvs)->kvs.map (·.1)=ds.map (·.1)->(∀(i:Nat) v d,kvs[i]?=some v->ds[i]?=some d->DA K Y H v.2 d.2)->DA K Y H (.ref a) (.dk ds)
 | dt {a:Addr} {ep:Nat×List Addr} {kvs:List (List Key×V)} {ds:List (List Key×D)}:¬ Y a->KA Y H ep.2->H a=some (.dT ep kvs)->kvs.map (·.1)=ds.map (·.1)->(∀(i:Nat) v d,kvs[i]?=some v->ds[i]?=some d->DA K Y H v.2 d.2)->DA K Y H (.ref a) (.dt ds)
 | xc {a:Addr} {c n:Str} {x:Option Str}:XO K Y H a c n x->DA K Y H (.ref a) (.xc c n x)
def El(K:Aa)(Y:AS)(H:Hp)(vs:List V)(ds:List D):Prop:=vs.length=ds.length/\∀(i:Nat) v d,vs[i]?=some v->ds[i]?=some d->DA K Y H v d
def Lv(H:Hp)(p:Addr):Prop:=H p≠none/\∀vs,H p≠some (.tup vs)
theorem Lv.same(h:Lv H p)(s:∀o,H p=some o->H' p=some o):Lv H' p:=by
 cases e:H p with
 | none=>exact absurd e h.1
 | some o =>
  refine⟨by rw[s o e];simp,fun vs z=>h.2 vs ?_⟩
  rw[s o e]at z;rw[e];exact z
structure Ext(O:AS)(H:Hp)(O':AS)(H':Hp):Prop where
 kp:∀b o,H b=some o->¬ O b->H' b=some o
 nw:∀b,O' b->O b∨H b=none
 al:∀b,H b≠none->H' b≠none
 lv:∀b,Lv H b->Lv H' b
section
variable {K:Aa}{Y Y' O O' O1 O2 Z:AS}{H H' H1 H2:Hp}{v:V}{d:D}{vs:List V}{ds:List D}{a p:Addr}
theorem Ext.refl(O:AS)(H:Hp):Ext O H O H:=⟨fun _ _ h _=>h,fun _ h=>.inl h,fun _ h=>h,fun _ h=>h⟩
theorem Ext.trans(a:Ext O H O1 H1)(b:Ext O1 H1 O2 H2):Ext O H O2 H2:=by
 refine⟨fun c o h n=>b.kp c o (a.kp c o h n) fun z=>?_,fun c h=>?_,fun c h=>b.al c (a.al c h),fun c h=>b.lv c (a.lv c h)⟩
 ·rcases a.nw c z with q|q
  ·exact n q
  ·rw[h]at q;cases q
 ·rcases b.nw c h with q|q
  ·exact a.nw c q
  ·right;cases e:H c with
   | none=>rfl
   | some o=>exact absurd q (a.al c (by rw[e];simp))
theorem Same.ext(h:Same H H'):Ext O H O H':=⟨fun b o e _=>h b o e,fun _ z=>.inl z,fun b z=>by
 cases e:H b with
 | none=>exact absurd e z
 | some o=>rw[h b o e];simp,fun b z=>z.same fun o e=>h b o e⟩
theorem Rd.keep(r:Rd H a u)(k:∀o,H a=some o->H' a=some o):Rd H' a u:=by
 rcases r with r|⟨o,r⟩
 ·exact .inl (k _ r)
 ·exact .inr ⟨o,k _ r⟩
theorem Rd.live(r:Rd H a u):H a≠none:=by
 rcases r with r|⟨o,r⟩<;>(rw[r];simp)
theorem TupA.go(h:TupA K Y H a vs)(k:∀b o,H b=some o->¬ Y b->H' b=some o)(n:∀b,Y' b->Y b∨H b=none):TupA K Y' H' a vs:=by
 obtain⟨h1,h2⟩:=h;refine⟨k a _ h1 h2,fun z=>?_⟩;rcases n a z with q|q
 ·exact h2 q
 ·rw[h1]at q;cases q
theorem LstA.go(h:LstA K Y H a vs)(k:∀b o,H b=some o->¬ Y b->H' b=some o)(n:∀b,Y' b->Y b∨H b=none):LstA K Y' H' a vs:=by
 rcases h with⟨h1,h2⟩|h
 ·refine .inl ⟨Rd.keep h1 fun o e=>k a o e h2,fun z=>?_⟩;rcases n a z with q|q
  ·exact h2 q
  ·exact Rd.live h1 q
 ·exact .inr h
theorem DA.go(h:DA K Y H v d)(k:∀b o,H b=some o->¬ Y b->H' b=some o)(n:∀b,Y' b->Y b∨H b=none):DA K Y' H' v d:=by
 have no:∀a u,H a=some u->¬ Y a->¬ Y' a:=fun a u e ny z=>by
  rcases n a z with q|q
  ·exact ny q
  ·rw[e]at q;cases q
 induction h with
 | non=>exact .non
 | bl b=>exact .bl b
 | int i=>exact .int i
 | str x=>exact .str x
 | tup h1 h2 _ ih=>exact .tup (h1.go k n) h2 ih
 | ty n=>exact .ty n
 | lst h0 h1 h2 _ ih=>exact .lst (no _ _ h1 h0) (k _ _ h1 h0) h2 ih
 | fl h1 h2 _ ih=>exact .fl (h1.go k n) h2 ih
 | dk h0 h1 h2 _ ih=>exact .dk (no _ _ h1 h0) (k _ _ h1 h0) h2 ih
 | dt h0 ka h1 h2 _ ih=>exact .dt (no _ _ h1 h0) (ka.go k n) (k _ _ h1 h0) h2 ih
 | xc h=>exact .xc (h.go k n)
theorem DA.ext(h:DA K (U O Z) H v d)(e:Ext O H O' H'):DA K (U O' Z) H' v d :=
 h.go (fun b o q n=>e.kp b o q fun z=>n (.inl z)) fun b z=>z.elim (fun q=>(e.nw b q).elim (fun x=>.inl (.inl x)) .inr) fun q=>.inl (.inr q)
theorem DA.less(h:DA K Y H v d)(n:∀b,Y' b->Y b):DA K Y' H v d:=h.go (fun _ _ e _=>e) fun b z=>.inl (n b z)
theorem DA.same(h:DA K Y H v d)(s:Same H H'):DA K Y H' v d:=h.go (fun b o e _=>s b o e) fun _ z=>.inl z
theorem DA.away(h:DA K Y H v d)(s:Same H H')(hp:H p=none):DA K (ins p Y) H' v d:=h.go (fun b o e _=>s b o e) fun b z=>z.elim (fun q=>.inr (q ▸ hp)) .inl
theorem El.go(h:El K Y H vs ds)(k:∀b o,H b=some o->¬ Y b->H' b=some o)(n:∀b,Y' b->Y b∨H b=none):El K Y' H' vs ds:=⟨h.1,fun i v d a b=>(h.2 i v d a b).go k n⟩
theorem El.ext(h:El K (U O Z) H vs ds)(e:Ext O H O' H'):El K (U O' Z) H' vs ds:=⟨h.1,fun i v d a b=>(h.2 i v d a b).ext e⟩
theorem El.less(h:El K Y H vs ds)(n:∀b,Y' b->Y b):El K Y' H vs ds:=⟨h.1,fun i v d a b=>(h.2 i v d a b).less n⟩
theorem El.same(h:El K Y H vs ds)(s:Same H H'):El K Y H' vs ds:=⟨h.1,fun i v d a b=>(h.2 i v d a b).same s⟩
theorem El.away(h:El K Y H vs ds)(s:Same H H')(hp:H p=none):El K (ins p Y) H' vs ds:=⟨h.1,fun i v d a b=>(h.2 i v d a b).away s hp⟩
theorem El.nil:El K Y H [] []:=⟨rfl,fun i v d h=>by simp at h⟩
theorem El.cons(h:DA K Y H v d)(r:El K Y H vs ds):El K Y H (v::vs) (d::ds):=by
 refine⟨by simp[r.1],fun i v' d' h1 h2=>?_⟩
 cases i with
 | zero =>
  have e1:v=v':=by simpa using h1
  have e2:d=d':=by simpa using h2
  subst e1 e2;exact h
 | succ i=>exact r.2 i v' d' (by simpa using h1) (by simpa using h2)
theorem El.uncons(h:El K Y H vs (d::ds)):∃v r,vs=v::r/\DA K Y H v d/\El K Y H r ds:=by
 cases vs with
 | nil=>have:=h.1;simp at this
 | cons v r =>
  refine⟨v,r,rfl,h.2 0 v d rfl rfl,?_,fun i v' d' h1 h2=>h.2 (i+1) v' d' (by simpa using h1) (by simpa using h2)⟩
  have:=h.1;simpa using this
theorem El.unnil(h:El K Y H vs []):vs=[]:=by
 have:=h.1;simpa using this
theorem El.app(h:El K Y H vs ds)(r:El K Y H ws es):El K Y H (vs++ws) (ds++es):=by
 refine⟨by simp[h.1,r.1],fun i v d h1 h2=>?_⟩
 by_cases hi:i<vs.length
 ·rw[Ze hi]at h1;rw[Ze (by rw[← h.1];exact hi)]at h2
  exact h.2 i v d h1 h2
 ·rw[Wd (by lia)]at h1
  rw[Wd (by rw[← h.1];lia),← h.1]at h2
  exact r.2 _ v d h1 h2
theorem El.at(h:El K Y H vs ds){i:Nat}{d:D}(e:ds[i]?=some d):∃v,vs[i]?=some v/\DA K Y H v d:=by
 have hi:i<ds.length:=(Va.mp e).1;have hv:i<vs.length:=by rw[h.1];exact hi
 exact⟨vs[i],Za hv,h.2 i _ d (Za hv) e⟩
theorem El.one(h:DA K Y H v d):El K Y H [v] [d]:=El.cons h El.nil
theorem El.rev(h:El K Y H vs ds):El K Y H vs.reverse ds.reverse:=by
 refine⟨by simp[h.1],fun i v d h1 h2=>?_⟩
 have hi:i<vs.length:=by
  have:=(Va.mp h1).1;simpa using this
 rw[BL hi]at h1;rw[BL (by rw[← h.1];exact hi),← h.1]at h2
 exact h.2 _ v d h1 h2
theorem El.take(h:El K Y H vs ds)(n:Nat):El K Y H (vs.take n) (ds.take n):=by
 refine⟨by simp[h.1],fun i v d h1 h2=>?_⟩
 rw[List.getElem?_take]at h1 h2;split at h1
 ·rename_i q;rw[Ad q]at h2;exact h.2 i v d h1 h2
 ·cases h1
theorem El.drop(h:El K Y H vs ds)(n:Nat):El K Y H (vs.drop n) (ds.drop n):=by
 refine⟨by simp[h.1],fun i v d h1 h2=>?_⟩
 rw[Xh]at h1 h2;exact h.2 _ v d h1 h2
theorem El.set(h:El K Y H vs ds)(hv:DA K Y H v d)(j:Nat):El K Y H (vs.set j v) (ds.set j d):=by
 refine⟨by simp[h.1],fun i v' d' h1 h2=>?_⟩
 rw[Zm]at h1 h2;by_cases e:j=i
 ·rw[Ad e]at h1 h2;obtain⟨hl,h1⟩:=aB h1;rw[Ad (by rw[← h.1];exact hl)]at h2
  have e1:v=v':=by simpa using h1
  have e2:d=d':=by simpa using h2
  subst e1 e2;exact hv
 ·rw[Ag e]at h1 h2;exact h.2 i v' d' h1 h2
theorem El.erase(h:El K Y H vs ds)(j:Nat):El K Y H (vs.eraseIdx j) (ds.eraseIdx j):=by
 refine⟨by simp[List.length_eraseIdx,h.1],fun i v d h1 h2=>?_⟩
 rw[List.getElem?_eraseIdx]at h1 h2;split at h1
 ·rename_i q;rw[Ad q]at h2;exact h.2 _ v d h1 h2
 ·rename_i q;rw[Ag q]at h2;exact h.2 _ v d h1 h2
def OA(K:Aa)(Y:AS)(H:Hp)(p:Addr):D->Prop
 | .lst ds=>∃vs,H p=some (.lst vs)/\El K Y H vs ds
 | .dk ds=>∃kvs,H p=some (.dK kvs)/\kvs.map (·.1)=ds.map (·.1)/\∀(i:Nat) v d,kvs[i]?=some v->ds[i]?=some d->DA K Y H v.2 d.2
 | .dt ds=>∃ep kvs,KA Y H ep.2/\H p=some (.dT ep kvs)/\kvs.map (·.1)=ds.map (·.1)/\∀(i:Nat) v d,kvs[i]?=some v->ds[i]?=some d->DA K Y H v.2 d.2
 | _=>False
theorem OA.live(h:OA K Y H p d):H p≠none:=by
 cases d with
 | lst ds=>obtain⟨vs,e,_⟩:=h;rw[e];simp
 | dk ds=>obtain⟨vs,e,_⟩:=h;rw[e];simp
 | dt ds=>obtain⟨_,vs,_,e,_⟩:=h;rw[e];simp
 | _=>exact h.elim
theorem OA.lv(h:OA K Y H p d):Lv H p:=by
 cases d with
 | lst ds=>obtain⟨vs,e,_⟩:=h;exact⟨by rw[e];simp,fun _ z=>by rw[e]at z;cases z⟩
 | dk ds=>obtain⟨vs,e,_⟩:=h;exact⟨by rw[e];simp,fun _ z=>by rw[e]at z;cases z⟩
 | dt ds=>obtain⟨_,vs,_,e,_⟩:=h;exact⟨by rw[e];simp,fun _ z=>by rw[e]at z;cases z⟩
 | _=>exact h.elim
theorem OA.go(h:OA K Y H p d)(hp:H' p=H p)(k:∀b o,H b=some o->¬ Y b->H' b=some o)(n:∀b,Y' b->Y b∨H b=none):OA K Y' H' p d:=by
 cases d with
 | lst ds=>obtain⟨vs,e,q⟩:=h;exact⟨vs,hp.trans e,q.go k n⟩
 | dk ds=>obtain⟨vs,e,q1,q2⟩:=h;exact⟨vs,hp.trans e,q1,fun i v d a b=>(q2 i v d a b).go k n⟩
 | dt ds=>obtain⟨ep,vs,ka,e,q1,q2⟩:=h;exact⟨ep,vs,ka.go k n,hp.trans e,q1,fun i v d a b=>(q2 i v d a b).go k n⟩
 | _=>exact h.elim
theorem OA.da(h:OA K Y H p d)(hp:¬ Y' p)(n:∀b,Y' b->Y b):DA K Y' H (.ref p) d:=by
 cases d with
 | lst ds=>obtain⟨vs,e,q⟩:=h;exact .lst hp e q.1 (q.less n).2
 | dk ds=>obtain⟨vs,e,q1,q2⟩:=h;exact .dk hp e q1 fun i v d a b=>(q2 i v d a b).less n
 | dt ds=>obtain⟨ep,vs,ka,e,q1,q2⟩:=h;exact .dt hp (ka.less n) e q1 fun i v d a b=>(q2 i v d a b).less n
 | _=>exact h.elim
def BA(K:Aa)(Y:AS)(H:Hp)(v:V):D->Prop
 | .non=>v=.non
 | .bl b=>v=.bl b
 | .int i=>v=.int i
 | .str x=>v=.str x
 | .tup ds=>∃a vs,v=.ref a/\TupA K Y H a vs/\El K Y H vs ds
 | .ty n=>v=.ty n
 | .lst ds=>∃a vs,v=.ref a/\H a=some (.lst vs)/\El K Y H vs ds
 | .fl ds=>∃a vs,v=.ref a/\LstA K Y H a vs/\El K Y H vs ds
 | .dk ds=>∃a kvs,v=.ref a/\H a=some (.dK kvs)/\kvs.map (·.1)=ds.map (·.1)/\∀(i:Nat) v d,kvs[i]?=some v->ds[i]?=some d->DA K Y H v.2 d.2
 | .dt ds=>∃a ep kvs,v=.ref a/\KA Y H ep.2/\H a=some (.dT ep kvs)/\kvs.map (·.1)=ds.map (·.1)/\∀(i:Nat) v d,kvs[i]?=some v->ds[i]?=some d->DA K Y H v.2 d.2
 | .xc c n x=>∃a,v=.ref a/\XO K Y H a c n x
theorem DA.ba(h:DA K Y H v d):BA K Y H v d:=by
 cases h with
 | non=>rfl
 | bl b=>rfl
 | int i=>rfl
 | str x=>rfl
 | tup h1 h2 h3=>exact⟨_,_,rfl,h1,h2,h3⟩
 | ty n=>rfl
 | lst h0 h1 h2 h3=>exact⟨_,_,rfl,h1,h2,h3⟩
 | fl h1 h2 h3=>exact⟨_,_,rfl,h1,h2,h3⟩
 | dk h0 h1 h2 h3=>exact⟨_,_,rfl,h1,h2,h3⟩
 | dt h0 ka h1 h2 h3=>exact⟨_,_,_,rfl,ka,h1,h2,h3⟩
 | xc h=>exact⟨_,rfl,h⟩
theorem OA.ba(h:OA K Y H p d):BA K Y H (.ref p) d:=by
 cases d with
 | lst ds=>obtain⟨vs,e,q⟩:=h;exact⟨p,vs,rfl,e,q⟩
 | dk ds=>obtain⟨vs,e,q1,q2⟩:=h;exact⟨p,vs,rfl,e,q1,q2⟩
 | dt ds=>obtain⟨ep,vs,ka,e,q1,q2⟩:=h;exact⟨p,ep,vs,rfl,ka,e,q1,q2⟩
 | _=>exact h.elim
end
end VF
namespace VF
open PySem L2
inductive Sl where
 | e|v (d:D)|o (d:D)|io (d:D)
abbrev En:=List Sl
def Sl.get:Sl->Option D
 | .e=>none
 | .v d=>some d
 | .o d=>some d
 | .io d=>some d
def Sl.ow:Sl->Option D
 | .o d=>some d
 | .io d=>some d
 | _=>none
def Sl.put(y:D):Sl->Sl
 | .io _=>.io y
 | _=>.o y
theorem Sl.put_ow(y:D)(s:Sl):(s.put y).ow=some y:=by cases s<;>rfl
theorem Sl.put_v(y z:D)(s:Sl):s.put y≠.v z:=by cases s<;>(intro e;cases e)
inductive Rs where
 | d (x:D)|f (x:D)|s (i:Nat)
structure ER(K:Aa)(st:En)(σ:St)(H:Hp)(O Z:AS):Prop where
 len:st.length=σ.length
 val:∀(i:Nat) d,st[i]?=some (.v d)->∃v,σ[i]?=some (some v)/\DA K (U O Z) H v d
 own:∀(i:Nat) s d,st[i]?=some s->s.ow=some d->∃p,σ[i]?=some (some (.ref p))/\O p/\OA K (U O Z) H p d
 uni:∀(i j:Nat) s t d d' p,st[i]?=some s->s.ow=some d->st[j]?=some t->t.ow=some d'->σ[i]?=some (some (.ref p))->σ[j]?=some (some (.ref p))->i=j
 dis:∀p,O p->¬ Z p
 liv:∀p,U O Z p->Lv H p
structure Kp(st st':En):Prop where
 len:st'.length=st.length
 has:∀(i:Nat) s,st[i]?=some s->s.get≠none->∃s',st'[i]?=some s'/\s'.get≠none
 io:∀(i:Nat) d,st[i]?=some (.io d)->∃d',st'[i]?=some (.io d')
theorem Kp.refl(st:En):Kp st st:=⟨rfl,fun i s h g=>⟨s,h,g⟩,fun i d h=>⟨d,h⟩⟩
theorem Kp.trans(x:Kp a b)(y:Kp b c):Kp a c:=by
 refine⟨y.len.trans x.len,fun i s h g=>?_,fun i d h=>?_⟩
 ·obtain⟨s',h',g'⟩:=x.has i s h g;exact y.has i s' h' g'
 ·obtain⟨d',h'⟩:=x.io i d h;exact y.io i d' h'
def RVal(K:Aa)(Z:AS)(st:En)(σ:St)(H:Hp)(O:AS)(v:V):Rs->Prop
 | .d x=>DA K (U O Z) H v x
 | .f x=>∃p,v=.ref p/\¬ O p/\¬ Z p/\OA K (ins p (U O Z)) H p x/\ER K st σ H (ins p O) Z
 | .s i=>σ[i]?=some (some v)/\∃s,st[i]?=some s/\s.get≠none
def cont(st:En):Rs->Option D
 | .d x=>some x
 | .f x=>some x
 | .s i=>(st[i]?).bind Sl.get
def Rs.nf:Rs->Rs
 | .f x=>.d x
 | r=>r
section
variable {K:Aa}{Y Y' O O' O1 O2 Z:AS}{H H' H1 H2:Hp}{v:V}{d:D}{vs:List V}{ds:List D}{a p:Addr}{st st' st1 st2:En}{σ σ':St}
theorem eI(st:En)(r:Rs):cont st r.nf=cont st r:=by cases r<;>rfl
theorem RVal.nf{r:Rs}(h:RVal K Z st σ H O v r):RVal K Z st σ H O v r.nf:=by
 cases r with
 | d x=>exact h
 | s i=>exact h
 | f x =>
  obtain⟨p,rfl,h1,h2,h3,_⟩:=h;exact h3.da (fun z=>z.elim h1 h2) fun b z=>.inr z
theorem RVal.ba(h:RVal K Z st σ H O v r)(E:ER K st σ H O Z)(c:cont st r=some d):BA K (U O Z) H v d:=by
 cases r with
 | d x=>cases c;exact DA.ba h
 | f x =>
  cases c;have:=RVal.nf h;exact DA.ba (show DA K (U O Z) H v _ from this)
 | s i =>
  obtain⟨h1,s,h2,h3⟩:=h;have c':(st[i]?).bind Sl.get=some d:=c;rw[h2]at c';cases s with
  | e=>cases c'
  | v x =>
   cases c';obtain⟨u,g1,g2⟩:=E.val i _ h2;rw[h1]at g1;cases g1;exact g2.ba
  | o x =>
   cases c';obtain⟨p,g1,g2,g3⟩:=E.own i _ _ h2 rfl;rw[h1]at g1;cases g1;exact g3.ba
  | io x =>
   cases c';obtain⟨p,g1,g2,g3⟩:=E.own i _ _ h2 rfl;rw[h1]at g1;cases g1;exact g3.ba
theorem RVal.ext{r:Rs}(h:RVal K Z st σ H O v r.nf)(e:Ext O H O' H')(k:Kp st st'):RVal K Z st' σ H' O' v r.nf:=by
 cases r with
 | d x=>exact DA.ext (show DA K (U O Z) H v x from h) e
 | f x=>exact DA.ext (show DA K (U O Z) H v x from h) e
 | s i =>
  obtain⟨h1,s,h2,h3⟩:=h;exact⟨h1,k.has i s h2 h3⟩
theorem ER.same(E:ER K st σ H O Z)(s:Same H H'):ER K st σ H' O Z:=by
 refine⟨E.len,fun i d h=>?_,fun i s' d h1 h2=>?_,E.uni,E.dis,fun p hp=>?_⟩
 ·obtain⟨v,h1,h2⟩:=E.val i d h;exact⟨v,h1,h2.same s⟩
 ·obtain⟨p,g1,g2,g3⟩:=E.own i s' d h1 h2;refine⟨p,g1,g2,g3.go ?_ (fun b o e _=>s b o e) fun b z=>.inl z⟩;cases e:H p with
  | none=>exact absurd e g3.live
  | some o=>exact s p o e
 ·exact(E.liv p hp).same fun o e=>s p o e
theorem ER.away(E:ER K st σ H O Z)(s:Same H H')(hp:H p=none)(hp':Lv H' p):ER K st σ H' (ins p O) Z:=by
 have sub:∀b,U (ins p O) Z b->ins p (U O Z) b:=fun b z=>by
  rcases z with(z|z)|z
  ·exact .inl z
  ·exact .inr (.inl z)
  ·exact .inr (.inr z)
 refine⟨E.len,fun i d h=>?_,fun i s' d h1 h2=>?_,E.uni,fun q hq=>?_,fun q hq=>?_⟩
 ·obtain⟨v,h1,h2⟩:=E.val i d h;exact⟨v,h1,(h2.away s hp).less sub⟩
 ·obtain⟨q,g1,g2,g3⟩:=E.own i s' d h1 h2;refine⟨q,g1,.inr g2,g3.go ?_ (fun b o e _=>s b o e) fun b z=>?_⟩
  ·cases e:H q with
   | none=>exact absurd e g3.live
   | some o=>exact s q o e
  ·rcases sub b z with z|z
   ·exact .inr (z ▸ hp)
   ·exact .inl z
 ·rcases hq with rfl|hq
  ·exact fun z=>(E.liv _ (.inr z)).1 hp
  ·exact E.dis q hq
 ·rcases hq with(rfl|hq)|hq
  ·exact hp'
  ·exact(E.same s).liv q (.inl hq)
  ·exact(E.same s).liv q (.inr hq)
theorem ER.free(E:ER K st σ H O Z)(hp:H p=none):¬ O p/\¬ Z p:=⟨fun z=>(E.liv p (.inl z)).1 hp,fun z=>(E.liv p (.inr z)).1 hp⟩
theorem ER.new(E:ER K st σ H O Z)(hp:H p=none)(el:El K (U O Z) H vs ds):ER K st σ (upd H p (.lst vs)) O Z/\RVal K Z st σ (upd H p (.lst vs)) O (.ref p) (.f (.lst ds)):=by
 have s:=aI hp (.lst vs);have hf:=E.free hp;refine⟨E.same s,p,rfl,hf.1,hf.2,⟨vs,ay,el.away s hp⟩,E.away s hp ⟨by rw[ay];simp,fun _ z=>by rw[ay]at z;cases z⟩⟩
theorem ER.newT(E:ER K st σ H O Z)(hp:H p=none)(el:El K (U O Z) H vs ds):ER K st σ (upd H p (.tup vs)) O Z/\RVal K Z st σ (upd H p (.tup vs)) O (.ref p) (.d (.tup ds)):=by
 have s:=aI hp (.tup vs);have hf:=E.free hp;exact⟨E.same s,.tup ⟨ay,fun z=>z.elim hf.1 hf.2⟩ el.1 (el.same s).2⟩
def t9(st:En)(i:Nat):Option En:=match st[i]? with
 | some (.v _)=>some st
 | some (.o d)=>some (st.set i (.v d))
 | _=>none
def vq(st:En):Rs->Option En
 | .s i=>t9 st i
 | _=>some st
theorem ax{l:List α}(h:i≠j):(l.set i x)[j]?=l[j]?:=by rw[Zm,Ag h]
theorem aJ{l:List α}(h:l[i]?=some y):(l.set i x)[i]?=some x:=by
 have hi:=(Va.mp h).1;rw[Zm,Ad rfl,Ad hi]
theorem yi(h:t9 st i=some st'):Kp st st'/\∃d,st'[i]?=some (.v d)/\(st[i]?).bind Sl.get=some d:=by
 unfold t9 at h;split at h
 ·rename_i d e
  cases h;exact⟨Kp.refl st,d,e,by rw[e];rfl⟩
 ·rename_i d e
  cases h;refine⟨⟨by simp,fun j s hj g=>?_,fun j d' hj=>?_⟩,d,aJ e,by rw[e];rfl⟩
  ·by_cases q:i=j
   ·subst q;exact⟨.v d,aJ e,by simp[Sl.get]⟩
   ·exact⟨s,by rw[ax q];exact hj,g⟩
  ·have q:i≠j:=fun z=>by subst z;rw[e]at hj;cases hj
   exact⟨d',by rw[ax q];exact hj⟩
 ·cases h
theorem ER.frz(E:ER K st σ H O Z)(h:t9 st i=some st'):∃O',Ext O H O' H/\ER K st' σ H O' Z/\(∀b,O' b->O b):=by
 unfold t9 at h;split at h
 ·cases h;exact⟨O,Ext.refl O H,E,fun _ z=>z⟩
 ·rename_i d e
  cases h;obtain⟨p,g1,g2,g3⟩:=E.own i _ _ e rfl;have less:∀b,U (fun b=>O b/\b≠p) Z b->U O Z b:=fun b z=>z.elim (fun q=>.inl q.1) .inr;refine⟨fun b=>O b/\b≠p,⟨fun b o q _=>q,fun b z=>.inl z.1,fun b z=>z,fun b z=>z⟩,⟨by simp[E.len],fun j x hj=>?_,fun j s x hj hs=>?_,fun j k s t x y q hj hs hk ht e1 e2=>?_,fun q hq=>E.dis q hq.1,fun q hq=>E.liv q (less q hq)⟩,fun b z=>z.1⟩
  ·by_cases q:i=j
   ·subst q;rw[aJ e]at hj;cases hj;exact⟨.ref p,g1,g3.da (fun z=>z.elim (fun y=>y.2 rfl) (E.dis p g2)) less⟩
   ·rw[ax q]at hj;obtain⟨v,h1,h2⟩:=E.val j x hj;exact⟨v,h1,h2.less less⟩
  ·have q:i≠j:=fun z=>by
    subst z;rw[aJ e]at hj;cases hj;cases hs
   rw[ax q]at hj;obtain⟨r,h1,h2,h3⟩:=E.own j s x hj hs;refine⟨r,h1,⟨h2,fun z=>q ?_⟩,h3.go rfl (fun _ _ e _=>e) fun b z=>.inl (less b z)⟩;subst z;exact E.uni i j _ _ _ _ r e rfl hj hs g1 h1
  ·have q1:i≠j:=fun z=>by
    subst z;rw[aJ e]at hj;cases hj;cases hs
   have q2:i≠k:=fun z=>by
    subst z;rw[aJ e]at hk;cases hk;cases ht
   rw[ax q1]at hj;rw[ax q2]at hk;exact E.uni j k s t x y q hj hs hk ht e1 e2
 ·cases h
theorem RVal.frz(h:RVal K Z st σ H O v r)(E:ER K st σ H O Z)(f:vq st r=some st')(c:cont st r=some d):∃O',Ext O H O' H/\Kp st st'/\ER K st' σ H O' Z/\DA K (U O' Z) H v d:=by
 cases r with
 | d x=>cases f;cases c;exact⟨O,Ext.refl O H,Kp.refl st,E,h⟩
 | f x=>cases f;cases c;exact⟨O,Ext.refl O H,Kp.refl st,E,RVal.nf h⟩
 | s i =>
  obtain⟨h1,s,h2,h3⟩:=h;have f':t9 st i=some st':=f;obtain⟨k,x,k1,k2⟩:=yi f';obtain⟨O',e1,e2,_⟩:=E.frz f';have c':(st[i]?).bind Sl.get=some d:=c;have ex:x=d:=Option.some.inj (k2.symm.trans c');subst ex;obtain⟨u,g1,g2⟩:=e2.val i _ k1;rw[h1]at g1;cases g1;exact⟨O',e1,k,e2,g2⟩
theorem ER.write{s:Sl}(E:ER K st σ H O Z)(hs:st[i]?=some s)(ho:s.ow=some x)(hp:σ[i]?=some (some (.ref p)))(new:OA K (U O Z) (upd H p o) p y) :
  ER K (st.set i (s.put y)) σ (upd H p o) O Z/\Ext O H O (upd H p o)/\Kp st (st.set i (s.put y)):=by
 obtain⟨q,g1,g2,g3⟩:=E.own i s x hs ho;have eq:q=p:=by rw[hp]at g1;cases g1;rfl
 subst eq;have keep:∀b u,H b=some u->¬ U O Z b->upd H q o b=some u:=fun b u e n=>by
  have hb:b≠q:=fun z=>n (.inl (by rw[z];exact g2))
  rw[am hb];exact e
 refine⟨⟨by simp[E.len],fun j d hj=>?_,fun j t d hj ht=>?_,fun j k t t' d d' r hj ht hk ht' e1 e2=>?_,E.dis,fun r hr=>?_⟩,⟨fun b u e n=>?_,fun b z=>.inl z,fun b z=>?_,fun b z=>?_⟩,⟨by simp,fun j t hj ht=>?_,fun j d hj=>?_⟩⟩
 ·by_cases e:i=j
  ·subst e;rw[aJ hs]at hj;exact absurd (Option.some.inj hj) (Sl.put_v _ _ _)
  ·rw[ax e]at hj;obtain⟨v,h1,h2⟩:=E.val j d hj;exact⟨v,h1,h2.go keep fun b z=>.inl z⟩
 ·by_cases e:i=j
  ·subst e;rw[aJ hs]at hj;have:=Option.some.inj hj;subst this;rw[Sl.put_ow]at ht;cases ht;exact⟨q,hp,g2,new⟩
  ·rw[ax e]at hj;obtain⟨r,h1,h2,h3⟩:=E.own j t d hj ht;have hne:r≠q:=fun z=>by subst z;exact e (E.uni i j s t x d r hs ho hj ht hp h1)
   exact⟨r,h1,h2,h3.go (am hne) keep fun b z=>.inl z⟩
 ·have own':∀(m:Nat)(t:Sl)(d:D),(st.set i (s.put y))[m]?=some t->t.ow=some d->∃t2 d2,st[m]?=some t2/\t2.ow=some d2:=fun m t d hm ht=>by
   by_cases e:i=m
   ·subst e;exact⟨s,x,hs,ho⟩
   ·rw[ax e]at hm;exact⟨t,d,hm,ht⟩
  obtain⟨t1,d1,a1,b1⟩:=own' j t d hj ht;obtain⟨t2,d2,a2,b2⟩:=own' k t' d' hk ht';exact E.uni j k t1 t2 d1 d2 r a1 b1 a2 b2 e1 e2
 ·by_cases e:r=q
  ·subst e;exact new.lv
  ·exact(E.liv r hr).same fun o' eo=>by rw[am e];exact eo
 ·have hb:b≠q:=fun z=>n (by rw[z];exact g2)
  rw[am hb];exact e
 ·by_cases e:b=q
  ·subst e;rw[ay];simp
  ·rw[am e];exact z
 ·by_cases e:b=q
  ·subst e;exact new.lv
  ·exact z.same fun o' eo=>by rw[am e];exact eo
 ·by_cases e:i=j
  ·subst e;exact⟨s.put y,aJ hs,by cases s<;>simp[Sl.put,Sl.get]⟩
  ·exact⟨t,by rw[ax e];exact hj,ht⟩
 ·by_cases e:i=j
  ·subst e;rw[hs]at hj;cases hj;exact⟨y,aJ hs⟩
  ·exact⟨d,by rw[ax e];exact hj⟩
end
end VF
namespace VF
open PySem L2
abbrev FE:=En->Option (Rs×En)
abbrev FA:=En->Option (List Rs×En)
abbrev FT:=En->Option (Bool×En)
abbrev Rz:=D×Bool
def mk:Rz->Rs
 | (d,true)=>.f d
 | (d,false)=>.d d
def RES(K:Aa)(Y:AS)(H H':Hp)(v:V):Rz->Prop
 | (d,true)=>∃p,v=.ref p/\H p=none/\OA K (ins p Y) H' p d
 | (d,false)=>DA K Y H' v d
def Fsh(H:Hp)(v:V):Rs->Prop
 | .f _=>∀p,v=.ref p->H p=none
 | _=>True
theorem Ext.dead(e:Ext O H O' H')(h:H' p=none):H p=none:=by
 cases q:H p with
 | none=>rfl
 | some o=>exact absurd h (e.al p (by rw[q];simp))
theorem Fsh.back(h:Fsh H' v r)(e:Ext O H O' H'):Fsh H v r:=by
 cases r with
 | f x=>exact fun p hp=>e.dead (h p hp)
 | d x=>trivial
 | s i=>trivial
def RdE(K:Aa)(te:TE)(f:FE):Prop:=∀(st:En)(σ:St)(H:Hp)(O Z:AS)(Q:VK),ER K st σ H O Z->∀r st',f st=some (r,st') ->
 (∀v H' O',Ext O H O' H'->Kp st st'->ER K st' σ H' O' Z->RVal K Z st' σ H' O' v r->Fsh H v r->Q v H')->te σ H Q
inductive RVs(K:Aa)(Z:AS)(st:En)(σ:St)(H:Hp)(O:AS):List V->List Rs->Prop where
 | nil:RVs K Z st σ H O [] []
 | cons {v:V} {vs:List V} {r:Rs} {rs:List Rs}:RVal K Z st σ H O v r.nf->RVs K Z st σ H O vs rs->RVs K Z st σ H O (v::vs) (r::rs)
def RdA(K:Aa)(ta:TA)(f:FA):Prop:=∀(st:En)(σ:St)(H:Hp)(O Z:AS)(Q:List V->Hp->Prop),ER K st σ H O Z->∀rs st',f st=some (rs,st') ->
 (∀vs H' O',Ext O H O' H'->Kp st st'->ER K st' σ H' O' Z->RVs K Z st' σ H' O' vs rs->Q vs H')->ta σ H Q
def RdT(K:Aa)(tt:TT)(f:FT):Prop:=∀(st:En)(σ:St)(H:Hp)(O Z:AS)(Q:Bool->Hp->Prop),ER K st σ H O Z->∀c st',f st=some (c,st') ->
 (∀H' O',Ext O H O' H'->Kp st st'->ER K st' σ H' O' Z->Q c H')->tt σ H Q
def RdOp(K:Aa)(r:R2)(b:D->D->Option Rz):Prop:=∀(Y:AS)(H:Hp)(x y:V)(d1 d2:D)(z:Rz)(Q:VK),(∀p,Y p->Lv H p)->BA K Y H x d1->BA K Y H y d2->b d1 d2=some z ->
 (∀v H',Same H H'->RES K Y H H' v z->Q v H')->r x y H Q
def Gj(K:Aa)(r:V->Hp->VK->Prop)(b:D->Option Rz):Prop:=∀(Y:AS)(H:Hp)(x:V)(d1:D)(z:Rz)(Q:VK),(∀p,Y p->Lv H p)->BA K Y H x d1->b d1=some z ->
 (∀v H',Same H H'->RES K Y H H' v z->Q v H')->r x H Q
inductive BAs(K:Aa)(Y:AS)(H:Hp):List V->List D->Prop where
 | nil:BAs K Y H [] []
 | cons {v:V} {vs:List V} {d:D} {ds:List D}:BA K Y H v d->BAs K Y H vs ds->BAs K Y H (v::vs) (d::ds)
def RdCB(K:Aa)(r:List V->Hp->VK->Prop)(b:List D->Option Rz):Prop:=∀(Y:AS)(H:Hp)(xs:List V)(ds:List D)(z:Rz)(Q:VK),(∀p,Y p->Lv H p)->BAs K Y H xs ds->b ds=some z ->
 (∀v H',Same H H'->RES K Y H H' v z->Q v H')->r xs H Q
section
variable {K:Aa}{Y Y' O O' O1 O2 Z:AS}{H H' H1 H2:Hp}{v:V}{d:D}{vs:List V}{ds:List D}{a p:Addr}{st st' st1 st2:En}{σ σ':St}
theorem RES.rv(E:ER K st σ H O Z)(s:Same H H')(h:RES K (U O Z) H H' v z):ER K st σ H' O Z/\RVal K Z st σ H' O v (mk z):=by
 obtain⟨d,fr⟩:=z;cases fr with
 | false=>exact⟨E.same s,h⟩
 | true =>
  obtain⟨p,rfl,hp,ho⟩:=h;have hf:=E.free hp;exact⟨E.same s,p,rfl,hf.1,hf.2,ho,E.away s hp ho.lv⟩
theorem RES.fsh(h:RES K Y H H' v z):Fsh H v (mk z):=by
 obtain⟨d,fr⟩:=z;cases fr with
 | false=>trivial
 | true=>obtain⟨p,rfl,hp,_⟩:=h;exact fun q e=>by cases e;exact hp
theorem RVs.ext(h:RVs K Z st σ H O vs rs)(e:Ext O H O' H')(k:Kp st st'):RVs K Z st' σ H' O' vs rs:=by
 induction h with
 | nil=>exact .nil
 | cons h1 _ ih=>exact .cons (h1.ext e k) ih
def bG(st:En):List Rs->Option (List D)
 | []=>some []
 | r::rs=>(cont st r).bind fun d=>(bG st rs).bind fun ds=>some (d::ds)
theorem RVs.bas(h:RVs K Z st σ H O vs rs)(E:ER K st σ H O Z):∀{ds:List D},bG st rs=some ds->BAs K (U O Z) H vs ds:=by
 induction h with
 | nil=>intro ds e;cases e;exact .nil
 | @cons v vs r rs h1 _ ih =>
  intro ds e;refine bsO e fun d e1 e=>?_;refine bsO e fun ds' e2 e=>?_;cases e;exact .cons (h1.ba E (by rw[eI];exact e1)) (ih e2)
def bz:List Rs->En->Option (List D×En)
 | [],st=>some ([],st)
 | r::rs,st=>(cont st r).bind fun d=>(vq st r).bind fun st1=>(bz rs st1).bind fun x=>some (d::x.1,x.2)
theorem yj(st:En)(r:Rs):vq st r.nf=vq st r:=by cases r<;>rfl
theorem RVs.esc:∀{rs:List Rs}{vs:List V}{st:En}{O:AS}{ds:List D}{st':En},RVs K Z st σ H O vs rs->ER K st σ H O Z->bz rs st=some (ds,st')->∃O',Ext O H O' H/\Kp st st'/\ER K st' σ H O' Z/\El K (U O' Z) H vs ds
 | [],_,st,O,ds,st',.nil,E,e=>by cases e;exact⟨O,Ext.refl O H,Kp.refl _,E,El.nil⟩
 | r::rs,_,st,O,ds,st',.cons h1 h2,E,e=>by
  refine bsO e fun d e1 e=>?_;refine bsO e fun st1 e2 e=>?_;refine bsP e fun ds2 st2 e3 e=>?_;cases e;obtain⟨O1,x1,k1,E1,da⟩:=h1.frz E (by rw[yj];exact e2) (by rw[eI];exact e1)
  obtain⟨O2,x2,k2,E2,el⟩:=RVs.esc (h2.ext x1 k1) E1 e3;exact⟨O2,x1.trans x2,k1.trans k2,E2,El.cons (da.ext x2) el⟩
def af(i:Nat):FE:=fun st=>match st[i]? with
 | some (.v d)=>some (.d d,st)
 | some (.o _)=>some (.s i,st)
 | some (.io _)=>some (.s i,st)
 | _=>none
theorem ac(i:Nat):RdE K (kM i) (af i):=by
 intro st σ H O Z Q E r st' h q;unfold af at h;split at h
 ·rename_i d e
  cases h;obtain⟨v,h1,h2⟩:=E.val i d e;exact⟨v,h1,q v H O (Ext.refl O H) (Kp.refl _) E h2 True.intro⟩
 ·rename_i d e
  cases h;obtain⟨p,h1,h2,h3⟩:=E.own i _ _ e rfl;exact⟨.ref p,h1,q _ H O (Ext.refl O H) (Kp.refl _) E ⟨h1,_,e,by simp[Sl.get]⟩ True.intro⟩
 ·rename_i d e
  cases h;obtain⟨p,h1,h2,h3⟩:=E.own i _ _ e rfl;exact⟨.ref p,h1,q _ H O (Ext.refl O H) (Kp.refl _) E ⟨h1,_,e,by simp[Sl.get]⟩ True.intro⟩
 ·cases h
def fC(d:D):FE:=fun st=>some (.d d,st)
theorem pc(h:∀Y H,DA K Y H v d):RdE K (tC v) (fC d):=by
 intro st σ H O Z Q E r st' e q;cases e;exact q v H O (Ext.refl O H) (Kp.refl _) E (h _ _) True.intro
theorem aj(i:Int):RdE K (tC (.int i)) (fC (.int i)):=pc fun _ _=>.int i
theorem fU(x:Str):RdE K (tC (.str x)) (fC (.str x)):=pc fun _ _=>.str x
theorem mY(b:Bool):RdE K (tC (.bl b)) (fC (.bl b)):=pc fun _ _=>.bl b
theorem Eh:RdE K (tC .non) (fC .non):=pc fun _ _=>.non
def fOp(b:D->D->Option Rz)(fa fb:FE):FE:=fun st=>(fa st).bind fun x=>(fb x.2).bind fun y=>(cont y.2 x.1).bind fun d1=>(cont y.2 y.1).bind fun d2=>(b d1 d2).bind fun z=>some (mk z,y.2)
theorem ak(hr:RdOp K r b)(ha:RdE K ta fa)(hb:RdE K tb fb):RdE K (tOp r ta tb) (fOp b fa fb):=by
 intro st σ H O Z Q E r' st' h q;refine bsP h fun r1 st1 e1 h=>?_;refine bsP h fun r2 st2 e2 h=>?_;refine bsO h fun d1 e3 h=>?_;refine bsO h fun d2 e4 h=>?_;refine bsO h fun z e5 h=>?_;cases h;refine ha st σ H O Z _ E r1 st1 e1 fun v1 H1 O1 x1 k1 E1 rv1 w1=>?_;refine hb st1 σ H1 O1 Z _ E1 r2 st2 e2 fun v2 H2 O2 x2 k2 E2 rv2 w2=>?_;have b1:=(rv1.nf.ext x2 k2).ba E2 (by rw[eI];exact e3)
 refine hr (U O2 Z) H2 v1 v2 d1 d2 z _ E2.liv b1 (rv2.ba E2 e4) e5 fun v H3 s hres=>?_;obtain⟨E3,rv3⟩:=hres.rv E2 s;exact q v H3 O2 ((x1.trans x2).trans (Same.ext s)) (k1.trans k2) E3 rv3 (hres.fsh.back (x1.trans x2))
def fUn(b:D->Option Rz)(fa:FE):FE:=fun st=>(fa st).bind fun x=>(cont x.2 x.1).bind fun d1=>(b d1).bind fun z=>some (mk z,x.2)
theorem vv(hr:Gj K r b)(ha:RdE K ta fa):RdE K (tUn r ta) (fUn b fa):=by
 intro st σ H O Z Q E r' st' h q;refine bsP h fun r1 st1 e1 h=>?_;refine bsO h fun d1 e3 h=>?_;refine bsO h fun z e5 h=>?_;cases h;refine ha st σ H O Z _ E r1 st1 e1 fun v1 H1 O1 x1 k1 E1 rv1 w1=>?_;refine hr (U O1 Z) H1 v1 d1 z _ E1.liv (rv1.ba E1 e3) e5 fun v H3 s hres=>?_;obtain⟨E3,rv3⟩:=hres.rv E1 s;exact q v H3 O1 (x1.trans (Same.ext s)) k1 E3 rv3 (hres.fsh.back x1)
def tru(st:En)(r:Rs):Option Bool:=match cont st r with
 | some (.bl c)=>some c
 | _=>none
theorem vx(E:ER K st σ H O Z)(h:RVal K Z st σ H O v r)(t:tru st r=some c):v=.bl c:=by
 unfold tru at t;split at t
 ·rename_i b e
  cases t;exact h.ba E e
 ·cases t
def aV(fa:FE):FT:=fun st=>(fa st).bind fun x=>(tru x.2 x.1).bind fun c=>some (c,x.2)
theorem bi(ha:RdE K ta fa):RdT K (u5 ta) (aV fa):=by
 intro st σ H O Z Q E c st' h q;refine bsP h fun r1 st1 e1 h=>?_;refine bsO h fun c' e2 h=>?_;cases h;exact ha st σ H O Z _ E r1 st1 e1 fun v1 H1 O1 x1 k1 E1 rv1 w1=>⟨c,vx E1 rv1 e2,q H1 O1 x1 k1 E1⟩
theorem gm(ha:RdE K ta fa):RdT K (tB ta) (aV fa):=bi ha
def gz(f:FT):FT:=fun st=>(f st).bind fun x=>some (!x.1,x.2)
theorem eJ(h:RdT K t f):RdT K (F5 t) (gz f):=by
 intro st σ H O Z Q E c st' e q;refine bsP e fun c1 st1 e1 e=>?_;cases e;exact h st σ H O Z _ E c1 st1 e1 q
def kj(f g:FT):FT:=fun st=>(f st).bind fun x=>if x.1=true then some (true,x.2) else g x.2
theorem iw(h:RdT K t f)(h':RdT K u g):RdT K (tOr t u) (kj f g):=by
 intro st σ H O Z Q E c st' e q;refine bsP e fun c1 st1 e1 e=>?_;refine h st σ H O Z _ E c1 st1 e1 fun H1 O1 x1 k1 E1=>?_;cases c1 with
 | true =>
  rw[Ad rfl]at e ⊢;cases e;exact q H1 O1 x1 k1 E1
 | false =>
  simp only[Zf,if_false]at e ⊢;exact h' st1 σ H1 O1 Z _ E1 c st' e fun H2 O2 x2 k2 E2=>q H2 O2 (x1.trans x2) (k1.trans k2) E2
def eX:FT:=fun st=>some (true,st)
theorem ix:RdT K Gh eX:=by
 intro st σ H O Z Q E c st' e q;cases e;exact q H O (Ext.refl O H) (Kp.refl _) E
def z6(fa fb:FE):FE:=fun st=>(fa st).bind fun x=>(tru x.2 x.1).bind fun c=>if c=true then fb x.2 else some (.d (.bl false),x.2)
theorem yk(ha:RdE K ta fa)(hb:RdE K tb fb):RdE K (zO ta tb) (z6 fa fb):=by
 intro st σ H O Z Q E r st' h q;refine bsP h fun r1 st1 e1 h=>?_;refine bsO h fun c e2 h=>?_;refine ha st σ H O Z _ E r1 st1 e1 fun v1 H1 O1 x1 k1 E1 rv1 w1=>⟨c,vx E1 rv1 e2,?_⟩;cases c with
 | true =>
  rw[Ad rfl]at h ⊢;exact hb st1 σ H1 O1 Z _ E1 r st' h fun v H2 O2 x2 k2 E2 rv w2=>q v H2 O2 (x1.trans x2) (k1.trans k2) E2 rv (w2.back x1)
 | false =>
  rw[Ag (by decide)]at h ⊢
  cases h;exact q _ H1 O1 x1 k1 E1 (.bl false) True.intro
def z7(fa:FE):FE:=fun st=>(fa st).bind fun x=>(tru x.2 x.1).bind fun c=>some (.d (.bl (!c)),x.2)
theorem yl(ha:RdE K ta fa):RdE K (zP ta) (z7 fa):=by
 intro st σ H O Z Q E r st' h q;refine bsP h fun r1 st1 e1 h=>?_;refine bsO h fun c e2 h=>?_;cases h;exact ha st σ H O Z _ E r1 st1 e1 fun v1 H1 O1 x1 k1 E1 rv1 w1=>⟨c,vx E1 rv1 e2,q _ H1 O1 x1 k1 E1 (.bl _) True.intro⟩
def fIf(f:FT)(fa fb:FE):FE:=fun st=>(f st).bind fun x=>if x.1=true then fa x.2 else fb x.2
theorem z8(h:RdT K t f)(ha:RdE K ta fa)(hb:RdE K tb fb):RdE K (tIf t ta tb) (fIf f fa fb):=by
 intro st σ H O Z Q E r st' e q;refine bsP e fun c1 st1 e1 e=>?_;refine h st σ H O Z _ E c1 st1 e1 fun H1 O1 x1 k1 E1=>?_;cases c1 with
 | true =>
  rw[Ad rfl]at e ⊢;exact ha st1 σ H1 O1 Z _ E1 r st' e fun v H2 O2 x2 k2 E2 rv w2=>q v H2 O2 (x1.trans x2) (k1.trans k2) E2 rv (w2.back x1)
 | false =>
  simp only[Zf,if_false]at e ⊢;exact hb st1 σ H1 O1 Z _ E1 r st' e fun v H2 O2 x2 k2 E2 rv w2=>q v H2 O2 (x1.trans x2) (k1.trans k2) E2 rv (w2.back x1)
def av:FA:=fun st=>some ([],st)
theorem ae:RdA K hU av:=by
 intro st σ H O Z Q E rs st' e q;cases e;exact q [] H O (Ext.refl O H) (Kp.refl _) E .nil
def ad(fa:FE)(fr:FA):FA:=fun st=>(fa st).bind fun x=>(fr x.2).bind fun y=>some (x.1::y.1,y.2)
theorem aa(ha:RdE K ta fa)(hr:RdA K tr fr):RdA K (b8 ta tr) (ad fa fr):=by
 intro st σ H O Z Q E rs st' h q;refine bsP h fun r1 st1 e1 h=>?_;refine bsP h fun rs2 st2 e2 h=>?_;cases h;refine ha st σ H O Z _ E r1 st1 e1 fun v1 H1 O1 x1 k1 E1 rv1 w1=>?_;refine hr st1 σ H1 O1 Z _ E1 rs2 st2 e2 fun vs H2 O2 x2 k2 E2 rvs=>?_;exact q (v1::vs) H2 O2 (x1.trans x2) (k1.trans k2) E2 (.cons (rv1.nf.ext x2 k2) rvs)
theorem few(h:n<=1000000):n<=sizeLine:=Qc h (by decide)
def pd(fa:FA):FE:=fun st=>(fa st).bind fun x=>(bz x.1 x.2).bind fun y=>if y.1.length<=1000000 then some (.d (.tup y.1),y.2) else none
theorem nY(ha:RdA K ta fa):RdE K (Gc ta) (pd fa):=by
 intro st σ H O Z Q E r st' h q;refine bsP h fun rs st1 e1 h=>?_;refine bsP h fun ds st2 e2 h=>?_;refine ha st σ H O Z _ E rs st1 e1 fun vs H1 O1 x1 k1 E1 rvs=>?_;obtain⟨O2,x2,k2,E2,el⟩:=rvs.esc E1 e2;obtain⟨hz,h⟩:=aB h;cases h;refine⟨by rw[el.1];exact few hz,fun p hp=>?_⟩
 obtain⟨E3,rv⟩:=E2.newT hp el;exact q _ _ O2 ((x1.trans x2).trans (Same.ext (aI hp _))) (k1.trans k2) E3 rv True.intro
def cA(fa:FA):FE:=fun st=>(fa st).bind fun x=>(bz x.1 x.2).bind fun y=>if y.1.length<=1000000 then some (.f (.lst y.1),y.2) else none
theorem br(ha:RdA K ta fa):RdE K (ya ta) (cA fa):=by
 intro st σ H O Z Q E r st' h q;refine bsP h fun rs st1 e1 h=>?_;refine bsP h fun ds st2 e2 h=>?_;refine ha st σ H O Z _ E rs st1 e1 fun vs H1 O1 x1 k1 E1 rvs=>?_;obtain⟨O2,x2,k2,E2,el⟩:=rvs.esc E1 e2;obtain⟨hz,h⟩:=aB h;cases h;refine⟨by rw[el.1];exact few hz,fun p hp=>?_⟩
 obtain⟨E3,rv⟩:=E2.new hp el;exact q _ _ O2 ((x1.trans x2).trans (Same.ext (aI hp _))) (k1.trans k2) E3 rv fun p' e=>by cases e;exact(x1.trans x2).dead hp
def fCB(b:List D->Option Rz)(fa:FA):FE:=fun st=>(fa st).bind fun x=>(bG x.2 x.1).bind fun ds=>(b ds).bind fun z=>some (mk z,x.2)
theorem aZ(hr:RdCB K r b)(ha:RdA K ta fa):RdE K (tCB r ta) (fCB b fa):=by
 intro st σ H O Z Q E r0 st' h q;refine bsP h fun rs st1 e1 h=>?_;refine bsO h fun ds e2 h=>?_;refine bsO h fun z e3 h=>?_;cases h;refine ha st σ H O Z _ E rs st1 e1 fun vs H1 O1 x1 k1 E1 rvs=>?_;refine hr (U O1 Z) H1 vs ds z _ E1.liv (rvs.bas E1 e2) e3 fun v H3 s hres=>?_;obtain⟨E3,rv3⟩:=hres.rv E1 s;exact q v H3 O1 (x1.trans (Same.ext s)) k1 E3 rv3 (hres.fsh.back x1)
end
end VF
namespace VF
open PySem L2
def D.isSc:D->Bool
 | .non=>true
 | .bl _=>true
 | .int _=>true
 | .str _=>true
 | .ty _=>true
 | _=>false
def spV(K:Aa)(g:List D->Option Rz):Sp:=fun vs H Q _=>∃(Z:AS)(ds:List D)(z:Rz),El K Z H vs ds/\(∀p,Z p->Lv H p)/\g ds=some z/\∀v H',Same H H'->RES K Z H H' v z->Q v H'
def Hv(K:Aa)(Y:AS)(f:Addr)(x':D)(H H':Hp)(v:V):Rz->Prop
 | (d,true)=>∃p,v=.ref p/\H p=none/\OA K (ins p Y) H' p d/\OA K (ins p Y) H' f x'
 | (d,false)=>DA K Y H' v d/\OA K Y H' f x'
def kX(K:Aa)(g:D->List D->Option (Rz×D)):Sp:=fun vs H Q _=>∃(f:Addr)(ws:List V)(Z:AS)(x:D)(ds:List D)(z:Rz)(x':D),vs=.ref f::ws/\¬ Z f/\OA K (ins f Z) H f x/\El K (ins f Z) H ws ds/\(∀p,Z p->Lv H p)/\g x ds=some (z,x') /\
 ∀v H',(∀b o,H b=some o->b≠f->H' b=some o)->Hv K (ins f Z) f x' H H' v z->Q v H'
section
variable {K:Aa}{Y Y' O O' O1 O2 Z:AS}{H H' H1 H2:Hp}{v:V}{d:D}{vs:List V}{ds:List D}{a p:Addr}{st st' st1 st2:En}{σ σ':St}
def cO(g:List D->Option Rz)(fa:FA):FE:=fun st=>(fa st).bind fun x=>(bz x.1 x.2).bind fun y=>(g y.1).bind fun z=>some (mk z,y.2)
theorem db(ha:RdA K ta fa):RdE K (tZ (spV K g) ta) (cO g fa):=by
 intro st σ H O Z Q E r0 st' h q;refine bsP h fun rs st1 e1 h=>?_;refine bsP h fun ds st2 e2 h=>?_;refine bsO h fun z e3 h=>?_;cases h;refine ha st σ H O Z _ E rs st1 e1 fun vs H1 O1 x1 k1 E1 rvs=>?_;obtain⟨O2,x2,k2,E2,el⟩:=rvs.esc E1 e2;refine⟨U O2 Z,ds,z,el,E2.liv,e3,fun v H3 s hres=>?_⟩;obtain⟨E3,rv3⟩:=hres.rv E2 s;exact q v H3 O2 ((x1.trans x2).trans (Same.ext s)) (k1.trans k2) E3 rv3 (hres.fsh.back (x1.trans x2))
theorem RVal.da0(h:RVal K Z st σ H O v r)(E:ER K st σ H O Z)(c:cont st r=some d):DA K (fun _=>False) H v d:=by
 cases r with
 | d x=>cases c;exact DA.less (show DA K (U O Z) H v d from h) fun b z=>z.elim
 | f x=>cases c;exact DA.less (show DA K (U O Z) H v d from RVal.nf h) fun b z=>z.elim
 | s i =>
  obtain⟨h1,s,h2,h3⟩:=h;have c':(st[i]?).bind Sl.get=some d:=c;rw[h2]at c';cases s with
  | e=>cases c'
  | v x =>
   cases c';obtain⟨u,g1,g2⟩:=E.val i _ h2;rw[h1]at g1;cases g1;exact g2.less fun b z=>z.elim
  | o x =>
   cases c';obtain⟨p,g1,g2,g3⟩:=E.own i _ _ h2 rfl;rw[h1]at g1;cases g1;exact g3.da (fun z=>z) fun b z=>z.elim
  | io x =>
   cases c';obtain⟨p,g1,g2,g3⟩:=E.own i _ _ h2 rfl;rw[h1]at g1;cases g1;exact g3.da (fun z=>z) fun b z=>z.elim
theorem RVs.el0(h:RVs K Z st σ H O vs rs)(E:ER K st σ H O Z):∀{ds:List D},bG st rs=some ds->El K (fun _=>False) H vs ds:=by
 induction h with
 | nil=>intro ds e;cases e;exact El.nil
 | @cons v vs r rs h1 _ ih =>
  intro ds e;refine bsO e fun d e1 e=>?_;refine bsO e fun ds' e2 e=>?_;cases e;exact El.cons (h1.da0 E (by rw[eI];exact e1)) (ih e2)
theorem DA.sc(h:DA K Y H v d)(s:d.isSc=true):DA K Y' H' v d:=by
 cases h with
 | non=>exact .non
 | bl b=>exact .bl b
 | int i=>exact .int i
 | str x=>exact .str x
 | ty n=>exact .ty n
 | _=>cases s
def bH(g:List D->Option Rz)(fa:FA):FE:=fun st=>(fa st).bind fun x=>(bG x.2 x.1).bind fun ds=>(g ds).bind fun z=>if (z.1.isSc&&!z.2)=true then some (.d z.1,x.2) else none
theorem bb(ha:RdA K ta fa):RdE K (tZ (spV K g) ta) (bH g fa):=by
 intro st σ H O Z Q E r0 st' h q;refine bsP h fun rs st1 e1 h=>?_;refine bsO h fun ds e2 h=>?_;refine bsP h fun dz fr e3 h=>?_;obtain⟨hc,h⟩:=aB h;cases h;have h1:dz.isSc=true/\fr=false:=by simpa using hc
 obtain⟨h1,rfl⟩:=h1;refine ha st σ H O Z _ E rs _ e1 fun vs H1 O1 x1 k1 E1 rvs=>?_;refine⟨fun _=>False,ds,(dz,false),rvs.el0 E1 e2,fun p z=>z.elim,e3,fun v H3 s hres=>?_⟩;exact q v H3 O1 (x1.trans (Same.ext s)) k1 (E1.same s) (DA.sc (show DA K (fun _=>False) H3 v dz from hres) h1) True.intro
theorem pe{s:Sl}(E:ER K st σ H O Z)(hs:st[i]?=some s)(hx:s.ow=some x)(hv:σ[i]?=some (some v))(el:El K (U O Z) H ws ds)(hg:g x ds=some (z,x'))
  (q:∀v H' O',Ext O H O' H'->Kp st (st.set i (s.put x'))->ER K (st.set i (s.put x')) σ H' O' Z->RVal K Z (st.set i (s.put x')) σ H' O' v (mk z)->Fsh H v (mk z)->Q v H'):kX K g (v::ws) H Q XE:=by
 obtain⟨p,g1,g2,g3⟩:=E.own i s x hs hx;have ev:v=.ref p:=by rw[hv]at g1;cases g1;rfl
 subst ev;have a1:∀b,ins p (fun b=>U O Z b/\b≠p) b->U O Z b:=fun b z=>z.elim (fun q=>by rw[q];exact .inl g2) fun q=>q.1
 have a2:∀b,U O Z b->ins p (fun b=>U O Z b/\b≠p) b:=fun b z=>by
  by_cases e:b=p
  ·exact .inl e
  ·exact .inr ⟨z,e⟩
 refine⟨p,ws,fun b=>U O Z b/\b≠p,x,ds,z,x',rfl,fun z=>z.2 rfl,g3.go rfl (fun _ _ e _=>e) (fun b z=>.inl (a1 b z)),el.less a1,fun b z=>E.liv b z.1,hg,fun u H' kp hres=>?_⟩;have ho:OA K (ins p fun b=>U O Z b/\b≠p) H' p x':=by
  obtain⟨dz,fr⟩:=z;cases fr with
  | false=>exact hres.2
  | true=>obtain⟨r,_,_,_,h⟩:=hres;exact h.go rfl (fun _ _ e _=>e) fun b z=>.inl (.inr z)
 have kp':∀b o,H b=some o->¬ U O Z b->H' b=some o:=fun b o e n=>kp b o e fun z=>n (by rw[z];exact .inl g2)
 have al:∀b,H b≠none->H' b≠none:=fun b hb=>by
  by_cases e:b=p
  ·rw[e];exact ho.live
  ·cases eb:H b with
   | none=>exact absurd eb hb
   | some o=>rw[kp b o eb e];simp
 have al':∀b,Lv H b->Lv H' b:=fun b hb=>by
  by_cases e:b=p
  ·rw[e];exact ho.lv
  ·exact hb.same fun o eb=>kp b o eb e
 have ex:Ext O H O H':=⟨fun b o e n=>kp b o e fun z=>n (by rw[z];exact g2),fun b z=>.inl z,al,al'⟩
 have ho':OA K (U O Z) H' p x':=ho.go rfl (fun _ _ e _=>e) fun b z=>.inl (a2 b z);have mkE:∀(O2:AS),(∀b,O b->O2 b)->(∀b,O2 b->O b∨H b=none)->(∀b,O2 b->¬ Z b)->(∀b,O2 b->Lv H' b)->OA K (U O2 Z) H' p x'->ER K (st.set i (s.put x')) σ H' O2 Z:=fun O2 up dn ds lv ho2=>by
  have nn:∀b,U O2 Z b->U O Z b∨H b=none:=fun b z=>z.elim (fun y=>(dn b y).elim (fun w=>.inl (.inl w)) .inr) fun y=>.inl (.inr y);refine⟨by simp[E.len],fun j d hj=>?_,fun j t d hj ht=>?_,fun j k t t' d d' r hj ht hk ht' e1 e2=>?_,ds,fun r hr=>hr.elim (lv r) fun y=>al' r (E.liv r (.inr y))⟩
  ·by_cases e:i=j
   ·subst e;rw[aJ hs]at hj;exact absurd (Option.some.inj hj) (Sl.put_v _ _ _)
   ·rw[ax e]at hj;obtain⟨v,h1,h2⟩:=E.val j d hj;exact⟨v,h1,h2.go kp' nn⟩
  ·by_cases e:i=j
   ·subst e;rw[aJ hs]at hj;have:=Option.some.inj hj;subst this;rw[Sl.put_ow]at ht;cases ht;exact⟨p,g1,up p g2,ho2⟩
   ·rw[ax e]at hj;obtain⟨r,h1,h2,h3⟩:=E.own j t d hj ht;have hne:r≠p:=fun z=>by subst z;exact e (E.uni i j s t x d r hs hx hj ht g1 h1)
    refine⟨r,h1,up r h2,h3.go ?_ kp' nn⟩;cases er:H r with
    | none=>exact absurd er h3.live
    | some o=>exact kp r o er hne
  ·have own':∀(m:Nat)(t:Sl)(d:D),(st.set i (s.put x'))[m]?=some t->t.ow=some d->∃t2 d2,st[m]?=some t2/\t2.ow=some d2:=fun m t d hm ht=>by
    by_cases e:i=m
    ·subst e;exact⟨s,x,hs,hx⟩
    ·rw[ax e]at hm;exact⟨t,d,hm,ht⟩
   obtain⟨t1,d1,a1,b1⟩:=own' j t d hj ht;obtain⟨t2,d2,a2,b2⟩:=own' k t' d' hk ht';exact E.uni j k t1 t2 d1 d2 r a1 b1 a2 b2 e1 e2
 have kk:Kp st (st.set i (s.put x')):=by
  refine⟨by simp,fun j t hj ht=>?_,fun j d hj=>?_⟩
  ·by_cases e:i=j
   ·subst e;exact⟨s.put x',aJ hs,by cases s<;>simp[Sl.put,Sl.get]⟩
   ·exact⟨t,by rw[ax e];exact hj,ht⟩
  ·by_cases e:i=j
   ·subst e;rw[hs]at hj;cases hj;exact⟨x',aJ hs⟩
   ·exact⟨d,by rw[ax e];exact hj⟩
 have E':=mkE O (fun _ z=>z) (fun _ z=>.inl z) E.dis (fun b z=>al' b (E.liv b (.inl z))) ho';refine q u H' O ex kk E' ?_ ?_
 rotate_left
 ·obtain⟨dz,fr⟩:=z;cases fr with
  | false=>trivial
  | true=>obtain⟨r,rfl,hr,_⟩:=hres;exact fun q e=>by cases e;exact hr
 obtain⟨dz,fr⟩:=z;cases fr with
 | false=>exact DA.less (show DA K _ H' u dz from hres.1) a2
 | true =>
  obtain⟨r,rfl,hr,hor,hof⟩:=hres;have hf:=E.free hr;have a3:∀b,ins r (U O Z) b->ins r (ins p fun b=>U O Z b/\b≠p) b:=fun b z=>z.elim .inl fun y=>.inr (a2 b y);refine⟨r,rfl,hf.1,hf.2,hor.go rfl (fun _ _ e _=>e) (fun b z=>.inl (a3 b z)),mkE (ins r O) (fun _ z=>.inr z) (fun b z=>z.elim (fun y=>.inr (by rw[y];exact hr)) .inl) (fun b z=>z.elim (fun y=>by rw[y];exact hf.2) (E.dis b)) (fun b z=>z.elim (fun y=>by rw[y];exact hor.lv) fun y=>al' b (E.liv b (.inl y))) ?_⟩
  exact hof.go rfl (fun _ _ e _=>e) fun b z=>.inl (a3 b (z.elim (fun y=>y.elim .inl fun w=>.inr (.inl w)) fun y=>.inr (.inr y)))
def fIO(g:D->List D->Option (Rz×D))(i:Nat)(fr:FA):FE:=fun st=>(st[i]?).bind fun s0=>(s0.ow).bind fun _=>(fr st).bind fun x=>(bz x.1 x.2).bind fun y=>(y.2[i]?).bind fun s=>(s.ow).bind fun d=>(g d y.1).bind fun z=>some (mk z.1,y.2.set i (s.put z.2))
theorem bV(hr:RdA K tr fr):RdE K (tZ (kX K g) (b8 (kM i) tr)) (fIO g i fr):=by
 intro st σ H O Z Q E r0 st' h q;refine bsO h fun s0 f1 h=>?_;refine bsO h fun x0 f2 h=>?_;refine bsP h fun rs st1 e1 h=>?_;refine bsP h fun ds st2 e2 h=>?_;refine bsO h fun s e3 h=>?_;refine bsO h fun x e4 h=>?_;refine bsP h fun z x' e5 h=>?_;cases h;obtain⟨p,g1,_,_⟩:=E.own i s0 x0 f1 f2;refine⟨.ref p,g1,?_⟩;refine hr st σ H O Z _ E rs st1 e1 fun vs H1 O1 x1 k1 E1 rvs=>?_;obtain⟨O2,x2,k2,E2,el⟩:=rvs.esc E1 e2;exact pe E2 e3 e4 g1 el e5 fun v H' O' ex kk E' rv w=>q v H' O' ((x1.trans x2).trans ex) ((k1.trans k2).trans kk) E' rv (w.back (x1.trans x2))
end
end VF
namespace VF
open PySem L2
structure Kq(st:En)(σ:St)(st':En)(σ':St):Prop where
 len:st'.length=st.length
 io:∀(i:Nat) d,st[i]?=some (.io d)->σ'[i]?=σ[i]?/\∃d',st'[i]?=some (.io d')
theorem Kq.refl(st:En)(σ:St):Kq st σ st σ:=⟨rfl,fun i d h=>⟨rfl,d,h⟩⟩
theorem Kq.trans(h:Kq a x b y)(g:Kq b y c z):Kq a x c z:=by
 refine⟨g.len.trans h.len,fun i d e=>?_⟩;obtain⟨e1,d1,e2⟩:=h.io i d e;obtain⟨e3,d2,e4⟩:=g.io i d1 e2;exact⟨e3.trans e1,d2,e4⟩
theorem Kp.kq(k:Kp st st'):Kq st σ st' σ:=⟨k.len,fun i d h=>⟨rfl,k.io i d h⟩⟩
abbrev FG:=D->En->Option En
def RdG(K:Aa)(g:TG)(fg:FG)(tg:List Nat):Prop:=∀(st:En)(σ:St)(H:Hp)(O Z:AS)(x:V)(d:D)(Q:St->Hp->Prop),ER K st σ H O Z->DA K (U O Z) H x d->∀st',fg d st=some st' ->
 (∀σ',(∀j,j∉tg->σ'[j]?=σ[j]?/\st'[j]?=st[j]?)->Kq st σ st' σ'->ER K st' σ' H O Z->Q σ' H)->g x σ H Q
def Sl.isIo:Sl->Bool
 | .io _=>true
 | _=>false
def iT(i:Nat)(s:Sl)(st:En):Option En:=(st[i]?).bind fun t=>if t.isIo=true then none else some (st.set i s)
section
variable {K:Aa}{Y Y' O O' O1 O2 Z:AS}{H H' H1 H2:Hp}{v:V}{d:D}{vs:List V}{ds:List D}{a p:Addr}{st st' st1 st2:En}{σ σ':St}
theorem iU(h:iT i s st=some st'):∃t,st[i]?=some t/\t.isIo=false/\st'=st.set i s:=by
 refine bsO h fun t e h=>?_;by_cases c:t.isIo=true
 ·simp only[Ad c]at h;cases h
 ·simp only[Ag c]at h;cases h;exact⟨t,e,by simpa using c,rfl⟩
theorem kY{s t:Sl}(e:st[i]?=some t)(n:t.isIo=false):Kq st σ (st.set i s) (σ.set i w):=by
 refine⟨by simp,fun j d h=>?_⟩
 have q:i≠j:=fun z=>by subst z;rw[e]at h;cases h;cases n
 exact⟨ax q,d,by rw[ax q];exact h⟩
theorem ER.asg(E:ER K st σ H O Z)(e:st[i]?=some t)(h:DA K (U O Z) H v d):ER K (st.set i (.v d)) (σ.set i (some v)) H O Z:=by
 have hi:i<σ.length:=by rw[← E.len];exact(Va.mp e).1
 have sg:(σ.set i (some v))[i]?=some (some v):=by rw[Zm,Ad rfl,Ad hi]
 have ne:∀(j:Nat) s x,(st.set i (.v d))[j]?=some s->s.ow=some x->i≠j/\st[j]?=some s:=fun j s x h1 h2=>by
  by_cases q:i=j
  ·subst q;rw[aJ e]at h1;cases h1;cases h2
  ·exact⟨q,by rw[ax q]at h1;exact h1⟩
 refine⟨by simp[E.len],fun j x hj=>?_,fun j s x h1 h2=>?_,fun j k s s' x x' r h1 h2 h3 h4 h5 h6=>?_,E.dis,E.liv⟩
 ·by_cases q:i=j
  ·subst q;rw[aJ e]at hj;cases hj;exact⟨v,sg,h⟩
  ·rw[ax q]at hj;obtain⟨w,g1,g2⟩:=E.val j x hj;exact⟨w,by rw[ax q];exact g1,g2⟩
 ·obtain⟨q,h1⟩:=ne j s x h1 h2;obtain⟨r,g1,g2⟩:=E.own j s x h1 h2;exact⟨r,by rw[ax q];exact g1,g2⟩
 ·obtain⟨q1,h1⟩:=ne j s x h1 h2;obtain⟨q2,h3⟩:=ne k s' x' h3 h4;rw[ax q1]at h5;rw[ax q2]at h6;exact E.uni j k s s' x x' r h1 h2 h3 h4 h5 h6
theorem ER.asgF(E0:ER K st σ H O Z)(E:ER K st σ H (ins p O) Z)(np:¬ O p)(e:st[i]?=some t)(h:OA K (ins p (U O Z)) H p x):ER K (st.set i (.o x)) (σ.set i (some (.ref p))) H (ins p O) Z:=by
 have hi:i<σ.length:=by rw[← E.len];exact(Va.mp e).1
 have sg:(σ.set i (some (V.ref p)))[i]?=some (some (.ref p)):=by rw[Zm,Ad rfl,Ad hi]
 have fresh:∀(j:Nat) s y,st[j]?=some s->s.ow=some y->σ[j]?≠some (some (.ref p)):=fun j s y h1 h2 z=>by
  obtain⟨r,g1,g2,_⟩:=E0.own j s y h1 h2;rw[z]at g1;cases g1;exact np g2
 refine⟨by simp[E.len],fun j y hj=>?_,fun j s y h1 h2=>?_,fun j k s s' y y' r h1 h2 h3 h4 h5 h6=>?_,E.dis,E.liv⟩
 ·by_cases q:i=j
  ·subst q;rw[aJ e]at hj;cases hj
  ·rw[ax q]at hj;obtain⟨w,g1,g2⟩:=E.val j y hj;exact⟨w,by rw[ax q];exact g1,g2⟩
 ·by_cases q:i=j
  ·subst q;rw[aJ e]at h1;cases h1;cases h2;refine⟨p,sg,.inl rfl,h.go rfl (fun _ _ e _=>e) fun b z=>.inl ?_⟩;rcases z with(z|z)|z
   ·exact .inl z
   ·exact .inr (.inl z)
   ·exact .inr (.inr z)
  ·rw[ax q]at h1;obtain⟨r,g1,g2⟩:=E.own j s y h1 h2;exact⟨r,by rw[ax q];exact g1,g2⟩
 ·by_cases q1:i=j
  ·by_cases q2:i=k
   ·exact q1.symm.trans q2
   ·subst q1;rw[ax q2]at h3 h6;rw[sg]at h5;cases h5;exact absurd h6 (fresh k s' y' h3 h4)
  ·by_cases q2:i=k
   ·subst q2;rw[ax q1]at h1 h5;rw[sg]at h6;cases h6;exact absurd h5 (fresh j s y h1 h2)
   ·rw[ax q1]at h1 h5;rw[ax q2]at h3 h6;exact E.uni j k s s' y y' r h1 h2 h3 h4 h5 h6
def gN(i:Nat):FG:=fun d st=>iT i (.v d) st
theorem aW(i:Nat):RdG K (jV i) (gN i) [i]:=by
 intro st σ H O Z x d Q E da st' h q;obtain⟨t,e,n,rfl⟩:=iU h;refine q (σ.set i (some x)) (fun j hj=>?_) (kY e n) (E.asg e da);have q:i≠j:=fun z=>hj (by rw[z];simp)
 exact⟨ax q,ax q⟩
def yn(K:Aa)(g:TGs)(fg:List D->En->Option En)(tg:List Nat):Prop:=∀(st:En)(σ:St)(H:Hp)(O Z:AS)(xs:List V)(ds:List D)(Q:St->Hp->Prop),ER K st σ H O Z->El K (U O Z) H xs ds->∀st',fg ds st=some st' ->
 (∀σ',(∀j,j∉tg->σ'[j]?=σ[j]?/\st'[j]?=st[j]?)->Kq st σ st' σ'->ER K st' σ' H O Z->Q σ' H)->g xs σ H Q
def gsN:List D->En->Option En:=fun ds st=>match ds with
 | []=>some st
 | _=>none
theorem rV:yn K F7 gsN []:=by
 intro st σ H O Z xs ds Q E el st' h q;cases ds with
 | nil =>
  cases h;exact⟨el.unnil,q σ (fun j _=>⟨rfl,rfl⟩) (Kq.refl _ _) E⟩
 | cons d ds=>cases h
def gsC(fg:FG)(fgs:List D->En->Option En):List D->En->Option En:=fun ds st=>match ds with
 | d::r=>(fg d st).bind fun st1=>fgs r st1
 | []=>none
theorem iV(h1:RdG K g fg t1)(h2:yn K gs fgs t2):yn K (zR g gs) (gsC fg fgs) (t1++t2):=by
 intro st σ H O Z xs ds Q E el st' h q;cases ds with
 | nil=>cases h
 | cons d ds =>
  refine bsO h fun st1 e1 h=>?_;obtain⟨v,r,rfl,da,el⟩:=el.uncons;refine⟨v,r,rfl,h1 st σ H O Z v d _ E da st1 e1 fun σ1 k1 q1 E1=>?_⟩;refine h2 st1 σ1 H O Z r ds _ E1 el st' h fun σ2 k2 q2 E2=>q σ2 (fun j hj=>?_) (q1.trans q2) E2;have a:=k1 j fun z=>hj (Qi _ z);have b:=k2 j fun z=>hj (Xe _ z);exact⟨b.1.trans a.1,b.2.trans a.2⟩
def gT(n:Nat)(fgs:List D->En->Option En):FG:=fun d st=>match d with
 | .tup ds=>if ds.length=n then fgs ds st else none
 | _=>none
theorem vy(h:yn K gs fgs t):RdG K (DI K n gs) (gT n fgs) t:=by
 intro st σ H O Z x d Q E da st' e q;cases d with
 | tup ds =>
  obtain⟨hn,e⟩:=aB e;cases da with
  | tup h1 h2 h3=>exact⟨_,_,rfl,h1.sq,h2.trans hn,h st σ H O Z _ ds Q E ⟨h2,h3⟩ st' e q⟩
 | _=>cases e
abbrev FI:=En->Option (List D×En)
def Gk(K:Aa)(Z:AS)(J:It)(items:List D)(H:Hp)(O:AS):Prop:=∀H' O',Ext O H O' H'->(∀p,U O' Z p->Lv H' p)->(∀i,items.length<=i->J.stop i H')/\∀(i:Nat) d,items[i]?=some d->J.go i H'/\∀x H'',J.yld i H' x H''->Same H' H''/\DA K (U O' Z) H'' x d
def RdI(K:Aa)(wi:TI)(fi:FI):Prop:=∀(st:En)(σ:St)(H:Hp)(O Z:AS)(R:It->Hp->Prop),ER K st σ H O Z->∀items st',fi st=some (items,st') ->
 (∀J H' O',Ext O H O' H'->Kp st st'->ER K st' σ H' O' Z->Gk K Z J items H' O'->R J H')->wi σ H R
def esc(r:Rs)(st:En):Option (D×En):=(cont st r).bind fun d=>(vq st r).bind fun st1=>some (d,st1)
theorem RVal.esc(h:RVal K Z st σ H O v r)(E:ER K st σ H O Z)(e:esc r st=some (d,st')):∃O',Ext O H O' H/\Kp st st'/\ER K st' σ H O' Z/\DA K (U O' Z) H v d:=by
 refine bsO e fun x e1 e=>?_;refine bsO e fun s1 e2 e=>?_;cases e;exact h.frz E e2 e1
def D.its:D->Option (List D)
 | .lst ds=>some ds
 | .fl ds=>some ds
 | _=>none
def D.itt:D->Option (List D)
 | .tup ds=>some ds
 | _=>none
def fIL(fe:FE):FI:=fun st=>(fe st).bind fun x=>(esc x.1 x.2).bind fun y=>(y.1.its).bind fun ds=>some (ds,y.2)
theorem yo(h:RdE K te fe):RdI K (rD K te) (fIL fe):=by
 intro st σ H O Z R E items st' e q;refine bsP e fun r st1 e1 e=>?_;refine bsP e fun d st2 e2 e=>?_;refine bsO e fun ds e3 e=>?_;cases e;refine h st σ H O Z _ E r st1 e1 fun v H1 O1 x1 k1 E1 rv w1=>?_;obtain⟨O2,x2,k2,E2,da⟩:=rv.esc E1 e2;have fin:∀{a:Addr}{vs:List V},El K (U O2 Z) H1 vs items->(∀H' O',Ext O2 H1 O' H'->SqL K H' a vs)->rD K (fun _ H Q=>Q (.ref a) H) σ H1 R:=fun {a vs} el sq=>by
  refine⟨a,rfl,⟨vs,sq H1 O2 (Ext.refl _ _)⟩,q _ H1 O2 (x1.trans x2) (k1.trans k2) E2 fun H' O' ex _=>?_⟩;have g1:=sq H' O' ex;have el':=el.ext ex;have hl:=el.1;refine⟨fun i hi=>⟨vs,g1,by lia⟩,fun i d hd=>?_⟩
  obtain⟨v,hv,hdv⟩:=el'.at hd;refine⟨⟨vs,v,g1,hv⟩,fun x H'' hx=>?_⟩;obtain⟨rfl,hx⟩:=hx;have:=hx vs g1;rw[hv]at this;cases this;exact⟨Same.refl _,hdv⟩
 cases d with
 | lst ds' =>
  cases e3;cases da with
  | @lst a vs _ h0 h1 h2 h3=>exact fin ⟨h2,h3⟩ fun H' O' ex=>.inl (.inl (ex.kp a _ h1 fun z=>h0 (.inl z)))
 | fl ds' =>
  cases e3;cases da with
  | @fl a vs _ h1 h2 h3 =>
   refine fin ⟨h2,h3⟩ fun H' O' ex=>?_;rcases h1 with⟨h1,hn⟩|h1
   ·exact .inl (Rd.keep h1 fun o e=>ex.kp a o e fun z=>hn (.inl z))
   ·exact h1 H'
 | _=>cases e3
def fIT(fe:FE):FI:=fun st=>(fe st).bind fun x=>(esc x.1 x.2).bind fun y=>(y.1.itt).bind fun ds=>some (ds,y.2)
theorem Ei(h:RdE K te fe):RdI K (DK K te) (fIT fe):=by
 intro st σ H O Z R E items st' e q;refine bsP e fun r st1 e1 e=>?_;refine bsP e fun d st2 e2 e=>?_;refine bsO e fun ds e3 e=>?_;cases e;refine h st σ H O Z _ E r st1 e1 fun v H1 O1 x1 k1 E1 rv w1=>?_;obtain⟨O2,x2,k2,E2,da⟩:=rv.esc E1 e2;cases d with
 | tup ds' =>
  cases e3;cases da with
  | @tup a vs _ h1 h2 h3 =>
   refine⟨a,rfl,⟨vs,h1.sq⟩,q _ H1 O2 (x1.trans x2) (k1.trans k2) E2 fun H' O' ex _=>?_⟩;have da':=(DA.tup h1 h2 h3).ext ex;cases da' with
   | @tup _ ws _ g1 g2 g3 =>
    refine⟨fun i hi=>⟨ws,g1.sq,by lia⟩,fun i d hd=>?_⟩
    obtain⟨v,hv,hdv⟩:=El.at ⟨g2,g3⟩ hd;refine⟨⟨ws,v,g1.sq,hv⟩,fun x H'' hx=>?_⟩;obtain⟨rfl,hx⟩:=hx;have:=hx ws g1.sq;rw[hv]at this;cases this;exact⟨Same.refl _,hdv⟩
 | _=>cases e3
def rng(lo:Int)(n:Nat):List D:=(List.range n).map fun(i:Nat)=>D.int (lo+(i:Int))
theorem Ej(h:(rng lo n)[i]?=some d):i<n/\d=.int (lo+i):=by
 unfold rng at h;rw[Xb]at h;by_cases hi:i<n
 ·rw[Qj hi]at h;exact⟨hi,(Option.some.inj h).symm⟩
 ·rw[Vd (by simpa using hi)]at h;cases h
theorem yp(lo:Int)(n:Nat):(rng lo n).length=n:=by simp[rng]
theorem vz:Gk K Z (Itr lo n) (rng lo n) H O:=fun H' O' ex _=>by
 refine⟨fun i hi=>by rw[yp]at hi;exact hi,fun i d hd=>?_⟩
 obtain⟨h1,rfl⟩:=Ej hd;refine⟨h1,fun x H'' hx=>?_⟩;obtain⟨rfl,rfl⟩:=hx;exact⟨Same.refl _,.int _⟩
def qx:List D->Option Int
 | [.int j]=>some j
 | _=>none
def yq:List D->Option (Int×Int)
 | [.int i,.int j]=>some (i,j)
 | _=>none
def pf(fa:FA):FI:=fun st=>(fa st).bind fun x=>(bG x.2 x.1).bind fun ds=>(qx ds).bind fun j=>if -(2 ^ 62)<=j/\j<2 ^ 62 then some (rng 0 j.toNat,x.2) else none
theorem iW(h:RdA K ta fa):RdI K (zS ta) (pf fa):=by
 intro st σ H O Z R E items st' e q;refine bsP e fun rs st1 e1 e=>?_;refine bsO e fun ds e2 e=>?_;refine bsO e fun j e3 e=>?_;obtain⟨hc,e⟩:=aB e;cases e;refine h st σ H O Z _ E rs _ e1 fun vs H1 O1 x1 k1 E1 rvs=>?_;have bs:=rvs.bas E1 e2;have ed:ds=[.int j]:=by
  unfold qx at e3;split at e3
  ·cases e3;rfl
  ·cases e3
 subst ed;cases bs with
 | cons b1 b2 =>
  cases b2;obtain rfl:=(show _=V.int j from b1);exact⟨j,rfl,hc.1,hc.2,q _ H1 O1 x1 k1 E1 vz⟩
def ph(x:Str):List D:=x.cps.toList.map fun c=>D.str ⟨#[c]⟩
def fIS(fe:FE):FI:=fun st=>(fe st).bind fun x=>match cont x.2 x.1 with
 | some (.str z)=>some (ph z,x.2)
 | _=>none
theorem Ek(h:RdE K te fe):RdI K (Eb te) (fIS fe):=by
 intro st σ H O Z R E items st' e q;refine bsP e fun r st1 e1 e=>?_;refine h st σ H O Z _ E r st1 e1 fun v H1 O1 x1 k1 E1 rv w1=>?_;dsimp only at e;split at e
 ·rename_i z ez
  cases e;have ev:v=.str z:=rv.ba E1 ez;refine⟨z,ev,q _ H1 O1 x1 k1 E1 fun H' O' ex _=>⟨fun i hi=>?_,fun i d hd=>?_⟩⟩
  ·show z.cps.size<=i;simpa[ph]using hi
  ·unfold ph at hd;rw[Xb]at hd;obtain⟨c,hc,rfl⟩:=Qd.mp hd;have hc':z.cps[i]?=some c:=by simpa using hc
   refine⟨(Vg.mp hc').1,fun x H'' hx=>?_⟩;obtain⟨rfl,c',h1,rfl⟩:=hx;rw[hc']at h1;cases h1;exact⟨Same.refl _,.str _⟩
 ·cases e
inductive Ot where
 | nx (st:En)|rt (r:Rs) (st:En)|bk (st:En)|ct (st:En)
abbrev FS:=En->Option Ot
def Out(K:Aa)(Z O:AS)(H:Hp)(st:En)(σ:St)(Dn:Ends):Ot->Prop
 | .nx st'=>∀σ' H' O',Ext O H O' H'->Kq st σ st' σ'->ER K st' σ' H' O' Z->Dn.nx σ' H'
 | .rt r st'=>∀v σ' H' O',Ext O H O' H'->Kq st σ st' σ'->ER K st' σ' H' O' Z->RVal K Z st' σ' H' O' v r->Fsh H v r->Dn.rt v H'
 | .bk st'=>∀σ' H' O',Ext O H O' H'->Kq st σ st' σ'->ER K st' σ' H' O' Z->Dn.bk σ' H'
 | .ct st'=>∀σ' H' O',Ext O H O' H'->Kq st σ st' σ'->ER K st' σ' H' O' Z->Dn.ct σ' H'
def RdS(K:Aa)(ts:TS)(F:FS):Prop:=∀(st:En)(σ:St)(H:Hp)(O Z:AS)(Dn:Ends),ER K st σ H O Z->∀o,F st=some o->Out K Z O H st σ Dn o->ts Dn σ H
theorem Out.trans(h:Out K Z O H st σ Dn o)(x:Ext O H O1 H1)(k:Kq st σ st1 σ'):Out K Z O1 H1 st1 σ' Dn o:=by
 cases o with
 | nx s=>exact fun σ2 H2 O2 x2 k2 E2=>h σ2 H2 O2 (x.trans x2) (k.trans k2) E2
 | bk s=>exact fun σ2 H2 O2 x2 k2 E2=>h σ2 H2 O2 (x.trans x2) (k.trans k2) E2
 | ct s=>exact fun σ2 H2 O2 x2 k2 E2=>h σ2 H2 O2 (x.trans x2) (k.trans k2) E2
 | rt r s=>exact fun v σ2 H2 O2 x2 k2 E2 rv w=>h v σ2 H2 O2 (x.trans x2) (k.trans k2) E2 rv (w.back x)
def cb:FS:=fun st=>some (.nx st)
theorem bJ:RdS K zQ cb:=by
 intro st σ H O Z Dn E o e q;cases e;exact q σ H O (Ext.refl _ _) (Kq.refl _ _) E
def aK(F G:FS):FS:=fun st=>(F st).bind fun o=>match o with
 | .nx s=>G s
 | o=>some o
theorem az(h1:RdS K t F)(h2:RdS K u G):RdS K (xW t u) (aK F G):=by
 intro st σ H O Z Dn E o e q;refine bsO e fun o1 e1 e=>?_;refine h1 st σ H O Z _ E o1 e1 ?_;cases o1 with
 | nx s=>exact fun σ1 H1 O1 x1 k1 E1=>h2 s σ1 H1 O1 Z Dn E1 o e (q.trans x1 k1)
 | bk s=>cases e;exact q
 | ct s=>cases e;exact q
 | rt r s=>cases e;exact q
def cP(fe:FE):FS:=fun st=>(fe st).bind fun x=>some (.nx x.2)
theorem bX(h:RdE K te fe):RdS K (uV te) (cP fe):=by
 intro st σ H O Z Dn E o e q;refine bsP e fun r st1 e1 e=>?_;cases e;exact h st σ H O Z _ E r st1 e1 fun v H1 O1 x1 k1 E1 rv w1=>q σ H1 O1 x1 k1.kq E1
def bT(fe:FE):FS:=fun st=>(fe st).bind fun x=>some (.rt x.1 x.2)
theorem aU(h:RdE K te fe):RdS K (F6 te) (bT fe):=by
 intro st σ H O Z Dn E o e q;refine bsP e fun r st1 e1 e=>?_;cases e;exact h st σ H O Z _ E r st1 e1 fun v H1 O1 x1 k1 E1 rv w1=>q v σ H1 O1 x1 k1.kq E1 rv w1
def sIf(f:FT)(F G:FS):FS:=fun st=>(f st).bind fun x=>if x.1=true then F x.2 else G x.2
theorem cB(hc:RdT K c f)(h1:RdS K t F)(h2:RdS K u G):RdS K (DG c t u) (sIf f F G):=by
 intro st σ H O Z Dn E o e q;refine bsP e fun b st1 e1 e=>?_;refine hc st σ H O Z _ E b st1 e1 fun H1 O1 x1 k1 E1=>?_;cases b with
 | true =>
  rw[Ad rfl]at e ⊢;exact h1 st1 σ H1 O1 Z Dn E1 o e (q.trans x1 k1.kq)
 | false =>
  simp only[Zf,if_false]at e ⊢;exact h2 st1 σ H1 O1 Z Dn E1 o e (q.trans x1 k1.kq)
def aR(fe:FE)(i:Nat):FS:=fun st=>(fe st).bind fun x=>match x.1 with
 | .d y=>(iT i (.v y) x.2).bind fun s=>some (.nx s)
 | .f y=>(iT i (.o y) x.2).bind fun s=>some (.nx s)
 | .s j=>(esc (.s j) x.2).bind fun y=>(iT i (.v y.1) y.2).bind fun s=>some (.nx s)
theorem aD(h:RdE K te fe):RdS K (qg te (jV i)) (aR fe i):=by
 intro st σ H O Z Dn E o e q;refine bsP e fun r st1 e1 e=>?_;refine h st σ H O Z _ E r st1 e1 fun v H1 O1 x1 k1 E1 rv w1=>?_;show Dn.nx (σ.set i (some v)) H1;cases r with
 | d y =>
  refine bsO e fun s e2 e=>?_;cases e;obtain⟨t,f1,f2,rfl⟩:=iU e2;exact q _ H1 O1 x1 (k1.kq.trans (kY f1 f2)) (E1.asg f1 rv)
 | f y =>
  refine bsO e fun s e2 e=>?_;cases e;obtain⟨t,f1,f2,rfl⟩:=iU e2;obtain⟨p,rfl,np,nz,ho,E2⟩:=rv;have hp:H p=none:=w1 p rfl;exact q _ H1 (ins p O1) ⟨x1.kp,fun b z=>z.elim (fun y=>by rw[y];exact .inr hp) (x1.nw b),x1.al,x1.lv⟩ (k1.kq.trans (kY f1 f2)) (E1.asgF E2 np f1 ho)
 | s j =>
  refine bsP e fun d st2 e2 e=>?_;refine bsO e fun s e3 e=>?_;cases e;obtain⟨O2,x2,k2,E2,da⟩:=rv.esc E1 e2;obtain⟨t,f1,f2,rfl⟩:=iU e3;exact q _ H1 O2 (x1.trans x2) ((k1.kq.trans k2.kq).trans (kY f1 f2)) (E2.asg f1 da)
end
end VF
namespace VF
open PySem L2
section
variable {K:Aa}{Y Y' O O' O1 O2 Z:AS}{H H' H1 H2:Hp}{v:V}{d:D}{vs:List V}{ds:List D}{a p:Addr}{st st' st1 st2:En}{σ σ':St}
def ie(fg:FG)(B:FS):List D->FS
 | [],st=>some (.nx st)
 | x::r,st=>(fg x st).bind fun s1=>(B s1).bind fun o=>match o with
  | .nx s2=>ie fg B r s2
  | .ct s2=>ie fg B r s2
  | .bk s2=>some (.nx s2)
  | .rt y s2=>some (.rt y s2)
def iy(fi:FI)(fg:FG)(B:FS):FS:=fun st=>(fi st).bind fun x=>ie fg B x.1 x.2
theorem dE(hi:RdI K wi fi)(hg:RdG K g fg tg)(hb:RdS K tb B):RdS K (F9 wi g tb) (iy fi fg B):=by
 intro st σ H O Z Dn E o e q;refine bsP e fun items st1 e1 e=>?_;refine hi st σ H O Z _ E items st1 e1 fun J H1 O1 x1 k1 E1 it=>?_;have q1:=q.trans x1 (k1.kq (σ:=σ));refine⟨fun i m σ' H'=>m=items.length-i/\i<=items.length/\∃s O',Ext O1 H1 O' H'/\Kq st1 σ s σ'/\ER K s σ' H' O' Z/\ie fg B (items.drop i) s=some o,⟨items.length,by simp,Wm _,st1,O1,Ext.refl _ _,Kq.refl _ _,E1,e⟩,?_⟩
 rintro i m σ' H' ⟨rfl,hle,s,O',x2,k2,E2,e2⟩;obtain⟨stop,go⟩:=it H' O' x2 E2.liv;by_cases hlt:i<items.length
 ·right;have hd:items.drop i=items[i]::items.drop (i+1):=Ym hlt;rw[hd]at e2;refine bsO e2 fun s1 e3 e2=>?_;refine bsO e2 fun o1 e4 e2=>?_;obtain⟨g1,g2⟩:=go i _ (Za hlt);refine⟨g1,fun σ3 H3=>∃s O3,Ext O1 H1 O3 H3/\Kq st1 σ s σ3/\ER K s σ3 H3 O3 Z/\ie fg B (items.drop (i+1)) s=some o,fun σ3 H3 ⟨s3,O3,x3,k3,E3,e3'⟩=>⟨items.length-(i+1),by lia,rfl,hlt,s3,O3,x3,k3,E3,e3'⟩,fun x H'' hy=>?_⟩
  obtain⟨sm,da⟩:=g2 x H'' hy;have xm:Ext O' H' O' H'':=Same.ext sm;refine hg s σ' H'' O' Z x _ _ (E2.same sm) da s1 e3 fun σ4 _ k4 E4=>?_;refine hb s1 σ4 H'' O' Z _ E4 o1 e4 ?_;have xx:=x2.trans xm;cases o1 with
  | nx s2=>exact fun σ5 H5 O5 x5 k5 E5=>⟨s2,O5,xx.trans x5,(k2.trans k4).trans k5,E5,e2⟩
  | ct s2=>exact fun σ5 H5 O5 x5 k5 E5=>⟨s2,O5,xx.trans x5,(k2.trans k4).trans k5,E5,e2⟩
  | bk s2 =>
   cases e2;exact fun σ5 H5 O5 x5 k5 E5=>q1 σ5 H5 O5 (xx.trans x5) ((k2.trans k4).trans k5) E5
  | rt y s2 =>
   cases e2;exact fun v σ5 H5 O5 x5 k5 E5 rv w=>q1 v σ5 H5 O5 (xx.trans x5) ((k2.trans k4).trans k5) E5 rv (w.back xx)
 ·left;have hn:items.drop i=[]:=CJ (by lia)
  rw[hn]at e2;cases e2;exact⟨stop i (by lia),q1 σ' H' O' x2 k2 E2⟩
structure RdM(K:Aa)(T:String)(r:V->List V->Hp->VK->Prop)(ok:D->Bool)(m:D->List D->Option (D×D)):Prop where
 ty:∀(Y:AS)(H:Hp)(p:Addr)(x:D),OA K Y H p x->ok x=true->tyV K T (.ref p) H
 run:∀(Y:AS)(H:Hp)(p:Addr)(x:D)(vs:List V)(ds:List D)(y x':D)(Q:VK),Y p->OA K Y H p x->El K Y H vs ds->m x ds=some (y,x') ->
  (∀v o,DA K Y (upd H p o) v y->OA K Y (upd H p o) p x'->Q v (upd H p o))->r (.ref p) vs H Q
def fM(ok:D->Bool)(m:D->List D->Option (D×D))(i:Nat)(fa:FA):FE:=fun st=>(st[i]?).bind fun s0=>(s0.ow).bind fun x0=>if ok x0=true then(fa st).bind fun x=>(bz x.1 x.2).bind fun y=>(y.2[i]?).bind fun s=>(s.ow).bind fun d=>(m d y.1).bind fun z=>some (.d z.1,y.2.set i (s.put z.2)) else none
theorem jA(hm:RdM K T r ok m)(ha:RdA K ta fa):RdE K (tBM K T r (kM i) ta) (fM ok m i fa):=by
 intro st σ H O Z Q E r0 st' h q;refine bsO h fun s0 f1 h=>?_;refine bsO h fun x0 f2 h=>?_;obtain⟨hok,h⟩:=aB h;refine bsP h fun rs st1 e1 h=>?_;refine bsP h fun ds st2 e2 h=>?_;refine bsO h fun s e3 h=>?_;refine bsO h fun x e4 h=>?_;refine bsP h fun y x' e5 h=>?_;cases h;obtain⟨p,g1,g2,g3⟩:=E.own i s0 x0 f1 f2;refine⟨.ref p,g1,hm.ty _ _ _ _ g3 hok,?_⟩;refine ha st σ H O Z _ E rs st1 e1 fun vs H1 O1 x1 k1 E1 rvs=>?_;obtain⟨O2,x2,k2,E2,el⟩:=rvs.esc E1 e2;obtain⟨p',j1,j2,j3⟩:=E2.own i s x e3 e4;have ep:p'=p:=by rw[g1]at j1;cases j1;rfl
 subst ep;refine hm.run (U O2 Z) H1 p' x vs ds y x' _ (.inl j2) j3 el e5 fun v o da ho=>?_;obtain⟨E3,x3,k3⟩:=E2.write e3 e4 g1 ho;exact q v _ O2 ((x1.trans x2).trans x3) ((k1.trans k2).trans k3) E3 da True.intro
def vA(K:Aa)(t:xX)(m:D->D->D->Option D):Prop:=∀(Y:AS)(H:Hp)(p:Addr)(x:D)(k v:V)(dk dv x':D)(Q:Hp->Prop),Y p->OA K Y H p x->BA K Y H k dk->DA K Y H v dv->m x dk dv=some x' ->
 (∀o,OA K Y (upd H p o) p x'->Q (upd H p o))->t (.ref p) k v H Q
def nZ(m:D->D->D->Option D)(fe:FE)(i:Nat)(fi:FE):FS:=fun st=>(fe st).bind fun x=>(esc x.1 x.2).bind fun y=>(y.2[i]?).bind fun s0=>(s0.ow).bind fun _=>(fi y.2).bind fun w=>(cont w.2 w.1).bind fun dk=>(w.2[i]?).bind fun s=>(s.ow).bind fun z=>(m z dk y.1).bind fun z'=>some (.nx (w.2.set i (s.put z')))
theorem jB(hm:vA K t m)(he:RdE K te fe)(hi:RdE K ti fi):RdS K (qg te (F8 (kM i) ti t)) (nZ m fe i fi):=by
 intro st σ H O Z Dn E o e q;refine bsP e fun r st1 e1 e=>?_;refine bsP e fun dv st2 e2 e=>?_;refine bsO e fun s0 e3 e=>?_;refine bsO e fun x0 e4 e=>?_;refine bsP e fun rk st3 e5 e=>?_;refine bsO e fun dk e6 e=>?_;refine bsO e fun s e7 e=>?_;refine bsO e fun x e8 e=>?_;refine bsO e fun x' e9 e=>?_;cases e;refine he st σ H O Z _ E r st1 e1 fun v H1 O1 x1 k1 E1 rv w1=>?_;obtain⟨O2,x2,k2,E2,da⟩:=rv.esc E1 e2;obtain⟨p,g1,g2,g3⟩:=E2.own i s0 x0 e3 e4;refine⟨.ref p,g1,?_⟩;refine hi st2 σ H1 O2 Z _ E2 rk st3 e5 fun k H3 O3 x3 k3 E3 rk' w3=>?_;obtain⟨p',j1,j2,j3⟩:=E3.own i s x e7 e8;have ep:p'=p:=by rw[g1]at j1;cases j1;rfl
 subst ep;refine hm (U O3 Z) H3 p' x k v dk dv x' _ (.inl j2) j3 (rk'.ba E3 e6) (da.ext x3) e9 fun o ho=>?_;obtain⟨E4,x4,k4⟩:=E3.write e7 e8 g1 ho;exact q σ _ O3 (((x1.trans x2).trans x3).trans x4) (((k1.trans k2).trans k3).trans k4).kq E4
def hX(k:Nat)(caps:List Nat)(st:En):En:=List.replicate k Sl.e++caps.map fun i=>(st[i]?).getD .e
def rst(k:Nat)(s:En):En:=List.replicate k Sl.e++s.drop k
def wb:List Nat->En->En->En
 | i::r,s::sb,st=>wb r sb (st.set i s)
 | _,_,st=>st
def dL(fg:FG)(fc:FT)(fe:FE)(k:Nat):List D->En->Option (List D×En)
 | [],sb=>some ([],sb)
 | x::r,sb=>(fg x sb).bind fun s1=>(fc s1).bind fun c=>if c.1=true then(fe c.2).bind fun y=>(esc y.1 y.2).bind fun w=>(dL fg fc fe k r (rst k w.2)).bind fun z=>some (w.1::z.1,z.2)
  else dL fg fc fe k r (rst k c.2)
def n4(caps:List Nat)(n:Nat):Bool:=decide caps.Nodup&&caps.all fun i=>decide (i<n)
def fG(k:Nat)(caps:List Nat)(fi:FI)(fg:FG)(fc:FT)(fe:FE):FE:=fun st=>(fi st).bind fun x=>if (n4 caps x.2.length&&decide (x.1.length<=1000000))=true then(dL fg fc fe k x.1 (hX k caps x.2)).bind fun y=>some (.f (.lst y.1),wb caps (y.2.drop k) x.2) else none
theorem qy:∀(caps:List Nat)(sb st:En),(wb caps sb st).length=st.length
 | [],_,_=>by simp[wb]
 | _::_,[],_=>by simp[wb]
 | i::r,s::sb,st=>by rw[wb,qy r sb];simp
theorem kZ:∀(caps:List Nat)(sb st:En){i:Nat},i∉caps->(wb caps sb st)[i]?=st[i]?
 | [],_,_,_,_=>by simp[wb]
 | _::_,[],_,_,_=>by simp[wb]
 | j::r,s::sb,st,i,h=>by
  rw[wb,kZ r sb _ (fun z=>h (Zc _ z))];exact ax fun z=>h (by rw[z];simp)
theorem vB:∀(caps:List Nat)(sb st:En){j i:Nat},caps.Nodup->sb.length=caps.length->caps[j]?=some i->i<st.length->(wb caps sb st)[i]?=sb[j]?
 | [],_,_,_,_,_,_,h,_=>by simp at h
 | _::_,[],_,_,_,_,h,_,_=>by simp at h
 | c::r,s::sb,st,0,i,nd,hl,h,hi=>by
  have e:c=i:=by simpa using h
  subst e;rw[wb,kZ r sb _ (Xf.mp nd).1];rw[Zm,Ad rfl,Ad hi];rfl
 | c::r,s::sb,st,j+1,i,nd,hl,h,hi=>by
  rw[wb,vB r sb _ (j:=j) (Xf.mp nd).2 (by simpa using hl) (by simpa using h) (by simpa using hi)];rfl
theorem rW(h:caps[j]?=some i):(hX k caps st)[k+j]?=some ((st[i]?).getD .e):=by
 unfold hX;rw[Wd (by simp),Zi,Cy,Xb,h];rfl
theorem iX{s:Sl}(h:(hX k caps st)[i]?=some s)(n:s.get≠none):∃j i',i=k+j/\caps[j]?=some i'/\st[i']?=some s:=by
 unfold hX at h;by_cases hi:i<k
 ·rw[Ze (by simpa using hi),Yj,Ad hi]at h
  cases h;exact absurd rfl n
 ·rw[Wd (by simpa using hi),Zi,Xb]at h
  refine⟨i-k,?_⟩;obtain⟨i',e1,e2⟩:=Qd.mp h;refine⟨i',by lia,e1,?_⟩
  cases q:st[i']? with
  | none=>rw[q]at e2;subst e2;exact absurd rfl n
  | some t=>rw[q]at e2;subst e2;rfl
theorem iz(h:caps[j]?=some i):(blk k caps σ)[k+j]?=some ((σ[i]?).getD none):=by
 unfold blk;rw[Wd (by simp),Zi,Cy,Xb,h];rfl
theorem gA{s:Sl}(h:s.ow=some d):s.get≠none:=by cases s<;>first|(cases h;done)|simp[Sl.get]
theorem vC{l:List Nat}{j j' i:Nat}(nd:l.Nodup)(h:l[j]?=some i)(h':l[j']?=some i):j=j':=by
 obtain⟨h1,h2⟩:=Va.mp h;obtain⟨h3,h4⟩:=Va.mp h';exact(List.getElem_inj nd).mp (h2.trans h4.symm)
def Ob(caps:List Nat)(st:En)(σ:St):AS:=fun p=>∃i∈caps,∃s d,st[i]?=some s/\s.ow=some d/\σ[i]?=some (some (.ref p))
def Zb(caps:List Nat)(st:En)(σ:St)(O Z:AS):AS:=fun p=>Z p∨(O p/\¬ Ob caps st σ p)
theorem Ob.o(E:ER K st σ H O Z)(h:Ob caps st σ q):O q:=by
 obtain⟨i,_,s,d,h1,h2,h3⟩:=h;obtain⟨p,g1,g2,_⟩:=E.own i s d h1 h2;rw[h3]at g1;cases g1;exact g2
theorem Em{k:Nat}{caps:List Nat}(E:ER K st σ H O Z)(nd:caps.Nodup):ER K (hX k caps st) (blk k caps σ) H (Ob caps st σ) (Zb caps st σ O Z):=by
 have up:∀b,U (Ob caps st σ) (Zb caps st σ O Z) b->U O Z b:=fun b z=>z.elim (fun y=>.inl (Ob.o E y)) fun y=>y.elim .inr fun w=>.inl w.1;refine⟨by simp[hX,blk],fun i d h=>?_,fun i s d h1 h2=>?_,fun i j s t d d' p h1 h2 h3 h4 h5 h6=>?_,fun p h z=>?_,fun p h=>E.liv p (up p h)⟩
 ·obtain⟨j,i',rfl,hc,hs⟩:=iX h (by simp[Sl.get])
  obtain⟨v,g1,g2⟩:=E.val i' d hs;exact⟨v,by rw[iz hc,g1];rfl,g2.less up⟩
 ·obtain⟨j,i',rfl,hc,hs⟩:=iX h1 (gA h2);obtain⟨p,g1,g2,g3⟩:=E.own i' s d hs h2;exact⟨p,by rw[iz hc,g1];rfl,⟨i',Yd hc,s,d,hs,h2,g1⟩,g3.go rfl (fun _ _ e _=>e) fun b z=>.inl (up b z)⟩
 ·obtain⟨j1,i1,rfl,c1,s1⟩:=iX h1 (gA h2);obtain⟨j2,i2,rfl,c2,s2⟩:=iX h3 (gA h4);obtain⟨p1,g1,_⟩:=E.own i1 s d s1 h2;obtain⟨p2,g2,_⟩:=E.own i2 t d' s2 h4;rw[iz c1,g1]at h5;rw[iz c2,g2]at h6;have e1:p1=p:=by simpa using h5
  have e2:p2=p:=by simpa using h6
  subst e1;subst e2;have e:=E.uni i1 i2 s t d d' _ s1 h2 s2 h4 g1 g2;subst e;rw[vC nd c1 c2]
 ·rcases z with z|z
  ·exact E.dis p (Ob.o E h) z
  ·exact z.2 h
theorem vD{τ τ':St}(E:ER K st τ H O Z)(hl:τ'.length=τ.length)(hk:k<=st.length)(h:∀j,k<=j->τ'[j]?=τ[j]?):ER K (rst k st) τ' H O Z:=by
 have at_:∀(i:Nat) s,(rst k st)[i]?=some s->s.get≠none->k<=i/\st[i]?=some s:=fun i s e n=>by
  unfold rst at e;by_cases hi:i<k
  ·rw[Ze (by simpa using hi),Yj,Ad hi]at e
   cases e;exact absurd rfl n
  ·rw[Wd (by simpa using hi),Zi,Xh]at e
   have:k+(i-k)=i:=by lia
   rw[this]at e;exact⟨by lia,e⟩
 refine⟨?_,fun i d e=>?_,fun i s d e1 e2=>?_,fun i j s t d d' p e1 e2 e3 e4 e5 e6=>?_,E.dis,E.liv⟩
 ·rw[hl,← E.len];simp[rst];lia
 ·obtain⟨hk,e⟩:=at_ i _ e (by simp[Sl.get])
  obtain⟨v,g1,g2⟩:=E.val i d e;exact⟨v,by rw[h i hk];exact g1,g2⟩
 ·obtain⟨hk,e⟩:=at_ i _ e1 (gA e2);obtain⟨p,g1,g2⟩:=E.own i s d e e2;exact⟨p,by rw[h i hk];exact g1,g2⟩
 ·obtain⟨hk1,e1⟩:=at_ i _ e1 (gA e2);obtain⟨hk2,e3⟩:=at_ j _ e3 (gA e4);rw[h i hk1]at e5;rw[h j hk2]at e6;exact E.uni i j s t d d' p e1 e2 e3 e4 e5 e6
def Oo(caps:List Nat)(st:En)(σ:St)(O Oi:AS):AS:=fun p=>Oi p∨(O p/\¬ Ob caps st σ p)
theorem qz(E:ER K st σ H O Z)(x:Ext (Ob caps st σ) H Oi H'):Ext O H (Oo caps st σ O Oi) H' :=
 ⟨fun b o e n=>x.kp b o e fun z=>n (Ob.o E z),fun b z=>z.elim (fun y=>(x.nw b y).elim (fun w=>.inl (Ob.o E w)) .inr) fun y=>.inl y.1,x.al,x.lv⟩
theorem vE{caps:List Nat}{sb:En}(E:ER K st σ H O Z)(nd:caps.Nodup)(lt:∀i∈caps,i<st.length)(hl:sb.length=k+caps.length)(x:Ext (Ob caps st σ) H Oi H')(B:ER K sb (blk k caps σ) H' Oi (Zb caps st σ O Z)) :
  ER K (wb caps (sb.drop k) st) σ H' (Oo caps st σ O Oi) Z:=by
 have dl:(sb.drop k).length=caps.length:=by rw[Vm];lia
 have cap:∀(j i:Nat),caps[j]?=some i->(wb caps (sb.drop k) st)[i]?=sb[k+j]?:=fun j i h=>by
  rw[vB caps _ st nd dl h (lt i (Yd h)),Xh]
 have out:∀i,i∉caps->(wb caps (sb.drop k) st)[i]?=st[i]?:=fun i h=>kZ caps _ st h;have same:∀b,U (Oo caps st σ O Oi) Z b->U Oi (Zb caps st σ O Z) b:=fun b z=>by
  rcases z with(z|z)|z
  ·exact .inl z
  ·exact .inr (.inr z)
  ·exact .inr (.inl z)
 have kp:∀b o,H b=some o->¬ U O Z b->H' b=some o:=fun b o e n=>x.kp b o e fun z=>n (.inl (Ob.o E z));have nn:∀b,U (Oo caps st σ O Oi) Z b->U O Z b∨H b=none:=fun b z=>by
  rcases z with z|z
  ·exact((qz E x).nw b z).elim (fun y=>.inl (.inl y)) .inr
  ·exact .inl (.inr z)
 have nob:∀(i:Nat) s d p,i∉caps->st[i]?=some s->s.ow=some d->σ[i]?=some (some (.ref p))->¬ Ob caps st σ p:=fun i s d p hn h1 h2 h3 z=>by
  obtain⟨i0,hm,s0,d0,g1,g2,g3⟩:=z;have:=E.uni i i0 s s0 d d0 p h1 h2 g1 g2 h3 g3;subst this;exact hn hm
 have bget:∀{j i:Nat}{v:V},caps[j]?=some i->(blk k caps σ)[k+j]?=some (some v)->σ[i]?=some (some v):=fun {j i v} hc hb=>by
  rw[iz hc]at hb;have hb':=Option.some.inj hb;cases q:σ[i]? with
  | none=>rw[q]at hb';cases hb'
  | some w=>rw[q]at hb';have:w=some v:=hb';rw[this]
 have own:∀(i:Nat) s d,(wb caps (sb.drop k) st)[i]?=some s->s.ow=some d->(∃j,caps[j]?=some i/\sb[k+j]?=some s)∨(i∉caps/\st[i]?=some s):=fun i s d h1 _=>by
  by_cases hc:i∈caps
  ·obtain⟨j,hj⟩:=AY hc;rw[cap j i hj]at h1;exact .inl ⟨j,hj,h1⟩
  ·rw[out i hc]at h1;exact .inr ⟨hc,h1⟩
 refine⟨by rw[qy];exact E.len,fun i d h=>?_,fun i s d h1 h2=>?_,fun i j s t d d' p h1 h2 h3 h4 h5 h6=>?_,fun p h=>?_,fun p h=>?_⟩
 ·by_cases hc:i∈caps
  ·obtain⟨j,hj⟩:=AY hc;rw[cap j i hj]at h;obtain⟨v,g1,g2⟩:=B.val _ d h;exact⟨v,bget hj g1,g2.less same⟩
  ·rw[out i hc]at h;obtain⟨v,g1,g2⟩:=E.val i d h;exact⟨v,g1,g2.go kp nn⟩
 ·rcases own i s d h1 h2 with⟨j,hj,hs⟩|⟨hc,hs⟩
  ·obtain⟨p,g1,g2,g3⟩:=B.own _ s d hs h2;exact⟨p,bget hj g1,.inl g2,g3.go rfl (fun _ _ e _=>e) fun b z=>.inl (same b z)⟩
  ·obtain⟨p,g1,g2,g3⟩:=E.own i s d hs h2;have nb:=nob i s d p hc hs h2 g1;refine⟨p,g1,.inr ⟨g2,nb⟩,g3.go ?_ kp nn⟩;cases q:H p with
   | none=>exact absurd q g3.live
   | some o=>exact x.kp p o q nb
 ·rcases own i s d h1 h2 with⟨j1,c1,s1⟩|⟨c1,s1⟩<;>rcases own j t d' h3 h4 with⟨j2,c2,s2⟩|⟨c2,s2⟩
  ·have e:=B.uni _ _ s t d d' p s1 h2 s2 h4 (by rw[iz c1,h5];rfl) (by rw[iz c2,h6];rfl)
   have e':j1=j2:=by lia
   subst e';rw[c1]at c2;exact Option.some.inj c2
  ·exfalso
   obtain⟨q,g1,g2,_⟩:=B.own _ s d s1 h2;have:=bget c1 g1;rw[h5]at this;cases this;have nb:=nob j t d' p c2 s2 h4 h6;obtain⟨q2,k1,_,k3⟩:=E.own j t d' s2 h4;rw[h6]at k1;cases k1;exact(x.nw p g2).elim nb k3.live
  ·exfalso
   obtain⟨q,g1,g2,_⟩:=B.own _ t d' s2 h4;have:=bget c2 g1;rw[h6]at this;cases this;have nb:=nob i s d p c1 s1 h2 h5;obtain⟨q2,k1,_,k3⟩:=E.own i s d s1 h2;rw[h5]at k1;cases k1;exact(x.nw p g2).elim nb k3.live
  ·exact E.uni i j s t d d' p s1 h2 s2 h4 h5 h6
 ·rcases h with h|h
  ·exact fun z=>B.dis p h (.inl z)
  ·exact E.dis p h.1
 ·rcases h with(h|h)|h
  ·exact B.liv p (.inl h)
  ·exact x.lv p (E.liv p (.inl h.1))
  ·exact x.lv p (E.liv p (.inr h))
theorem vF{a b:En}(h0:∀(i:Nat) s,a[i]?=some s->i<k->s=.e)(h:Kp a b)(hk:k<=b.length):Kp a (rst k b):=by
 have lk:(rst k b).length=b.length:=by simp[rst];lia
 have at_:∀i,k<=i->(rst k b)[i]?=b[i]?:=fun i hi=>by
  unfold rst;rw[Wd (by simpa using hi),Zi,Xh]
  congr 1;lia
 refine⟨lk.trans h.len,fun i s e g=>?_,fun i d e=>?_⟩
 ·by_cases hi:i<k
  ·have:=h0 i s e hi;subst this;exact absurd rfl g
  ·obtain⟨s',e',g'⟩:=h.has i s e g;exact⟨s',by rw[at_ i (by lia)];exact e',g'⟩
 ·by_cases hi:i<k
  ·have:=h0 i _ e hi;cases this
  ·obtain⟨d',e'⟩:=h.io i d e;exact⟨d',by rw[at_ i (by lia)];exact e'⟩
theorem Gm{caps:List Nat}{sb:En}(nd:caps.Nodup)(lt:∀i∈caps,i<st.length)(hl:sb.length=k+caps.length)(h:Kp (hX k caps st) sb):Kp st (wb caps (sb.drop k) st):=by
 have dl:(sb.drop k).length=caps.length:=by rw[Vm];lia
 have cap:∀(j i:Nat),caps[j]?=some i->(wb caps (sb.drop k) st)[i]?=sb[k+j]?:=fun j i h=>by
  rw[vB caps _ st nd dl h (lt i (Yd h)),Xh]
 refine⟨qy _ _ _,fun i s e g=>?_,fun i d e=>?_⟩
 ·by_cases hc:i∈caps
  ·obtain⟨j,hj⟩:=AY hc;rw[cap j i hj];exact h.has (k+j) s (by rw[rW hj,e];rfl) g
  ·exact⟨s,by rw[kZ _ _ _ hc];exact e,g⟩
 ·by_cases hc:i∈caps
  ·obtain⟨j,hj⟩:=AY hc;rw[cap j i hj];exact h.io (k+j) d (by rw[rW hj,e];rfl)
  ·exact⟨d,by rw[kZ _ _ _ hc];exact e⟩
theorem n5(i:Nat)(s:Sl)(h:(hX k caps st)[i]?=some s)(hi:i<k):s=.e:=by
 unfold hX at h;rw[Ze (by simpa using hi),Yj,Ad hi]at h
 exact(Option.some.inj h).symm
def ItC(K:Aa)(Z:AS)(caps:List Nat)(st:En)(σ:St)(J:It)(items:List D)(H:Hp)(O:AS):Prop:=∀H' Oi,Ext (Ob caps st σ) H Oi H'->(∀p,U (Oo caps st σ O Oi) Z p->Lv H' p)->(∀i,items.length<=i->J.stop i H')/\∀(i:Nat) d,items[i]?=some d->J.go i H'/\∀x H'',J.yld i H' x H''->Same H' H''/\DA K (U (Oo caps st σ O Oi) Z) H'' x d
def Gn(K:Aa)(caps:List Nat)(wi:TI)(fi:FI):Prop:=∀(st:En)(σ:St)(H:Hp)(O Z:AS)(R:It->Hp->Prop),ER K st σ H O Z->∀items st',fi st=some (items,st') ->
 (∀J H' O',Ext O H O' H'->Kp st st'->ER K st' σ H' O' Z->ItC K Z caps st' σ J items H' O'->R J H')->wi σ H R
theorem RdI.ic(h:RdI K wi fi):Gn K caps wi fi:=fun st σ H O Z R E items st' e q =>
 h st σ H O Z R E items st' e fun J H1 O1 x1 k1 E1 it=>q J H1 O1 x1 k1 E1 fun H' Oi x2 lv=>it H' _ (qz E1 x2) lv
theorem vG(hi:Gn K caps wi fi)(hg:RdG K g fg tg)(ht:∀j∈tg,j<k)(hc:RdT K tc fc)(he:RdE K te fe) :
  RdE K (mX k caps wi g tc te) (fG k caps fi fg fc fe):=by
 intro st σ H O Z Q E r st' h q;refine bsP h fun items st1 e1 h=>?_;by_cases hok:(n4 caps st1.length&&decide (items.length<=1000000))=true
 rotate_left
 ·simp only[Ag hok]at h;cases h
 simp only[Ad hok]at h;refine bsP h fun total sf e2 h=>?_;cases h;have hok1:caps.Nodup/\(∀i∈caps,i<st1.length)/\items.length<=1000000:=by
  rw[Zg,decide_eq_true_eq]at hok;unfold n4 at hok;rw[Zg,decide_eq_true_eq,Qm]at hok;exact⟨hok.1.1,fun i hi=>Ak (hok.1.2 i hi),hok.2⟩
 obtain⟨nd,lt,hfew⟩:=hok1;refine hi st σ H O Z _ E items st1 e1 fun J H1 O1 x1 k1 E1 it=>?_;have bl:(blk k caps σ).length=k+caps.length:=by simp[blk]
 have el:(hX k caps st1).length=k+caps.length:=by simp[hX]
 refine⟨items.length,fun i xs H'=>∃sb Oi ds ds2,Ext (Ob caps st1 σ) H1 Oi H'/\ER K sb (blk k caps σ) H' Oi (Zb caps st1 σ O1 Z)/\El K (U Oi (Zb caps st1 σ O1 Z)) H' xs ds/\dL fg fc fe k (items.drop i) sb=some (ds2,sf)/\ds++ds2=total/\Kp (hX k caps st1) sb/\xs.length<=i,
  ⟨hX k caps st1,Ob caps st1 σ,[],total,Ext.refl _ _,Em E1 nd,El.nil,e2,rfl,Kp.refl _,Wa _⟩,?_,?_⟩
 ·rintro xs H' ⟨sb,Oi,ds,ds2,x2,B,exs,e3,ed,kb,_⟩;rw[CJ (Wa _)]at e3;obtain⟨rfl,rfl⟩:([]:List D)=ds2/\sb=sf:=by
   have:=Option.some.inj e3;exact⟨congrArg Prod.fst this,congrArg Prod.snd this⟩
  rw[Qf]at ed;subst ed;obtain⟨stop,_⟩:=it H' Oi x2 (vE E1 nd lt (kb.len.trans el) x2 B).liv;refine⟨stop _ (Wa _),fun p hp=>?_⟩;have sl:sb.length=k+caps.length:=kb.len.trans el;have Eo:=vE E1 nd lt sl x2 B;have ko:=Gm nd lt sl kb;have el2:El K (U (Oo caps st1 σ O1 Oi) Z) H' xs ds:=exs.less fun b z=>by
   rcases z with(z|z)|z
   ·exact .inl z
   ·exact .inr (.inr z)
   ·exact .inr (.inl z)
  obtain⟨E3,rv⟩:=Eo.new hp el2;have xx:=x1.trans (qz E1 x2);exact q _ _ _ (xx.trans (Same.ext (aI hp _))) (k1.trans ko) E3 rv fun p' e=>by cases e;exact xx.dead hp
 ·rintro i xs H' hlt ⟨sb,Oi,ds,ds2,x2,B,exs,e3,ed,kb,hxl⟩;have hd:items.drop i=items[i]::items.drop (i+1):=Ym hlt;rw[hd]at e3;refine bsO e3 fun s1 e4 e3=>?_;refine bsP e3 fun c s2 e5 e3=>?_;obtain⟨_,go⟩:=it H' Oi x2 (vE E1 nd lt (kb.len.trans el) x2 B).liv;obtain⟨g1,g2⟩:=go i _ (Za hlt);refine⟨g1,Xl hxl (Wb hlt (few hfew)),fun x H'' hy=>?_⟩;obtain⟨sm,da⟩:=g2 x H'' hy;have xm:Ext Oi H' Oi H'':=Same.ext sm;have da':DA K (U Oi (Zb caps st1 σ O1 Z)) H'' x items[i]:=da.less fun b z=>by
   rcases z with z|z|z
   ·exact .inl (.inl z)
   ·exact .inr z
   ·exact .inl (.inr z)
  refine hg sb _ H'' Oi _ x _ _ (B.same sm) da' s1 e4 fun τ kt kq3 E4=>?_;have sl:sb.length=k+caps.length:=kb.len.trans el;have tl:τ.length=(blk k caps σ).length:=by rw[← E4.len,kq3.len,sl,bl]
  have tk:∀j,k<=j->(blk k caps σ)[j]?=τ[j]?:=fun j hj=>((kt j fun z=>absurd (ht j z) (by lia)).1).symm
  have drop:τ.drop k=(blk k caps σ).drop k:=by
   refine Xj fun j=>?_;rw[Xh,Xh];exact(tk _ (by lia)).symm
  have kp1:Kp (hX k caps st1) s1:=by
   refine⟨kq3.len.trans kb.len,fun j s e g=>?_,fun j d e=>?_⟩
   ·by_cases hj:j<k
    ·have:=n5 j s e hj;subst this;exact absurd rfl g
    ·obtain⟨s',e',g'⟩:=kb.has j s e g;exact⟨s',by rw[(kt j fun z=>absurd (ht j z) (by lia)).2];exact e',g'⟩
   ·by_cases hj:j<k
    ·have:=n5 j _ e hj;cases this
    ·obtain⟨d',e'⟩:=kb.io j d e;exact⟨d',by rw[(kt j fun z=>absurd (ht j z) (by lia)).2];exact e'⟩
  refine hc s1 τ H'' Oi _ _ E4 c s2 e5 fun H3 O3 x3 k3 E5=>?_;have kp2:=kp1.trans k3;cases c with
  | false =>
   simp only[Zf,if_false]at e3 ⊢;have hs2:k<=s2.length:=by rw[kp2.len,el];lia
   exact⟨drop,rst k s2,O3,ds,ds2,(x2.trans xm).trans x3,vD E5 tl.symm hs2 tk,exs.ext (xm.trans x3),e3,ed,vF n5 kp2 hs2,by lia⟩
  | true =>
   rw[Ad rfl]at e3 ⊢;refine bsP e3 fun ry s3 e6 e3=>?_;refine bsP e3 fun dy s4 e7 e3=>?_;refine bsP e3 fun ds3 sf' e8 e3=>?_;cases e3;refine he s2 τ H3 O3 _ _ E5 ry s3 e6 fun y H4 O4 x4 k4 E6 rv w=>?_;obtain⟨O5,x5,k5,E7,day⟩:=rv.esc E6 e7;have kp3:=(kp2.trans k4).trans k5;have hs4:k<=s4.length:=by rw[kp3.len,el];lia
   refine⟨drop,rst k s4,O5,ds++[dy],ds3,(((x2.trans xm).trans x3).trans x4).trans x5,vD E7 tl.symm hs4 tk,(exs.ext (((xm.trans x3).trans x4).trans x5)).app (El.one day),e8,by rw[Wj];exact ed,vF n5 kp3 hs4,by simp;lia⟩
theorem dO(hi:RdI K wi fi)(hg:RdG K g fg tg)(ht:∀j∈tg,j<k)(hc:RdT K tc fc)(he:RdE K te fe) :
  RdE K (mX k caps wi g tc te) (fG k caps fi fg fc fe):=vG hi.ic hg ht hc he
def eZ(n:Nat)(ds:List D):En:=ds.map Sl.v++List.replicate (n-ds.length) Sl.e
def Ep(st:En):Rs->Option Rz
 | .d x=>some (x,false)
 | .f x=>some (x,true)
 | .s i=>match st[i]? with
  | some (.o x)=>some (x,true)
  | some (.v x)=>some (x,false)
  | _=>none
def fin:Ot->Option Rz
 | .nx _=>some (.non,false)
 | .rt r st=>Ep st r
 | _=>none
def bq(F:FS)(n m:Nat):List D->Option Rz:=fun ds=>if ds.length=m then(F (eZ n ds)).bind fin else none
theorem pi{N:List Str}(el:El K Z H vs ds)(lv:∀p,Z p->Lv H p):ER K (eZ N.length ds) (L2.start N vs) H (fun _=>False) Z:=by
 have gv:∀(i:Nat) s,(eZ N.length ds)[i]?=some s->s.get≠none->∃d,s=.v d/\ds[i]?=some d:=fun i s e n=>by
  unfold eZ at e;by_cases hi:i<ds.length
  ·rw[Ze (by simpa using hi),Xb]at e
   obtain⟨d,h1,h2⟩:=Qd.mp e;exact⟨d,h2.symm,h1⟩
  ·rw[Wd (by simpa using hi),Yj]at e
   by_cases hz:i-(ds.map Sl.v).length<N.length-ds.length
   ·rw[Ad hz]at e;cases e;exact absurd rfl n
   ·rw[Ag hz]at e;cases e
 have no:∀(i:Nat) s d,(eZ N.length ds)[i]?=some s->s.ow=some d->False:=fun i s d e h=>by
  obtain⟨x,rfl,_⟩:=gv i s e (gA h);cases h
 refine⟨by simp[eZ,L2.start,el.1],fun i d e=>?_,fun i s d e h=>(no i s d e h).elim,fun i j s t d d' p e h=>(no i s d e h).elim,fun p h=>h.elim,fun p h=>h.elim (fun z=>z.elim) (lv p)⟩
 obtain⟨x,h1,h2⟩:=gv i _ e (by simp[Sl.get])
 cases h1;obtain⟨v,g1,g2⟩:=el.at h2;refine⟨v,?_,g2.less fun b z=>z.elim (fun y=>y.elim) fun y=>y⟩;unfold L2.start;have hi:=(Va.mp g1).1;rw[Ze (by simpa using hi),Xb,g1];rfl
theorem rX{N:List Str}(h:RdS K ts F)(sp:spV K (bq F N.length m) vs H Q XE):ts { nx:=fun _ H'=>Q .non H',rt:=Q } (L2.start N vs) H:=by
 obtain⟨Z,ds,z,el,lv,e,q⟩:=sp;have hm:ds.length=m:=by
  by_cases hm:ds.length=m
  ·exact hm
  ·simp only[bq,Ag hm]at e;cases e
 simp only[bq,Ad hm]at e;refine bsO e fun o e1 e2=>?_;have same:∀{O':AS}{H':Hp},Ext (fun _=>False) H O' H'->Same H H':=fun {O' H'} x b o e=>x.kp b o e fun z=>z;refine h _ _ H _ Z _ (pi el lv) o e1 ?_;cases o with
 | nx s =>
  cases e2;exact fun σ' H' O' x _ _=>q .non H' (same x) .non
 | bk s=>cases e2
 | ct s=>cases e2
 | rt r s =>
  intro v σ' H' O' x k E rv w;have sub:∀b,Z b->U O' Z b:=fun b z=>.inr z;cases r with
  | d y=>cases e2;exact q v H' (same x) (DA.less (show DA K (U O' Z) H' v y from rv) sub)
  | f y =>
   cases e2;obtain⟨p,rfl,h1,h2,h3,_⟩:=rv;exact q _ H' (same x) ⟨p,rfl,w p rfl,h3.go rfl (fun _ _ e _=>e) fun b z=>.inl (z.elim .inl fun y=>.inr (.inr y))⟩
  | s i =>
   obtain⟨h1,t,h2,h3⟩:=rv
   have e2':(match s[i]? with
    | some (.o x)=>some (x,true)
    | some (.v x)=>some (x,false)
    | _=>none)=some z:=e2
   rw[h2]at e2';cases t with
   | e=>cases e2'
   | io y=>cases e2'
   | v y =>
    cases e2';obtain⟨u,g1,g2⟩:=E.val i y h2;rw[h1]at g1;cases g1;exact q v H' (same x) (g2.less sub)
   | o y =>
    cases e2';obtain⟨p,g1,g2,g3⟩:=E.own i _ y h2 rfl;rw[h1]at g1;cases g1;refine q _ H' (same x) ⟨p,rfl,(x.nw p g2).elim (fun z=>z.elim) (fun z=>z),g3.go rfl (fun _ _ e _=>e) fun b z=>.inl (z.elim (fun y=>.inl (by rw[y];exact g2)) fun y=>.inr y)⟩
def fj(n:Nat)(x:D)(ds:List D):En:=Sl.io x::(ds.map Sl.v++List.replicate (n-(ds.length+1)) Sl.e)
def ua(z:Option Rz)(st:En):Option (Rz×D):=match st[0]? with
 | some (Sl.io x)=>z.bind fun y=>some (y,x)
 | _=>none
def z9:Ot->Option (Rz×D)
 | .nx st=>ua (some (.non,false)) st
 | .rt r st=>ua (Ep st r) st
 | _=>none
def cE(F:FS)(n m:Nat):D->List D->Option (Rz×D):=fun x ds=>if ds.length+1=m then(F (fj n x ds)).bind z9 else none
theorem ub{N : List Str}(nz : ¬ Z f)(ho : OA K (ins f Z) H f x)(el : El K (ins f Z) H ws ds)(lv : ∀ p, Z p → Lv H p) : ER K (fj N.length x ds) (L2.start N (.ref f :: ws)) H (fun b => b = f) Z := by
  have gv : ∀ (i : Nat) s, (fj N.length x ds)[i]? = some s → s.get ≠ none → (i = 0 ∧ s = .io x) ∨ ∃ j d, i = j + 1 ∧ s = .v d ∧ ds[j]? = some d := fun i s e n => by
    cases i with
    | zero => left; exact ⟨rfl, by have : Sl.io x = s := by simpa [fj] using e
                                   exact this.symm⟩
    | succ j =>
      right;have e : (ds.map Sl.v ++ List.replicate (N.length - (ds.length + 1)) Sl.e)[j]? = some s := by simpa [fj] using e
      by_cases hi : j < ds.length
      · rw [Bg (by simpa using hi), B8] at e
        obtain ⟨d, h1, h2⟩ := Option.map_eq_some_iff.mp e;exact ⟨j, d, rfl, h2.symm, h1⟩
      · rw [Cr (by simpa using hi), Cz] at e
        by_cases hz : j - (ds.map Sl.v).length < N.length - (ds.length + 1)
        · rw [Ad hz] at e; cases e; exact absurd rfl n
        · rw [Ag hz] at e; cases e
  have s0 : (L2.start N (.ref f :: ws))[0]? = some (some (.ref f)) := by simp [L2.start]
  have own0 : ∀ (i : Nat) s d, (fj N.length x ds)[i]? = some s → s.ow = some d → i = 0 ∧ d = x := fun i s d e h => by
    rcases gv i s e (gA h) with ⟨h1, rfl⟩ | ⟨j, d', _, rfl, _⟩
    · cases h; exact ⟨h1, rfl⟩
    · cases h
  refine ⟨by simp [fj, L2.start, el.1], fun i d e => ?_, fun i s d e h => ?_, fun i j s t d d' p e h e' h' _ _ => ?_, fun p h => by rw [h]; exact nz, fun p h => ?_⟩
  · rcases gv i _ e (by simp [Sl.get]) with ⟨_, h⟩ | ⟨j, d', rfl, h, h2⟩
    · cases h
    · cases h
      obtain ⟨v, g1, g2⟩ := el.at h2;refine ⟨v, ?_, g2⟩;have hi := (List.getElem?_eq_some_iff.mp g1).1;unfold L2.start;rw [Bg (by simp; lia), B8]
      simp [g1]
  · obtain ⟨rfl, rfl⟩ := own0 i s d e h
    exact ⟨f, s0, rfl, ho⟩
  · rw [(own0 i s d e h).1, (own0 j t d' e' h').1]
  · rcases h with h | h
    · rw [h]; exact ho.lv
    · exact lv p h
theorem uc{N:List Str}(h:RdS K ts F)(sp:kX K (cE F N.length m) vs H Q XE):ts { nx:=fun _ H'=>Q .non H',rt:=Q } (L2.start N vs) H:=by
 obtain⟨f,ws,Z,x,ds,z,x',rfl,nz,ho,el,lv,e,q⟩:=sp;have hm:ds.length+1=m:=by
  by_cases hm:ds.length+1=m
  ·exact hm
  ·simp only[cE,Ag hm]at e;cases e
 simp only[cE,Ad hm]at e;refine bsO e fun o e1 e2=>?_;have but:∀{O':AS}{H':Hp},Ext (fun b=>b=f) H O' H'->∀b o,H b=some o->b≠f->H' b=some o:=fun {O' H'} x b o e n=>x.kp b o e n;have i0:(fj N.length x ds)[0]?=some (.io x):=rfl;have s0:(L2.start N (.ref f::ws))[0]?=some (some (.ref f)):=by simp[L2.start]
 have f0:∀{s:En}{σ':St}{H':Hp}{O':AS}{y:D},Kq (fj N.length x ds) (L2.start N (.ref f::ws)) s σ'->ER K s σ' H' O' Z->s[0]?=some (.io y)->O' f/\OA K (U O' Z) H' f y:=fun {s σ' H' O' y} k E e=>by
  obtain⟨g1,_⟩:=k.io 0 x i0;obtain⟨p,h1,h2,h3⟩:=E.own 0 _ y e rfl;rw[g1,s0]at h1;cases h1;exact⟨h2,h3⟩
 refine h _ _ H _ Z _ (ub nz ho el lv) o e1 ?_;cases o with
 | bk s=>cases e2
 | ct s=>cases e2
 | nx s =>
  intro σ' H' O' x2 k E;have e3:ua (some (.non,false)) s=some (z,x'):=e2;unfold ua at e3;split at e3
  ·rename_i y ey
   cases e3;obtain⟨h1,h2⟩:=f0 k E ey;exact q .non H' (but x2) ⟨.non,h2.go rfl (fun _ _ e _=>e) fun b z=>.inl (z.elim (fun w=>.inl (by rw[w];exact h1)) .inr)⟩
  ·cases e3
 | rt r s =>
  intro v σ' H' O' x2 k E rv w;have e3:ua (Ep s r) s=some (z,x'):=e2;unfold ua at e3;split at e3
  ·rename_i y ey
   refine bsO e3 fun z' e4 e3=>?_;cases e3;obtain⟨h1,h2⟩:=f0 k E ey;have sub:∀b,ins f Z b->U O' Z b:=fun b z=>z.elim (fun w=>.inl (by rw[w];exact h1)) .inr
   cases r with
   | d u=>cases e4;exact q v H' (but x2) ⟨DA.less (show DA K (U O' Z) H' v u from rv) sub,h2.go rfl (fun _ _ e _=>e) fun b z=>.inl (sub b z)⟩
   | f u =>
    cases e4;obtain⟨p,rfl,g1,g2,g3,E2⟩:=rv;obtain⟨h3,h4⟩:=f0 k E2 ey;exact q _ H' (but x2) ⟨p,rfl,w p rfl,g3.go rfl (fun _ _ e _=>e) (fun b z=>.inl (z.elim .inl fun y=>.inr (sub b y))),h4.go rfl (fun _ _ e _=>e) fun b z=>.inl (z.elim (fun y=>.inl (.inl y)) fun y=>(sub b y).elim (fun a=>.inl (.inr a)) .inr)⟩
   | s i =>
    obtain⟨g1,t,g2,g3⟩:=rv
    have e5:(match s[i]? with
     | some (.o x)=>some (x,true)
     | some (.v x)=>some (x,false)
     | _=>none)=some z:=e4
    rw[g2]at e5;cases t with
    | e=>cases e5
    | io u=>cases e5
    | v u =>
     cases e5;obtain⟨u',j1,j2⟩:=E.val i u g2;rw[g1]at j1;cases j1;exact q v H' (but x2) ⟨j2.less sub,h2.go rfl (fun _ _ e _=>e) fun b z=>.inl (sub b z)⟩
    | o u =>
     cases e5;obtain⟨p,j1,j2,j3⟩:=E.own i _ u g2 rfl;rw[g1]at j1;cases j1;have npf:p≠f:=fun z=>by
      subst z;obtain⟨p0,l1,_⟩:=E.own 0 _ _ ey rfl;obtain⟨l2,_⟩:=k.io 0 x i0;rw[l2,s0]at l1;cases l1;have:=E.uni i 0 _ _ u _ _ g2 rfl ey rfl g1 (by rw[l2,s0])
      subst this;rw[ey]at g2;cases g2
     have hp:H p=none:=(x2.nw p j2).elim (fun z=>absurd z npf) (fun z=>z);have sub2:∀b,ins p (ins f Z) b->U O' Z b:=fun b z=>z.elim (fun y=>.inl (by rw[y];exact j2)) (sub b)
     exact q _ H' (but x2) ⟨p,rfl,hp,j3.go rfl (fun _ _ e _=>e) (fun b z=>.inl (sub2 b z)),h2.go rfl (fun _ _ e _=>e) fun b z=>.inl (sub2 b z)⟩
  ·cases e3
theorem yr(sp:spV K (bq F n m) vs H Q XE):vs.length=m:=by
 obtain⟨Z,ds,z,el,lv,e,q⟩:=sp;by_cases hm:ds.length=m
 ·exact el.1.trans hm
 ·simp only[bq,Ag hm]at e;cases e
theorem Gp(sp:kX K (cE F n m) vs H Q XE):vs.length=m:=by
 obtain⟨f,ws,Z,x,ds,z,x',rfl,nz,ho,el,lv,e,q⟩:=sp;by_cases hm:ds.length+1=m
 ·have:=el.1;simp;lia
 ·simp only[cE,Ag hm]at e;cases e
end
end VF
namespace VF
open PySem L2
section
variable {K:Aa}{Y Y':AS}{H H':Hp}{v:V}{d:D}{vs:List V}{ds:List D}
def orD(b b':D->D->Option Rz):D->D->Option Rz:=fun x y=>match b x y with
 | some z=>some z
 | none=>b' x y
theorem RdOp.or(h:RdOp K r b)(h':RdOp K r' b'):RdOp K (fun x y H Q=>r x y H Q∨r' x y H Q) (orD b b'):=by
 intro Y H x y d1 d2 z Q lv b1 b2 e q;unfold orD at e;split at e
 ·rename_i z' ez
  cases e;exact .inl (h Y H x y d1 d2 z Q lv b1 b2 ez q)
 ·exact .inr (h' Y H x y d1 d2 z Q lv b1 b2 e q)
def orC(b b':List D->Option Rz):List D->Option Rz:=fun x=>match b x with
 | some z=>some z
 | none=>b' x
theorem RdCB.or(h:RdCB K r b)(h':RdCB K r' b'):RdCB K (fun xs H Q=>r xs H Q∨r' xs H Q) (orC b b'):=by
 intro Y H xs ds z Q lv b1 e q;unfold orC at e;split at e
 ·rename_i z' ez
  cases e;exact .inl (h Y H xs ds z Q lv b1 ez q)
 ·exact .inr (h' Y H xs ds z Q lv b1 e q)
def bI0(g:Int->Int->D):D->D->Option Rz
 | .int i,.int j=>some (g i j,false)
 | _,_=>none
theorem mZ(h:∀Y H i j,DA K Y H (gV i j) (gD i j)):RdOp K (rI0 gV) (bI0 gD):=by
 intro Y H x y d1 d2 z Q lv b1 b2 e q;cases d1 with
 | int i =>
  cases d2 with
  | int j =>
   cases e;exact⟨i,j,b1,b2,q _ H (Same.refl H) (h Y H i j)⟩
  | _=>cases e
 | _=>cases e
def bI(C:Int->Int->Prop)[∀i j,Decidable (C i j)](g:Int->Int->D):D->D->Option Rz
 | .int i,.int j=>if C i j then some (g i j,false) else none
 | _,_=>none
theorem yt[dc:∀i j,Decidable (C i j)](h:∀Y H i j,DA K Y H (gV i j) (gD i j)):RdOp K (rI C gV) (bI C gD):=by
 intro Y H x y d1 d2 z Q lv b1 b2 e q;cases d1 with
 | int i =>
  cases d2 with
  | int j =>
   obtain⟨c,e⟩:=aB e;cases e;exact⟨i,j,b1,b2,c,q _ H (Same.refl H) (h Y H i j)⟩
  | _=>cases e
 | _=>cases e
instance (i j:Int):Decidable (CMul i j):=by unfold CMul;infer_instance
instance (i j:Int):Decidable (qj i j):=by unfold qj;infer_instance
instance (i j:Int):Decidable (uY i j):=by unfold uY;infer_instance
def m5:=bI0 fun i j=>.int (i+j)
def jC:=bI0 fun i j=>.int (i-j)
def rY:=bI CMul fun i j=>.int (i*j)
def ud:=bI qj fun i j=>.int (i / j)
def fH:=bI (fun _ j=>0<j) fun i j=>.int (i % j)
def Er:=bI uY fun i j=>.int (i ^ j.toNat)
def Gq:=bI0 fun i j=>.bl (decide (i<j))
def bLe:=bI0 fun i j=>.bl (decide (i<=j))
def bGt:=bI0 fun i j=>.bl (decide (j<i))
def bGe:=bI0 fun i j=>.bl (decide (j<=i))
theorem ro_addI:RdOp K (rI0 fun i j=>.int (i+j)) m5:=mZ fun _ _ _ _=>.int _
theorem fk:RdOp K (rI0 fun i j=>.int (i-j)) jC:=mZ fun _ _ _ _=>.int _
theorem ro_mulI:RdOp K (rI CMul fun i j=>.int (i*j)) rY:=yt fun _ _ _ _=>.int _
theorem n6:RdOp K (rI qj fun i j=>.int (i / j)) ud:=yt fun _ _ _ _=>.int _
theorem fm:RdOp K (rI (fun _ j=>0<j) fun i j=>.int (i % j)) fH:=yt fun _ _ _ _=>.int _
theorem Et:RdOp K (rI uY fun i j=>.int (i ^ j.toNat)) Er:=yt fun _ _ _ _=>.int _
theorem ro_ltI:RdOp K (rI0 fun i j=>.bl (decide (i<j))) Gq:=mZ fun _ _ _ _=>.bl _
theorem Gr:RdOp K (rI0 fun i j=>.bl (decide (i<=j))) bLe:=mZ fun _ _ _ _=>.bl _
theorem vH:RdOp K (rI0 fun i j=>.bl (decide (j<i))) bGt:=mZ fun _ _ _ _=>.bl _
theorem CT:RdOp K (rI0 fun i j=>.bl (decide (j<=i))) bGe:=mZ fun _ _ _ _=>.bl _
def yu:D->Option Rz
 | .int i=>some (.int (-i),false)
 | _=>none
theorem qA:Gj K (rU fun i=>.int (-i)) yu:=by
 intro Y H x d1 z Q lv b1 e q;cases d1 with
 | int i=>cases e;exact⟨i,b1,q _ H (Same.refl H) (.int _)⟩
 | _=>cases e
def scD:D->Option V
 | .non=>some .non
 | .bl b=>some (.bl b)
 | .int i=>some (.int i)
 | .str x=>some (.str x)
 | _=>none
theorem jD(h:BA K Y H v d)(e:scD d=some w):v=w:=by
 cases d with
 | non=>cases e;exact h
 | bl b=>cases e;exact h
 | int i=>cases e;exact h
 | str x=>cases e;exact h
 | _=>cases e
theorem pj(e:scD d=some w):ib w=true:=by
 cases d with
 | non=>cases e;rfl
 | bl b=>cases e;rfl
 | int i=>cases e;rfl
 | str x=>cases e;rfl
 | _=>cases e
def vI(neg:Bool):D->D->Option Rz:=fun a b=>(scD a).bind fun x=>(scD b).bind fun y=>if DO x y=true then some (.bl (if neg then !decide (x=y) else decide (x=y)),false) else none
theorem Eu:RdOp K rEq (vI false):=by
 intro Y H x y d1 d2 z Q lv b1 b2 e q;refine bsO e fun x' e1 e=>?_;refine bsO e fun y' e2 e=>?_;obtain⟨c,e⟩:=aB e;cases e;obtain rfl:=jD b1 e1;obtain rfl:=jD b2 e2;exact⟨c,q _ H (Same.refl H) (.bl _)⟩
theorem ro_neS:RdOp K rNe (vI true):=by
 intro Y H x y d1 d2 z Q lv b1 b2 e q;refine bsO e fun x' e1 e=>?_;refine bsO e fun y' e2 e=>?_;obtain⟨c,e⟩:=aB e;cases e;obtain rfl:=jD b1 e1;obtain rfl:=jD b2 e2;exact⟨c,q _ H (Same.refl H) (.bl _)⟩
def m6:D->D->Option Rz
 | .str a,.str b=>if a.length+b.length<=1000000 then some (.str (a++b),false) else none
 | _,_=>none
theorem ro_addS:RdOp K (fun x y H Q=>∃i j,x=.str i/\y=.str j/\i.length+j.length<=sizeLine/\Q (.str (i++j)) H) m6:=by
 intro Y H x y d1 d2 z Q lv b1 b2 e q;cases d1 with
 | str a =>
  cases d2 with
  | str b =>
   obtain⟨c,e⟩:=aB e;cases e;exact⟨a,b,b1,b2,few c,q _ H (Same.refl H) (.str _)⟩
  | _=>cases e
 | _=>cases e
theorem fV(el:El K Y H vs ds)(hp:H p=none):RES K Y H (upd H p (.lst vs)) (.ref p) (.lst ds,true) :=
 ⟨p,rfl,hp,vs,ay,el.away (aI hp _) hp⟩
theorem gB(el:El K Y H vs ds)(hp:H p=none)(lv:∀p,Y p->Lv H p):RES K Y H (upd H p (.tup vs)) (.ref p) (.tup ds,false) :=
 .tup ⟨ay,fun z=>(lv p z).1 hp⟩ el.1 (el.same (aI hp _)).2
def qB:D->D->Option Rz
 | .lst a,.lst b=>if a.length+b.length<=1000000 then some (.lst (a++b),true) else none
 | _,_=>none
theorem ro_cat:RdOp K D7 qB:=by
 intro Y H x y d1 d2 z Q lv b1 b2 e q;cases d1 with
 | lst a =>
  cases d2 with
  | lst b =>
   obtain⟨c,e⟩:=aB e;cases e;obtain⟨p,xs,rfl,hp,el⟩:=b1;obtain⟨p2,ys,rfl,hp2,el2⟩:=b2;exact⟨p,p2,xs,ys,rfl,rfl,hp,hp2,by rw[el.1,el2.1];exact few c,fun r hr=>q _ _ (aI hr _) (fV (el.app el2) hr)⟩
  | _=>cases e
 | _=>cases e
def m7:D->D->Option Rz
 | .tup (x::a),.tup (y::b)=>if a.length+b.length<=999998 then some (.tup ((x::a)++(y::b)),false) else none
 | .tup (x::a),.tup []=>if a.length<=999998 then some (.tup (x::a),false) else none
 | _,_=>none
theorem yv:RdOp K (vd K) m7:=by
 intro Y H x y d1 d2 z Q lv b1 b2 e q;cases d1 with
 | tup a =>
  cases a with
  | nil=>cases e
  | cons a0 a =>
  cases d2 with
  | tup b =>
   obtain⟨p,xs,rfl,hp,el⟩:=b1;obtain⟨p2,ys,rfl,hp2,el2⟩:=b2;have hx:xs≠[]:=fun z=>by have:=el.1;rw[z]at this;cases this
   cases b with
   | nil =>
    obtain⟨c,e⟩:=aB e;cases e;obtain rfl:=el2.unnil;exact⟨p,p2,xs,[],rfl,rfl,hp.sq,hp2.sq,hx,by rw[el.1];exact few (by simp;lia),fun _=>q _ H (Same.refl H) (.tup hp el.1 el.2),fun z=>absurd rfl z⟩
   | cons b0 b =>
    obtain⟨c,e⟩:=aB e;cases e;have hy:ys≠[]:=fun z=>by have:=el2.1;rw[z]at this;cases this
    exact⟨p,p2,xs,ys,rfl,rfl,hp.sq,hp2.sq,hx,by rw[el.1,el2.1];exact few (by simp;lia),fun z=>absurd z hy,fun _ r hr=>q _ _ (aI hr _) (gB (el.app el2) hr lv)⟩
  | _=>cases e
 | _=>cases e
def bc:=orD m5 (orD m6 (orD qB m7))
def vJ:D->D->Option Rz
 | .str a,.int n=>if 0<=n/\n<=1000/\a.length<=1000 then some (.str (Txt.mul a n),false) else none
 | _,_=>none
theorem yw:RdOp K (fun x y H Q=>∃(a:Str)(n:Int),x=.str a/\y=.int n/\MulOk a n/\Q (.str (Txt.mul a n)) H) vJ:=by
 intro Y H x y d1 d2 z Q lv b1 b2 e q;cases d1 with
 | str a =>
  cases d2 with
  | int n =>
   obtain⟨c,e⟩:=aB e;cases e;exact⟨a,n,b1,b2,mulOk_of c.1 c.2.1 c.2.2,q _ H (Same.refl H) (.str _)⟩
  | _=>cases e
 | _=>cases e
def cF:=orD rY vJ
def Gs:D->D->Option Rz
 | .str a,.str b=>some (.bl (decide (a.cps.toList<b.cps.toList)),false)
 | _,_=>none
theorem Ev:RdOp K (fun x y H Q=>∃i j,x=.str i/\y=.str j/\Q (.bl (decide (i.cps.toList<j.cps.toList))) H) Gs:=by
 intro Y H x y d1 d2 z Q lv b1 b2 e q;cases d1 with
 | str a =>
  cases d2 with
  | str b=>cases e;exact⟨a,b,b1,b2,q _ H (Same.refl H) (.bl _)⟩
  | _=>cases e
 | _=>cases e
def bLt:=orD Gq Gs
def qC(neg:Bool):D->D->Option Rz
 | .str a,.str b=>some (.bl (if neg then !(!(Builtin.Str.occurrences b a 0 b.length 1).isEmpty) else !(Builtin.Str.occurrences b a 0 b.length 1).isEmpty),false)
 | _,_=>none
theorem ro_inS:RdOp K (fun x y H Q=>∃i j,x=.str i/\y=.str j/\Q (.bl (!(Builtin.Str.occurrences j i 0 j.length 1).isEmpty)) H) (qC false):=by
 intro Y H x y d1 d2 z Q lv b1 b2 e q;cases d1 with
 | str a =>
  cases d2 with
  | str b=>cases e;exact⟨a,b,b1,b2,q _ H (Same.refl H) (.bl _)⟩
  | _=>cases e
 | _=>cases e
theorem ro_notinS:RdOp K (fun x y H Q=>∃i j,x=.str i/\y=.str j/\Q (.bl (!(!(Builtin.Str.occurrences j i 0 j.length 1).isEmpty))) H) (qC true):=by
 intro Y H x y d1 d2 z Q lv b1 b2 e q;cases d1 with
 | str a =>
  cases d2 with
  | str b=>cases e;exact⟨a,b,b1,b2,q _ H (Same.refl H) (.bl _)⟩
  | _=>cases e
 | _=>cases e
def lc:List D->Option (List V)
 | []=>some []
 | d::r=>(scD d).bind fun v=>(lc r).bind fun vs=>some (v::vs)
theorem pk:∀{ds:List D}{vs ws:List V},El K Y H vs ds->lc ds=some ws->vs=ws/\ws.all ib=true
 | [],vs,ws,el,e=>by cases e;exact⟨el.unnil,rfl⟩
 | d::r,vs,ws,el,e=>by
  refine bsO e fun w e1 e=>?_;refine bsO e fun ws' e2 e=>?_;cases e;obtain⟨v,t,rfl,da,el⟩:=el.uncons;obtain⟨rfl,h⟩:=pk el e2;have hv:=jD da.ba e1;subst hv;exact⟨rfl,by rw[Bt,pj e1,h];rfl⟩
def D.seq:D->Option (List D)
 | .lst ds=>some ds
 | .tup ds=>some ds
 | .fl ds=>some ds
 | _=>none
theorem n8(h:BA K Y H v d)(e:d.seq=some ds):∃a vs,v=.ref a/\(SqL K H a vs∨SqT K H a vs)/\El K Y H vs ds:=by
 cases d with
 | lst _=>cases e;obtain⟨a,vs,h1,h2,h3⟩:=h;exact⟨a,vs,h1,.inl (.inl (.inl h2)),h3⟩
 | tup _=>cases e;obtain⟨a,vs,h1,h2,h3⟩:=h;exact⟨a,vs,h1,.inr h2.sq,h3⟩
 | fl _=>cases e;obtain⟨a,vs,h1,h2,h3⟩:=h;exact⟨a,vs,h1,.inl h2.sq,h3⟩
 | _=>cases e
def vK(neg:Bool):D->D->Option Rz:=fun a b=>(scD a).bind fun x=>(b.seq).bind fun ds=>(lc ds).bind fun ws=>some (.bl (if neg then !inV x ws else inV x ws),false)
theorem vL(neg:Bool):RdOp K (rIn K neg) (vK neg):=by
 intro Y H x y d1 d2 z Q lv b1 b2 e q;refine bsO e fun x' e1 e=>?_;refine bsO e fun ds e2 e=>?_;refine bsO e fun ws e3 e=>?_;cases e;obtain⟨a,vs,rfl,sq,el⟩:=n8 b2 e2;obtain rfl:=jD b1 e1;obtain⟨rfl,h⟩:=pk el e3;exact⟨a,vs,rfl,sq,pj e1,h,q _ H (Same.refl H) (.bl _)⟩
def bIn:=orD (qC false) (vK false)
def iA:=orD (qC true) (vK true)
def ue:D->D->Option Rz
 | .lst ds,.int i=>(atI ds i).bind fun d=>some (d,false)
 | .fl ds,.int i=>(atI ds i).bind fun d=>some (d,false)
 | _,_=>none
def yx:D->D->Option Rz
 | .tup ds,.int i=>(atI ds i).bind fun d=>some (d,false)
 | _,_=>none
def Ew:D->D->Option Rz
 | .str z,.int i=>if z.length<=1000000 then(atI z.cps.toList i).bind fun c=>some (.str ⟨#[c]⟩,false) else none
 | _,_=>none
theorem qD(el:El K Y H vs ds)(e:atI ds i=some d):∃v,atI vs i=some v/\DA K Y H v d:=by
 unfold atI at e ⊢;rw[el.1];refine bsO e fun j e1 e2=>?_;obtain⟨v,h1,h2⟩:=el.at e2;exact⟨v,by rw[e1];exact h1,h2⟩
theorem ro_ixL:RdOp K (D0 K) ue:=by
 intro Y H x y d1 d2 z Q lv b1 b2 e q;cases d1 with
 | lst a =>
  cases d2 with
  | int i =>
   refine bsO e fun d e1 e=>?_;cases e;obtain⟨p,xs,rfl,hp,el⟩:=b1;obtain⟨v,h1,h2⟩:=qD el e1;exact⟨p,xs,i,v,rfl,b2,.inl (.inl hp),h1,q v H (Same.refl H) h2⟩
  | _=>cases e
 | fl a =>
  cases d2 with
  | int i =>
   refine bsO e fun d e1 e=>?_;cases e;obtain⟨p,xs,rfl,hp,el⟩:=b1;obtain⟨v,h1,h2⟩:=qD el e1;exact⟨p,xs,i,v,rfl,b2,hp.sq,h1,q v H (Same.refl H) h2⟩
  | _=>cases e
 | _=>cases e
theorem ro_ixT:RdOp K (D1 K) yx:=by
 intro Y H x y d1 d2 z Q lv b1 b2 e q;cases d1 with
 | tup a =>
  cases d2 with
  | int i =>
   refine bsO e fun d e1 e=>?_;cases e;obtain⟨p,xs,rfl,hp,el⟩:=b1;obtain⟨v,h1,h2⟩:=qD el e1;exact⟨p,xs,i,v,rfl,b2,hp.sq,h1,q v H (Same.refl H) h2⟩
  | _=>cases e
 | _=>cases e
theorem Ey:RdOp K D2 Ew:=by
 intro Y H x y d1 d2 z Q lv b1 b2 e q;cases d1 with
 | str a =>
  cases d2 with
  | int i =>
   obtain⟨c,e⟩:=aB e;refine bsO e fun ch e1 e=>?_;cases e;exact⟨a,i,ch,b1,b2,few c,e1,q _ H (Same.refl H) (.str _)⟩
  | _=>cases e
 | _=>cases e
def bIx:=orD ue (orD yx Ew)
theorem bC:RdOp K (rIx K) bIx:=ro_ixL.or (ro_ixT.or Ey)
abbrev FO:=En->Option (Option Int×En)
def RdO(K:Aa)(t:TO)(f:FO):Prop:=∀(st:En)(σ:St)(H:Hp)(O Z:AS)(Q:Option Int->Hp->Prop),ER K st σ H O Z->∀c st',f st=some (c,st') ->
 (∀H' O',Ext O H O' H'->Kp st st'->ER K st' σ H' O' Z->Q c H')->t σ H Q
def oNo:FO:=fun st=>some (none,st)
theorem jE:RdO K rM oNo:=by
 intro st σ H O Z Q E c st' e q;cases e;exact q H O (Ext.refl _ _) (Kp.refl _) E
def asInt(st:En)(r:Rs):Option Int:=match cont st r with
 | some (.int i)=>some i
 | _=>none
def fI(fe:FE):FO:=fun st=>(fe st).bind fun x=>(asInt x.2 x.1).bind fun i=>some (some i,x.2)
theorem di(h:RdE K te fe):RdO K (zX te) (fI fe):=by
 intro st σ H O Z Q E c st' e q;refine bsP e fun r st1 e1 e=>?_;refine bsO e fun i e2 e=>?_;cases e;refine h st σ H O Z _ E r _ e1 fun v H1 O1 x1 k1 E1 rv w=>?_;have ev:v=.int i:=by
  unfold asInt at e2;split at e2
  ·rename_i j ej
   cases e2;exact rv.ba E1 ej
  ·cases e2
 exact⟨i,ev,q H1 O1 x1 k1 E1⟩
def RdSl(K:Aa)(r:V->Option Int->Option Int->Hp->VK->Prop)(b:D->Option Int->Option Int->Option Rz):Prop:=∀(Y:AS)(H:Hp)(x:V)(lo hi:Option Int)(d1:D)(z:Rz)(Q:VK),(∀p,Y p->Lv H p)->BA K Y H x d1->b d1 lo hi=some z ->
 (∀v H',Same H H'->RES K Y H H' v z->Q v H')->r x lo hi H Q
def fSl(b:D->Option Int->Option Int->Option Rz)(fe:FE)(fl fh:FO):FE:=fun st=>(fe st).bind fun x=>(fl x.2).bind fun l=>(fh l.2).bind fun u=>(cont u.2 x.1).bind fun d=>(b d l.1 u.1).bind fun z=>some (mk z,u.2)
theorem dX(hr:RdSl K r b)(he:RdE K te fe)(hl:RdO K tl fl)(hh:RdO K th fh):RdE K (tSl r te tl th) (fSl b fe fl fh):=by
 intro st σ H O Z Q E r' st' h q;refine bsP h fun r1 st1 e1 h=>?_;refine bsP h fun lo st2 e2 h=>?_;refine bsP h fun hi st3 e3 h=>?_;refine bsO h fun d1 e4 h=>?_;refine bsO h fun z e5 h=>?_;cases h;refine he st σ H O Z _ E r1 st1 e1 fun v1 H1 O1 x1 k1 E1 rv1 w1=>?_;refine hl st1 σ H1 O1 Z _ E1 lo st2 e2 fun H2 O2 x2 k2 E2=>?_;refine hh st2 σ H2 O2 Z _ E2 hi _ e3 fun H3 O3 x3 k3 E3=>?_;have b1:=(rv1.nf.ext (x2.trans x3) (k2.trans k3)).ba E3 (by rw[eI];exact e4)
 refine hr (U O3 Z) H3 v1 lo hi d1 z _ E3.liv b1 e5 fun v H4 s hres=>?_;obtain⟨E4,rv4⟩:=hres.rv E3 s;have xx:=(x1.trans x2).trans x3;exact q v H4 O3 (xx.trans (Same.ext s)) ((k1.trans k2).trans k3) E4 rv4 (hres.fsh.back xx)
def cutD(xs:List D)(lo hi:Option Int):List D:=(xs.drop (HT.sIx xs.length 0 lo)).take (HT.sIx xs.length xs.length hi-HT.sIx xs.length 0 lo)
theorem El.cut(el:El K Y H vs ds)(lo hi:Option Int):El K Y H (o5 vs lo hi) (cutD ds lo hi):=by
 unfold o5 cutD;rw[el.1];exact(el.drop _).take _
def orS(b b':D->Option Int->Option Int->Option Rz):D->Option Int->Option Int->Option Rz:=fun x l h=>match b x l h with
 | some z=>some z
 | none=>b' x l h
theorem RdSl.or(h:RdSl K r b)(h':RdSl K r' b'):RdSl K (fun x lo hi H Q=>r x lo hi H Q∨r' x lo hi H Q) (orS b b'):=by
 intro Y H x lo hi d1 z Q lv b1 e q;unfold orS at e;split at e
 ·rename_i z' ez
  cases e;exact .inl (h Y H x lo hi d1 z Q lv b1 ez q)
 ·exact .inr (h' Y H x lo hi d1 z Q lv b1 e q)
def yy:D->Option Int->Option Int->Option Rz
 | .lst ds,lo,hi=>some (.lst (cutD ds lo hi),true)
 | .fl ds,lo,hi=>some (.lst (cutD ds lo hi),true)
 | _,_,_=>none
theorem Gu:RdSl K (D4 K) yy:=by
 intro Y H x lo hi d1 z Q lv b1 e q;cases d1 with
 | lst a =>
  cases e;obtain⟨p,xs,rfl,hp,el⟩:=b1;exact⟨p,xs,rfl,.inl (.inl hp),fun r hr=>q _ _ (aI hr _) (fV (el.cut lo hi) hr)⟩
 | fl a =>
  cases e;obtain⟨p,xs,rfl,hp,el⟩:=b1;exact⟨p,xs,rfl,hp.sq,fun r hr=>q _ _ (aI hr _) (fV (el.cut lo hi) hr)⟩
 | _=>cases e
def n9:D->Option Int->Option Int->Option Rz
 | .tup ds,lo,hi=>if HT.sIx ds.length 0 lo=0/\HT.sIx ds.length ds.length hi=ds.length then none else some (.tup (cutD ds lo hi),false)
 | _,_,_=>none
theorem Gv:RdSl K (DY K) n9:=by
 intro Y H x lo hi d1 z Q lv b1 e q;cases d1 with
 | tup a =>
  by_cases c:HT.sIx a.length 0 lo=0/\HT.sIx a.length a.length hi=a.length
  ·simp only[n9,Ad c]at e;cases e
  ·simp only[n9,Ag c]at e;cases e;obtain⟨p,xs,rfl,hp,el⟩:=b1;exact⟨p,xs,rfl,hp.sq,by rw[el.1];exact c,fun r hr=>q _ _ (aI hr _) (gB (el.cut lo hi) hr lv)⟩
 | _=>cases e
def yz:D->Option Int->Option Int->Option Rz
 | .str z,lo,hi=>if z.length<=1000000 then some (.str (Txt.slice z lo hi),false) else none
 | _,_,_=>none
theorem Gw:RdSl K (fun x lo hi H Q=>∃z:Str,x=.str z/\z.length<=sizeLine/\Q (.str (Txt.slice z lo hi)) H) yz:=by
 intro Y H x lo hi d1 z Q lv b1 e q;cases d1 with
 | str a =>
  obtain⟨c,e⟩:=aB e;cases e;exact⟨a,b1,few c,q _ H (Same.refl H) (.str _)⟩
 | _=>cases e
def bSl:=orS yy (orS n9 yz)
def CU:List D->Option Rz
 | [d]=>(d.seq).bind fun ds=>some (.int ds.length,false)
 | _=>none
theorem rc_lenQ:RdCB K (fun xs H Q=>∃p ys,xs=[.ref p]/\(SqL K H p ys∨SqT K H p ys)/\Q (.int ys.length) H) CU:=by
 intro Y H xs ds z Q lv bs e q;cases bs with
 | nil=>cases e
 | cons b1 bs =>
  cases bs with
  | cons _ _=>cases e
  | nil =>
   refine bsO e fun es e1 e=>?_;cases e;obtain⟨a,vs,rfl,sq,el⟩:=n8 b1 e1;refine⟨a,vs,rfl,sq,?_⟩;rw[el.1];exact q _ H (Same.refl H) (.int _)
def CV:List D->Option Rz
 | [.str z]=>if z.length<=1000000 then some (.int z.length,false) else none
 | _=>none
theorem yA:RdCB K (fun xs H Q=>∃z:Str,xs=[.str z]/\z.length<=sizeLine/\Q (.int z.length) H) CV:=by
 intro Y H xs ds z Q lv bs e q;cases bs with
 | nil=>cases e
 | @cons v vs d ds b1 bs =>
  cases bs with
  | cons _ _=>cases d<;>cases e
  | nil =>
   cases d with
   | str a =>
    obtain⟨c,e⟩:=aB e;cases e;exact⟨a,by rw[show v=V.str a from b1],few c,q _ H (Same.refl H) (.int _)⟩
   | _=>cases e
def dF:=orC CU CV
def CW:List D->Option Rz
 | [d]=>(d.seq).bind fun ds=>some (.lst ds,true)
 | _=>none
theorem rc_list:RdCB K (fun xs H Q=>∃p ys,xs=[.ref p]/\(SqL K H p ys∨SqT K H p ys)/\∀l,H l=none->Q (.ref l) (upd H l (.lst ys))) CW:=by
 intro Y H xs ds z Q lv bs e q;cases bs with
 | nil=>cases e
 | cons b1 bs =>
  cases bs with
  | cons _ _=>cases e
  | nil =>
   refine bsO e fun es e1 e=>?_;cases e;obtain⟨a,vs,rfl,sq,el⟩:=n8 b1 e1;exact⟨a,vs,rfl,sq,fun r hr=>q _ _ (aI hr _) (fV el hr)⟩
def vM:List D->Option Rz
 | [.lst ds]=>some (.tup ds,false)
 | [.fl ds]=>some (.tup ds,false)
 | [.tup ds]=>some (.tup ds,false)
 | _=>none
theorem rc_tuple:RdCB K (fun xs H Q=>∃p ys,xs=[.ref p]/\((SqL K H p ys/\∀l,H l=none->Q (.ref l) (upd H l (.tup ys)))∨(SqT K H p ys/\Q (.ref p) H))) vM:=by
 intro Y H xs ds z Q lv bs e q;cases bs with
 | nil=>cases e
 | @cons v vs d ds b1 bs =>
  cases bs with
  | cons _ _=>cases d<;>cases e
  | nil =>
   cases d with
   | lst a =>
    cases e;obtain⟨p,xs,rfl,hp,el⟩:=b1;exact⟨p,xs,rfl,.inl ⟨.inl (.inl hp),fun r hr=>q _ _ (aI hr _) (gB el hr lv)⟩⟩
   | fl a =>
    cases e;obtain⟨p,xs,rfl,hp,el⟩:=b1;exact⟨p,xs,rfl,.inl ⟨hp.sq,fun r hr=>q _ _ (aI hr _) (gB el hr lv)⟩⟩
   | tup a =>
    cases e;obtain⟨p,xs,rfl,hp,el⟩:=b1;exact⟨p,xs,rfl,.inr ⟨hp.sq,q _ H (Same.refl H) (.tup hp el.1 el.2)⟩⟩
   | _=>cases e
def m8:List D->Option (List Bool)
 | []=>some []
 | .bl b::r=>(m8 r).bind fun bs=>some (b::bs)
 | _=>none
theorem pp:∀{ds:List D}{vs:List V}{bs:List Bool},El K Y H vs ds->m8 ds=some bs->vs=bs.map V.bl
 | [],vs,bs,el,e=>by cases e;exact el.unnil
 | d::r,vs,bs,el,e=>by
  obtain⟨v,t,rfl,da,el2⟩:=el.uncons;cases d with
  | bl b =>
   refine bsO e fun bs' e1 e=>?_;cases e;have h:=pp el2 e1;rw[h,show v=V.bl b from da.ba];rfl
  | _=>cases e
def Gx:List D->Option Rz
 | [.lst ds]=>(m8 ds).bind fun bs=>some (.bl (bs.all id),false)
 | _=>none
theorem Ez:RdCB K (fun xs H Q=>∃(p:Addr)(bs:List Bool),xs=[.ref p]/\SqL K H p (bs.map V.bl)/\Q (.bl (bs.all id)) H) Gx:=by
 intro Y H xs ds z Q lv bs e q;cases bs with
 | nil=>cases e
 | @cons v vs d ds b1 bs =>
  cases bs with
  | cons _ _=>cases d<;>cases e
  | nil =>
   cases d with
   | lst a =>
    refine bsO e fun bs e1 e=>?_;cases e;obtain⟨p,xs,rfl,hp,el⟩:=b1;obtain rfl:=pp el e1;exact⟨p,bs,rfl,.inl (.inl hp),q _ H (Same.refl H) (.bl _)⟩
   | _=>cases e
def EA(K:Aa)(r:V->List V->Hp->VK->Prop)(b:D->List D->Option Rz):Prop:=∀(Y:AS)(H:Hp)(x:V)(xs:List V)(d:D)(ds:List D)(z:Rz)(Q:VK),(∀p,Y p->Lv H p)->BA K Y H x d->BAs K Y H xs ds->b d ds=some z ->
 (∀v H',Same H H'->RES K Y H H' v z->Q v H')->r x xs H Q
def EB(T:String):D->Bool
 | .str _=>decide (T="str")
 | .lst _=>decide (T="list")
 | .dk _=>decide (T="dict")
 | .dt _=>decide (T="dict")
 | _=>false
theorem Gy(h:BA K Y H v d)(e:EB T d=true):tyV K T v H:=by
 cases d with
 | str x =>
  have e':T="str":=Ak e;rw[show v=V.str x from h];exact e'
 | lst x=>obtain⟨a,vs,rfl,h1,_⟩:=h;exact .inl ⟨Ak e,vs,.inl (.inl h1)⟩
 | dk x=>obtain⟨a,vs,rfl,h1,_⟩:=h;exact .inr (.inr (.inl ⟨Ak e,.inl ⟨vs,h1⟩⟩))
 | dt x=>obtain⟨a,ep,vs,rfl,_,h1,_⟩:=h;exact .inr (.inr (.inl ⟨Ak e,.inr ⟨ep,vs,h1⟩⟩))
 | _=>cases e
def fBM(T:String)(b:D->List D->Option Rz)(fo:FE)(fa:FA):FE:=fun st=>(fo st).bind fun x=>(cont x.2 x.1).bind fun d0=>if EB T d0=true then(fa x.2).bind fun y=>(cont y.2 x.1).bind fun d=>(bG y.2 y.1).bind fun ds=>(b d ds).bind fun z=>some (mk z,y.2) else none
theorem CY(hr:EA K r b)(ho:RdE K to fo)(ha:RdA K ta fa):RdE K (tBM K T r to ta) (fBM T b fo fa):=by
 intro st σ H O Z Q E r' st' h q;refine bsP h fun r1 st1 e1 h=>?_;refine bsO h fun d0 e2 h=>?_;obtain⟨c,h⟩:=aB h;refine bsP h fun rs st2 e3 h=>?_;refine bsO h fun d e4 h=>?_;refine bsO h fun ds e5 h=>?_;refine bsO h fun z e6 h=>?_;cases h;refine ho st σ H O Z _ E r1 st1 e1 fun v1 H1 O1 x1 k1 E1 rv1 w1=>⟨Gy (rv1.ba E1 e2) c,?_⟩;refine ha st1 σ H1 O1 Z _ E1 rs _ e3 fun vs H2 O2 x2 k2 E2 rvs=>?_;have b1:=(rv1.nf.ext x2 k2).ba E2 (by rw[eI];exact e4)
 refine hr (U O2 Z) H2 v1 vs d ds z _ E2.liv b1 (rvs.bas E2 e5) e6 fun v H3 s hres=>?_;obtain⟨E3,rv3⟩:=hres.rv E2 s;exact q v H3 O2 ((x1.trans x2).trans (Same.ext s)) (k1.trans k2) E3 rv3 (hres.fsh.back (x1.trans x2))
def gC:List D->Option (List Str)
 | []=>some []
 | .str x::r=>(gC r).bind fun xs=>some (x::xs)
 | _=>none
theorem jF:∀{ds:List D}{vs:List V}{xs:List Str},El K Y H vs ds->gC ds=some xs->vs=xs.map V.str
 | [],vs,xs,el,e=>by cases e;exact el.unnil
 | d::r,vs,xs,el,e=>by
  obtain⟨v,t,rfl,da,el2⟩:=el.uncons;cases d with
  | str b =>
   refine bsO e fun xs' e1 e=>?_;cases e;have h:=jF el2 e1;rw[h,show v=V.str b from da.ba];rfl
  | _=>cases e
def rZ:D->List D->Option Rz
 | .str a,[.str b]=>some (.bl (Txt.startswith a b),false)
 | _,_=>none
theorem uf:EA K (fun x vs H Q=>∃(a b:Str),x=.str a/\vs=[.str b]/\Q (.bl (Txt.startswith a b)) H) rZ:=by
 intro Y H x xs d ds z Q lv b1 bs e q;cases d with
 | str a =>
  cases bs with
  | nil=>cases e
  | @cons v vs d ds b2 bs =>
   cases bs with
   | cons _ _=>cases d<;>cases e
   | nil =>
    cases d with
    | str b=>cases e;exact⟨a,b,b1,by rw[show v=V.str b from b2],q _ H (Same.refl H) (.bl _)⟩
    | _=>cases e
 | _=>cases e
def isL:D->Bool
 | .lst _=>true
 | _=>false
theorem tyL(h:OA K Y H p x)(e:isL x=true):tyV K "list" (.ref p) H:=by
 cases x with
 | lst ds=>obtain⟨vs,h1,_⟩:=h;exact .inl ⟨rfl,vs,.inl (.inl h1)⟩
 | _=>cases e
theorem El.upd(h:El K Y H vs ds)(hp:Y p):El K Y (L2.upd H p o) vs ds:=h.go (fun b u e n=>by
 have hb:b≠p:=fun z=>n (by rw[z];exact hp)
 rw[am hb];exact e) fun b z=>.inl z
theorem DA.upd(h:DA K Y H v d)(hp:Y p):DA K Y (L2.upd H p o) v d:=h.go (fun b u e n=>by
 have hb:b≠p:=fun z=>n (by rw[z];exact hp)
 rw[am hb];exact e) fun b z=>.inl z
def cG:D->List D->Option (D×D)
 | .lst xs,[y]=>if xs.length<1000000 then some (.non,.lst (xs++[y])) else none
 | _,_=>none
theorem cr:RdM K "list" nW isL cG:=⟨fun Y H p x h e=>tyL h e,fun Y H p x vs ds y x' Q hp ho el e q=>by
 cases x with
 | lst xs =>
  cases ds with
  | nil=>cases e
  | cons d ds =>
   cases ds with
   | cons _ _=>cases e
   | nil =>
    obtain⟨c,e⟩:=aB e;cases e;obtain⟨ws,h1,h2⟩:=ho;obtain⟨v,r,rfl,da,el⟩:=el.uncons;obtain rfl:=el.unnil;exact⟨p,ws,v,rfl,rfl,h1,by rw[h2.1];exact few (by lia),q .non _ .non ⟨_,ay,(h2.app (El.one da)).upd hp⟩⟩
 | _=>cases e⟩
def lg:D->List D->Option (D×D)
 | .lst xs,[.int i]=>if -(2 ^ 63)<=i/\i<2 ^ 63 then(seqIndex? i xs.length).bind fun k=>(xs[k]?).bind fun y=>some (y,.lst (xs.eraseIdx k)) else none
 | _,_=>none
theorem pq:RdM K "list" vg isL lg:=⟨fun Y H p x h e=>tyL h e,fun Y H p x vs ds y x' Q hp ho el e q=>by
 cases x with
 | lst xs =>
  cases ds with
  | nil=>cases e
  | cons d ds =>
   cases d with
   | int i =>
    cases ds with
    | cons _ _=>cases e
    | nil =>
     obtain⟨c,e⟩:=aB e;refine bsO e fun k e1 e=>?_;refine bsO e fun y' e2 e=>?_;cases e;obtain⟨ws,h1,h2⟩:=ho;obtain⟨v,r,rfl,da,el⟩:=el.uncons;obtain rfl:=el.unnil;obtain rfl:=(show v=V.int i from da.ba);obtain⟨u,g1,g2⟩:=h2.at e2;exact⟨p,ws,i,k,u,rfl,rfl,h1,c.1,c.2,by rw[h2.1];exact e1,g1,q u _ (g2.upd hp) ⟨_,ay,(h2.erase k).upd hp⟩⟩
   | _=>cases ds<;>cases e
 | _=>cases e⟩
def pr:D->D->D->Option D
 | .lst xs,.int k,v=>(ixN xs.length k).bind fun j=>some (.lst (xs.set j v))
 | _,_,_=>none
theorem jG:vA K zZ pr:=by
 intro Y H p x k v dk dv x' Q hp ho bk da e q;cases x with
 | lst xs =>
  cases dk with
  | int i =>
   refine bsO e fun j e1 e=>?_;cases e;obtain⟨ws,h1,h2⟩:=ho;exact⟨p,ws,i,j,rfl,bk,h1,by rw[h2.1];exact e1,q _ ⟨_,ay,(h2.set da j).upd hp⟩⟩
  | _=>cases e
 | _=>cases e
def vN(xs:List Str):FA:=fun st=>some (xs.map fun x=>.d (.str x),st)
theorem yB:RdA K (z5 xs) (vN xs):=by
 intro st σ H O Z Q E rs st' e q;cases e;refine q _ H O (Ext.refl _ _) (Kp.refl _) E ?_;clear q;induction xs with
 | nil=>exact .nil
 | cons x r ih=>exact .cons (show DA K _ H (.str x) (.str x) from .str x) ih
end
end VF
namespace VF
open PySem PySem.Spec PyProof.Rows L2
section
variable {X:Cx}{K:Aa}{Y:AS}{H:Hp}{v:V}{d:D}{vs:List V}{ds:List D}
def r6(K:Aa):R2:=fun x y H Q=>(rI0 fun i j=>.int (i+j)) x y H Q∨((∃i j,x=.str i/\y=.str j/\i.length+j.length<=sizeLine/\Q (.str (i++j)) H)∨(D7 x y H Q∨vd K x y H Q))
theorem r9(h:X.K=K):OpR X (binaryOp .Add) (r6 K):=op_add.or (op_add_str.or (op_cat.or (h ▸ ye)))
theorem ro_addA:RdOp K (r6 K) bc:=ro_addI.or (ro_addS.or (ro_cat.or yv))
def CZ:R2:=fun x y H Q=>(rI CMul fun i j=>.int (i*j)) x y H Q∨(∃(a:Str)(n:Int),x=.str a/\y=.int n/\MulOk a n/\Q (.str (Txt.mul a n)) H)
theorem bP:OpR X (binaryOp .Mult) CZ:=op_mul.or qw
theorem bQ:RdOp K CZ cF:=ro_mulI.or yw
def Gz:R2:=fun x y H Q=>(rI0 fun i j=>.bl (decide (i<j))) x y H Q∨(∃i j,x=.str i/\y=.str j/\Q (.bl (decide (i.cps.toList<j.cps.toList))) H)
theorem lh:OpR X (compareOp .Lt) Gz:=op_lt.or tK
theorem lj:RdOp K Gz bLt:=ro_ltI.or Ev
def GA(K:Aa):R2:=fun x y H Q=>(∃i j,x=.str i/\y=.str j/\Q (.bl (!(Builtin.Str.occurrences j i 0 j.length 1).isEmpty)) H)∨rIn K false x y H Q
theorem EC(h:X.K=K):OpR X (compareOp .In) (GA K):=op_in_str.or (h ▸ tR)
theorem ED:RdOp K (GA K) bIn:=ro_inS.or (vL false)
def sd(K:Aa):R2:=fun x y H Q=>(∃i j,x=.str i/\y=.str j/\Q (.bl (!(!(Builtin.Str.occurrences j i 0 j.length 1).isEmpty))) H)∨rIn K true x y H Q
theorem m9(h:X.K=K):OpR X (compareOp .NotIn) (sd K):=op_notin_str.or (h ▸ nR)
theorem na:RdOp K (sd K) iA:=ro_notinS.or (vL true)
def bEq:=vI false
theorem EE(_:X.K=K)(_:X.A.units+64<cLine):OpR X (compareOp .Eq) rEq:=kQ
theorem ro_eqA:RdOp K rEq bEq:=Eu
def EF:D->D->Option Rz
 | .lst xs,.lst []=>some (.bl (!xs.isEmpty),false)
 | _,_=>none
def GB(K:Aa):R2:=fun x y H Q=>∃(a b:Addr)(xs:List V),x=.ref a/\y=.ref b/\SqL K H a xs/\SqL K H b []/\Q (.bl (!xs.isEmpty)) H
theorem EG:RdOp K (GB K) EF:=by
 intro Y H x y d1 d2 z Q lv b1 b2 e q;cases d1 with
 | lst xs =>
  cases d2 with
  | lst ys =>
   cases ys with
   | nil =>
    cases e;obtain⟨p,ws,rfl,hp,el⟩:=b1;obtain⟨p2,zs,rfl,hp2,el2⟩:=b2;obtain rfl:=el2.unnil;refine⟨p,p2,ws,rfl,rfl,.inl (.inl hp),.inl (.inl hp2),?_⟩;have e:ws.isEmpty=xs.isEmpty:=by
     cases ws with
     | nil=>cases xs with
      | nil=>rfl
      | cons _ _=>cases el.1
     | cons _ _=>cases xs with
      | nil=>cases el.1
      | cons _ _=>rfl
    rw[e];exact q _ H (Same.refl H) (.bl _)
   | cons _ _=>cases e
  | _=>cases e
 | _=>cases e
def bNe:=orD (vI true) EF
def EH(K:Aa):R2:=fun x y H Q=>rNe x y H Q∨GB K x y H Q
theorem vO(h:X.K=K)(hu:X.A.units+64<cLine):OpR X (compareOp .NotEq) (EH K):=op_ne.or (by subst h;exact Eg (by lia))
theorem ro_neA:RdOp K (EH K) bNe:=ro_neS.or EG
def EI(K:Aa):V->Option Int->Option Int->Hp->VK->Prop:=fun x lo hi H Q=>D4 K x lo hi H Q∨(DY K x lo hi H Q∨(∃z:Str,x=.str z/\z.length<=sizeLine/\Q (.str (Txt.slice z lo hi)) H))
theorem oa(h:X.K=K):SlR X (EI K):=SlR.or (h ▸ yf) (SlR.or (h ▸ DZ) Ed)
theorem kz:RdSl K (EI K) bSl:=RdSl.or Gu (RdSl.or Gv Gw)
def vP(K:Aa):List V->Hp->VK->Prop:=fun xs H Q=>(∃p ys,xs=[.ref p]/\(SqL K H p ys∨SqT K H p ys)/\Q (.int ys.length) H)∨(∃z:Str,xs=[.str z]/\z.length<=sizeLine/\Q (.int z.length) H)
theorem uk(h:X.K=K):CallR X (.builtin "len") (vP K):=CallR.or (h ▸ nS) nU
theorem cH:RdCB K (vP K) dF:=rc_lenQ.or yA
theorem vQ(z:Str):El K Y H (sgn z) (ph z):=by
 refine⟨by simp[sgn,ph],fun i v d h1 h2=>?_⟩
 unfold sgn at h1;unfold ph at h2;rw[Xb]at h1 h2;obtain⟨c,e1,rfl⟩:=Qd.mp h1;rw[e1]at h2;obtain rfl:=Option.some.inj h2;exact .str _
def vR:List D->Option Rz
 | [.str z]=>if z.cps.size<=1000000 then some (.lst (ph z),true) else none
 | _=>none
def vS:List V->Hp->VK->Prop:=fun xs H Q=>∃z:Str,xs=[.str z]/\z.cps.size<=sizeLine/\∀l,H l=none->Q (.ref l) (upd H l (.lst (sgn z)))
theorem vT:RdCB K vS vR:=by
 intro Y H xs ds z Q lv bs e q;cases bs with
 | nil=>cases e
 | @cons v vs d ds b1 bs =>
  cases bs with
  | cons _ _=>cases d<;>cases e
  | nil =>
   cases d with
   | str a =>
    obtain⟨c,e⟩:=aB e;cases e;exact⟨a,by rw[show v=V.str a from b1],few c,fun r hr=>q _ _ (aI hr _) (fV (vQ a) hr)⟩
   | _=>cases e
def se:List D->Option Rz
 | [.str z]=>if z.cps.size<=1000000 then some (.tup (ph z),false) else none
 | _=>none
def sh:List V->Hp->VK->Prop:=fun xs H Q=>∃z:Str,xs=[.str z]/\z.cps.size<=sizeLine/\∀l,H l=none->Q (.ref l) (upd H l (.tup (sgn z)))
theorem ul:RdCB K sh se:=by
 intro Y H xs ds z Q lv bs e q;cases bs with
 | nil=>cases e
 | @cons v vs d ds b1 bs =>
  cases bs with
  | cons _ _=>cases d<;>cases e
  | nil =>
   cases d with
   | str a =>
    obtain⟨c,e⟩:=aB e;cases e;exact⟨a,by rw[show v=V.str a from b1],few c,fun r hr=>q _ _ (aI hr _) (gB (vQ a) hr lv)⟩
   | _=>cases e
def vU:=orC CW vR
def kA:=orC vM se
def vV(K:Aa):List V->Hp->VK->Prop:=fun xs H Q=>(∃p ys,xs=[.ref p]/\(SqL K H p ys∨SqT K H p ys)/\∀l,H l=none->Q (.ref l) (upd H l (.lst ys)))∨vS xs H Q
def oe(K:Aa):List V->Hp->VK->Prop:=fun xs H Q=>(∃p ys,xs=[.ref p]/\((SqL K H p ys/\∀l,H l=none->Q (.ref l) (upd H l (.tup ys)))∨(SqT K H p ys/\Q (.ref p) H)))∨sh xs H Q
theorem qE(h:X.K=K)(hc:X.calm=true):CallR X (.type "list") (vV K):=CallR.or (h ▸ nV) (kW hc)
theorem px(h:X.K=K)(hc:X.calm=true):CallR X (.type "tuple") (oe K):=CallR.or (h ▸ mz) (ki hc)
theorem vW:RdCB K (vV K) vU:=rc_list.or vT
theorem nh:RdCB K (oe K) kA:=rc_tuple.or ul
def tyN:D->String
 | .non=>"NoneType"
 | .bl _=>"bool"
 | .int _=>"int"
 | .str _=>"str"
 | .tup _=>"tuple"
 | .lst _=>"list"
 | .fl _=>"list"
 | .dk _=>"dict"
 | .dt _=>"dict"
 | .ty _=>"type"
 | .xc _ _ _=>"type"
def vX(n T:String):Bool:=n == T||(n == "bool"&&T == "int")
theorem EJ:∀n∈["NoneType","bool","int","str","tuple","list","dict"],∀T∈["bool","int","str","tuple","list","dict"],
  (if (Value.type n == Value.type T)=true then some true else if PySem.W.kitMeta T=true then(fastBuiltinMro n).map (·.contains (Value.type T)) else none)=some (vX n T):=by decide +kernel
def Hw:List D->Option Rz
 | [d,.ty T]=>if (["bool","int","str","tuple","list","dict"].contains T&&tyN d != "type")=true then some (.bl (vX (tyN d) T),false) else none
 | _=>none
def iY:=Hw
def EK(K:Aa):List V->Hp->VK->Prop:=fun xs H Q=>∃(Y:AS)(x:V)(d:D)(T:String),xs=[x,.ty T]/\BA K Y H x d/\(["bool","int","str","tuple","list","dict"].contains T&&tyN d != "type")=true/\Q (.bl (vX (tyN d) T)) H
theorem gS:RdCB K (EK K) iY:=by
 intro Y H xs ds z Q lv bs e q;cases bs with
 | nil=>cases e
 | @cons v vs d ds b1 bs =>
  cases bs with
  | nil=>cases e
  | @cons v2 vs2 d2 ds2 b2 bs =>
   cases bs with
   | cons _ _=>cases d2<;>cases e
   | nil =>
    cases d2 with
    | ty T =>
     obtain⟨c,e⟩:=aB e;cases e;exact⟨Y,v,d,T,by rw[show v2=V.ty T from b2],b1,c,q _ H (Same.refl H) (.bl _)⟩
    | _=>cases e
theorem of(h:X.K=K):CallR X (.builtin "isinstance") (EK K):=by
 subst h;intro pins s σ H xs us Q I rv h;obtain⟨Y,x,d,T,rfl,b1,c,q⟩:=h;obtain⟨u,w',rfl,rx,ry⟩:=vals2 rv;cases (show w'=Value.type T from ry);rw[Zg]at c;have hT:T∈["bool","int","str","tuple","list","dict"]:=List.contains_iff_mem.mp c.1;have fin:∀tk,EP X pins σ Q (.bool (vX (tyN d) T)) { s with toks:=tk }:=fun tk=>⟨.bl _,H,I.tok tk,rfl,q⟩;have ko:∀n∈["NoneType","bool","int","str","tuple","list","dict"],tyN d=n->PySem.W.kitOne X.K (.type n) (.type T)=some (vX (tyN d) T):=fun n hn e=>by
  rw[e];exact Ef (EJ n hn T hT)
 cases d with
 | non =>
  obtain rfl:=(show x=V.non from b1);exact cQ I rx .non (ko "NoneType" (by decide) rfl) fin
 | bl b =>
  obtain rfl:=(show x=V.bl b from b1);exact cQ I rx (.bl b) (ko "bool" (by decide) rfl) fin
 | int i =>
  obtain rfl:=(show x=V.int i from b1);exact cQ I rx (.int i) (ko "int" (by decide) rfl) fin
 | str z =>
  obtain rfl:=(show x=V.str z from b1);exact cQ I rx (.str z) (ko "str" (by decide) rfl) fin
 | ty n=>exact absurd c.2 (by simp[tyN])
 | xc _ _ _=>exact absurd c.2 (by simp[tyN])
 | lst ds =>
  obtain⟨a,vs,rfl,h1,_⟩:=b1;exact cQ I rx (.lst h1) (ko "list" (by decide) rfl) fin
 | fl ds =>
  obtain⟨a,vs,rfl,h1,_⟩:=b1;cases (show u=Value.ref a from rx);obtain⟨its,_,pl,_⟩:=I.list h1.sq;obtain⟨o,ho,hc,_⟩:=pl.isList;exact Ar B7 I.kIn ⟨o,ho,hc⟩ (ko "list" (by decide) rfl) (fun z=>nomatch z) fin
 | tup ds =>
  obtain⟨a,vs,rfl,h1,_⟩:=b1;cases (show u=Value.ref a from rx);obtain⟨its,_,pl,_⟩:=I.tuple h1.sq;obtain⟨o,ho,hc,_⟩:=pl;exact Ar PySem.W.kitx_tuple I.kIn ⟨o,ho,hc⟩ (ko "tuple" (by decide) rfl) (fun z=>nomatch z) fin
 | dk ds =>
  obtain⟨a,vs,rfl,h1,_⟩:=b1;exact cQ I rx (.dK h1) (ko "dict" (by decide) rfl) fin
 | dt ds =>
  obtain⟨a,ep,vs,rfl,_,h1,_⟩:=b1;exact cQ I rx (.dT h1) (ko "dict" (by decide) rfl) fin
theorem kl(l:Addr)(its:Array Value)(n:Nat)(b:Addr)(more:Array Value)(m:Nat)(dd:Option Addr)(sl:Array (Option Value))(h0:¬(!its.isEmpty&&Builtin.List.listTooLong (its.size+more.size))=true)(h1:its.size<=sizeLine)(h2:its.size+more.size<=sizeLine+1) :
  Meets (Builtin.«list.extend» ⟨[.ref l,.ref b],[]⟩) (fun _ R s=>s.heap.get? l=some { cls:=.type "list",dict:=none,data:=.seq its n,slots:=#[] }/\s.heap.get? b=some { cls:=.type "tuple",dict:=dd,data:=.seq more m,slots:=sl }/\R (.ok (.ret Value.none)) { s with heap:=s.heap.update l (Obj.mapSeq fun x=>x++more),toks:=s.toks }) :=
 .of_wp fun prog w A R s0 hh=>by
  obtain⟨hp,gg,dp,tks,oo⟩:=s0;obtain⟨hl,hb,hR⟩:=hh;have a1:=AutoSeq1.idx_int;have a2:=AutoSeq1.sub_tuple_tuple;have a3:=AutoSeq1.sub_list_list;have a4:=AutoSeq1.sub_tuple_list;have a5:=AutoSeq1.sub_list_tuple;have fits:(its++more).size<=sizeLine+1:=by
   rw[Array.size_append];exact h2
  wp_walk using (wpAny_updateSeq hl rfl (hz:=h1) (_hz':=fits)),BI hl,BI hb
  exact⟨_,rfl,hR⟩
def C0(K:Aa):V->List V->Hp->VK->Prop:=fun x vs H Q=>∃l b xs zs,x=.ref l/\vs=[.ref b]/\H l=some (.lst xs)/\SqT K H b zs/\xs.length+zs.length<=sizeLine/\Q .non (upd H l (.lst (xs++zs)))
theorem yC(h:X.K=K):MtM X "list.extend" (C0 K):=by
 subst h;intro pins s σ H x vs v us Q I rx rv h;obtain⟨l,b,xs,zs,rfl,rfl,hH,hB,hz,q⟩:=h;cases rx;obtain⟨u,rfl,ru⟩:=rv.one;cases ru;obtain⟨z,its,n,r,hl,e⟩:=I.lstM hH;obtain⟨its2,r2,pl,hz2⟩:=I.tuple hB;obtain⟨⟨c2,dd2,d2,sl2⟩,ho2,hc2,n2,hd2⟩:=id pl;obtain rfl:c2=.type "tuple":=hc2;obtain rfl:d2=.seq its2.toArray n2:=hd2;have hl2:=r2.length;have hsz:its.toArray.size+its2.toArray.size<=sizeLine:=by rw[Qa,Qa];lia
 have hlong:¬ (!its.toArray.isEmpty&&Builtin.List.listTooLong (its.toArray.size+its2.toArray.size))=true:=by
  rw[o6 hsz,Bool.and_false];exact Qb
 refine BY F.slot_list_extend ⟨_,e,rfl⟩ F.entry_list_extend (F.args_list_extend_2 _ _)
  (kl l its.toArray n b its2.toArray n2 dd2 sl2 hlong (by rw[Qa];lia) (by lia)) ⟨e,ho2,?_⟩
 refine⟨.non,_,I.lset (its':=its++its2) hH e (by simp) (r.append r2) ?_,rfl,q⟩
 rw[Yb];lia
def C1(K:Aa):V->List V->Hp->VK->Prop:=fun x vs H Q=>rO x vs H Q∨C0 K x vs H Q
theorem iB(h:X.K=K)(_:X.calm=true):MtM X "list.extend" (C1 K):=by
 intro pins s σ H x vs v us Q I rx rv hh;rcases hh with hh|hh
 ·exact tT pins s σ H x vs v us Q I rx rv hh
 ·exact yC h pins s σ H x vs v us Q I rx rv hh
def iZ:D->List D->Option (D×D)
 | .lst xs,[.lst ys]=>if xs.length+ys.length<=1000000 then some (.non,.lst (xs++ys)) else none
 | .lst xs,[.tup ys]=>if xs.length+ys.length<=1000000 then some (.non,.lst (xs++ys)) else none
 | _,_=>none
theorem jH:RdM K "list" (C1 K) isL iZ:=⟨fun Y H p x h e=>tyL h e,fun Y H p x vs ds y x' Q hp ho el e q=>by
 cases x with
 | lst xs =>
  cases ds with
  | nil=>cases e
  | cons d ds =>
   cases ds with
   | cons _ _=>cases d<;>cases e
   | nil =>
    obtain⟨ws,h1,h2⟩:=ho;obtain⟨v,r,rfl,da,el⟩:=el.uncons;obtain rfl:=el.unnil;cases d with
    | lst ys =>
     obtain⟨c,e⟩:=aB e;cases e;cases da with
     | @lst a us _ g0 g1 g2 g3=>exact .inl ⟨p,a,ws,us,rfl,rfl,h1,g1,by rw[h2.1,g2];exact few c,q .non _ .non ⟨_,ay,(h2.app ⟨g2,g3⟩).upd hp⟩⟩
    | tup ys =>
     obtain⟨c,e⟩:=aB e;cases e;cases da with
     | @tup a us _ g1 g2 g3=>exact .inr ⟨p,a,ws,us,rfl,rfl,h1,g1.sq,by rw[h2.1,g2];exact few c,q .non _ .non ⟨_,ay,(h2.app ⟨g2,g3⟩).upd hp⟩⟩
    | _=>cases e
 | _=>cases e⟩
def GC(K:Aa)(tl:TE):TI:=fun σ H R=>rD K tl σ H R∨(DK K tl σ H R∨Eb tl σ H R)
theorem cT(h:X.K=K)(hl:PE X l tl):PI X tg l (GC K tl):=by
 subst h;intro pins s σ H R I hh;rcases hh with hh|hh|hh
 ·exact xY hl pins s σ H R I hh
 ·exact DL hl pins s σ H R I hh
 ·exact Ec hl pins s σ H R I hh
def fIA(fe:FE):FI:=fun st=>match fIL fe st with
 | some z=>some z
 | none=>match fIT fe st with
  | some z=>some z
  | none=>fIS fe st
theorem cU(h:RdE K te fe):RdI K (GC K te) (fIA fe):=by
 intro st σ H O Z R E items st' e q;unfold fIA at e;split at e
 ·rename_i z ez
  cases e;exact .inl (yo h st σ H O Z R E items st' ez q)
 ·split at e
  ·rename_i z ez
   cases e;exact .inr (.inl (Ei h st σ H O Z R E items st' ez q))
  ·exact .inr (.inr (Ek h st σ H O Z R E items st' e q))
end
end VF
namespace VF
open PySem PySem.Spec PyProof.Rows L2
section
variable {X:Cx}{K:Aa}
theorem boot_reversed:bootBuiltins "reversed"=some (.type "reversed"):=by decide +kernel
end
end VF
namespace VF
open PySem PySem.Spec PyProof.Rows L2
section
variable {X:Cx}{K:Aa}{Y:AS}{H:Hp}{v:V}{d:D}{vs:List V}{ds:List D}
def leS(a b:Str):Prop:=¬ b.cps.toList<a.cps.toList
instance (a b:Str):Decidable (leS a b):=by unfold leS;infer_instance
theorem ni(h:leS a b)(g:leS b c):leS a c:=by
 unfold leS at *;rw[Ce]at *;exact List.le_trans h g
theorem um(a b:Str):leS a b∨leS b a:=by
 unfold leS;rw[Ce,Ce];exact List.le_total _ _
theorem pz(h:leS a b)(g:leS b a):a=b:=by
 unfold leS at *;rw[Ce]at *;have e:=List.le_antisymm h g;cases a;cases b;exact congrArg Str.mk (Array.toList_inj.mp e)
def be(xs:List Str):List Str:=xs.mergeSort fun a b=>decide (leS a b)
theorem aG(xs:List Str):(be xs).Perm xs:=List.mergeSort_perm xs _
theorem iC(xs:List Str):(be xs).Pairwise leS:=by
 have:=List.pairwise_mergeSort (le:=fun a b=>decide (leS a b)) (fun a b c h g=>Ai (ni (Ak h) (Ak g))) (fun a b=>by
  rcases um a b with h|h
  ·rw[Ai h];rfl
  ·rw[Ai h,Zk]) xs
 exact this.imp fun h=>Ak h
theorem qF{xs zs:List Str}(p:zs.Perm xs)(h:zs.Pairwise leS):zs=be xs :=
 (p.trans (aG xs).symm).eq_of_pairwise (fun a b _ _ h g=>pz h g) h (iC xs)
theorem jZ:∀(l:List Str)(p:Str),risingS p l=true->(p::l).Pairwise leS
 | [],p,_=>by simp
 | x::l,p,h=>by
  have h0:(!ltCps x.cps.toList p.cps.toList&&risingS x l)=true:=h;have h':(decide (leS p x)&&risingS x l)=true:=by
   rw[ltCps_eq]at h0;rw[Zg]at h0 ⊢;refine⟨Ai ?_,h0.2⟩;have:=h0.1;simpa[leS]using this
  rw[Zg]at h';have ih:=jZ l x h'.2;rw[List.pairwise_cons]at ih ⊢;refine⟨fun y hy=>?_,List.pairwise_cons.mpr ih⟩;rcases Xd.mp hy with rfl|hy
  ·exact Ak h'.1
  ·exact ni (Ak h'.1) (ih.1 y hy)
def si(K:Aa):List V->Hp->VK->Prop:=fun xs H Q=>∃(p:Addr)(ys:List Str),xs=[.ref p]/\SqL K H p (ys.map V.str)/\ys.length<64/\∀l,H l=none->Q (.ref l) (upd H l (.lst ((be ys).map V.str)))
theorem nk:∀{us:List Value}{ys:List Str},StrsAre us ys->Vals (ys.map V.str) us
 | _,_,.nil=>.nil
 | _,_,.cons x t r=>.cons ⟨t,rfl⟩ (nk r)
theorem boot_sorted:bootBuiltins "sorted"=some (.builtin "sorted"):=by decide +kernel
theorem og(h:X.K=K)(_:X.calm=true)(_:Room n X.A):CallR X (.builtin "sorted") (si K):=by
 subst h;intro pins s σ H xs us Q I rv h;obtain⟨p,ys,rfl,hq,hn,q⟩:=h;obtain⟨u,rfl,ru⟩:=vals1 rv;cases ru;obtain⟨its,r,pl,hz⟩:=I.list hq;have hl:its.length=ys.length:=by have:=r.length;rw[Ya]at this;exact this.symm
 have hs:=Bj;refine sorted_strs pl.isList (kU r) (by lia) fun out ss' a1 a2 a3=>?_
 obtain⟨e,he⟩:=sortedAll_at s.heap its out;have pw:ss'.Pairwise leS:=by
  cases ss' with
  | nil=>exact List.Pairwise.nil
  | cons x l=>exact jZ l x a3
 have eq:ss'=be ys:=qF a2 pw;subst eq;have hlen:(be ys).length=ys.length:=(aG ys).length_eq;refine⟨.ref (s.heap.objs.size+1),upd H (s.heap.objs.size+1) (.lst ((be ys).map V.str)),I.laid (t':=s.toks) (fun b o z=>sortedAll_old z) (BP _) ⟨by rw[Ya];lia,out.toList,e,nk a1,by simpa using he⟩,rfl,q _ (I.hok.fresh (BP _))⟩
theorem yD(xs:List Str):El K Y H (xs.map V.str) (xs.map D.str):=by
 refine⟨by simp,fun i v d h1 h2=>?_⟩
 rw[Xb]at h1 h2;obtain⟨c,e1,rfl⟩:=Qd.mp h1;rw[e1]at h2;obtain rfl:=Option.some.inj h2;exact .str _
def oh:List D->Option Rz
 | [.lst ds]=>(gC ds).bind fun ys=>if ys.length<64 then some (.lst ((be ys).map D.str),true) else none
 | _=>none
theorem uo:RdCB K (si K) oh:=by
 intro Y H xs ds z Q lv bs e q;cases bs with
 | nil=>cases e
 | @cons v vs d ds b1 bs =>
  cases bs with
  | cons _ _=>cases d<;>cases e
  | nil =>
   cases d with
   | lst a =>
    refine bsO e fun ys e1 e=>?_;obtain⟨c,e⟩:=aB e;cases e;obtain⟨p,xs,rfl,hp,el⟩:=b1;obtain rfl:=jF el e1;exact⟨p,ys,rfl,.inl (.inl hp),c,fun r hr=>q _ _ (aI hr _) (fV (yD _) hr)⟩
   | _=>cases e
end
end VF
namespace VF
open PySem L2
section
variable {K:Aa}
theorem sj{X:Cx}(hg:Gl X x)(hm:X.mg x=none)(hv:bootBuiltins x=some (.type T))(hn:x≠"__name__":=by decide)(hd:(x == ("__debug__":Str))=false:=by decide):PE X (.Name x pos) (tC (.ty T)):=xV hg hm hv rfl hn hd
def ss(K:Aa):Sp:=fun vs H Q _=>∃(a:Addr)(ns:List Int),vs=[.ref a]/\SqL K H a (ns.map V.int)/\ns.length<=63/\∀H',Q (.bl true) H'
end
end VF
namespace VF
open PySem L2
section
variable {st st1 st2 st3 s s1 s2:En}{r r1 r2:Rs}{d d1 d2 x y x':D}{ds es:List D}{rs:List Rs}{z:Rz}{o:Ot}{i k n m:Nat}{F G B:FS}{fa fb fe fi':FE}{fr:FA}{f g:FT}{fi:FI}{fg:FG}{caps:List Nat}
theorem aw(h:F st=some (.nx s))(h2:G s=a):aK F G st=a:=by simp only[aK,h,Xa];exact h2
theorem oi(h:F st=some (.rt r s)):aK F G st=some (.rt r s):=by simp only[aK,h,Xa]
theorem i8(h:f st=some (true,s))(h2:F s=a):sIf f F G st=a:=by simp only[sIf,h,Xa,if_true];exact h2
theorem gp(h:f st=some (false,s))(h2:G s=a):sIf f F G st=a:=by simp only[sIf,h,Xa,Zf,if_false];exact h2
theorem cw(h:fe st=some (.d x,s))(h2:iT i (.v x) s=some s1):aR fe i st=some (.nx s1):=by simp only[aR,h,Xa,h2]
theorem dj(h:fe st=some (.f x,s))(h2:iT i (.o x) s=some s1):aR fe i st=some (.nx s1):=by simp only[aR,h,Xa,h2]
theorem cJ(h:fe st=some (r,s)):cP fe st=some (.nx s):=by simp only[cP,h,Xa]
theorem bK(h:fe st=some (r,s)):bT fe st=some (.rt r s):=by simp only[bT,h,Xa]
theorem aq(h1:fa st=some (r1,s1))(h2:fb s1=some (r2,s2))(h3:cont s2 r1=some d1)(h4:cont s2 r2=some d2)(h5:b d1 d2=some z)(hz:mk z=r:=by rfl):fOp b fa fb st=some (r,s2):=by
 simp only[fOp,h1,h2,h3,h4,h5,hz,Xa]
theorem aA(h1:fa st=some (r,s1))(h2:fr s1=some (rs,s2)):ad fa fr st=some (r::rs,s2):=by simp only[ad,h1,h2,Xa]
theorem bv(h1:fr st=some (rs,s1))(h2:bG s1 rs=some ds)(h3:b ds=some z)(hz:mk z=r:=by rfl):fCB b fr st=some (r,s1):=by simp only[fCB,h1,h2,h3,hz,Xa]
theorem cK(h1:fr st=some (rs,s1))(h2:bz rs s1=some (ds,s2))(h3:b ds=some z)(hz:mk z=r:=by rfl):cO b fr st=some (r,s2):=by simp only[cO,h1,h2,h3,hz,Xa]
theorem aX(h1:fr st=some (rs,s1))(h2:bG s1 rs=some ds)(h3:b ds=some (d,false))(h4:d.isSc=true):bH b fr st=some (.d d,s1):=by
 simp only[bH,h1,h2,h3,Xa,h4];rfl
theorem bR{t t0:Sl}(h0:st[i]?=some t0)(h00:t0.ow=some x0)(h1:fr st=some (rs,s1))(h2:bz rs s1=some (ds,s2))(h3:s2[i]?=some t)(h4:t.ow=some x)(h5:b x ds=some (z,x'))(hz:mk z=r:=by rfl)(h6:s2.set i (t.put x')=st3:=by rfl):fIO b i fr st=some (r,st3):=by
 simp only[fIO,h0,h00,h1,h2,h3,h4,h5,h6,hz,Xa]
theorem km{t t0:Sl}(h0:st[i]?=some t0)(h00:t0.ow=some x0)(hk:ok x0=true)(h1:fr st=some (rs,s1))(h2:bz rs s1=some (ds,s2))(h3:s2[i]?=some t)(h4:t.ow=some x)(h5:mm x ds=some (y,x'))(h6:s2.set i (t.put x')=st3:=by rfl):fM ok mm i fr st=some (.d y,st3):=by
 simp only[fM,h0,h00,hk,h1,h2,h3,h4,h5,h6,Xa,if_true]
theorem aH(h:fe st=some (r,s))(h2:tru s r=some c):aV fe st=some (c,s):=by simp only[aV,h,h2,Xa]
theorem iD(h:f st=some (c,s)):gz f st=some (!c,s):=by simp only[gz,h,Xa]
theorem qG(h:f st=some (false,s))(h2:g s=a):kj f g st=a:=by simp only[kj,h,Xa,Zf,if_false];exact h2
theorem Hx(h:f st=some (true,s)):kj f g st=some (true,s):=by simp only[kj,h,Xa,if_true]
theorem dP(h1:fi st=some (ds,s1))(h2:(n4 caps s1.length&&decide (ds.length<=1000000))=true)(h3:dL fg fc fe k ds (hX k caps s1)=some (es,s2))(h4:wb caps (s2.drop k) s1=st3:=by rfl):fG k caps fi fg fc fe st=some (.f (.lst es),st3):=by
 simp only[fG,h1,Xa];rw[Ad h2,h3,← h4];rfl
theorem dG(h1:fi st=some (ds,s1))(h2:ie fg B ds s1=some o):iy fi fg B st=some o:=by simp only[iy,h1,Xa];exact h2
theorem bw(h0:ds.length=m)(h1:F (eZ n ds)=some o)(h2:fin o=some z):bq F n m ds=some z:=by
 simp only[bq,Ad h0,h1,Xa];exact h2
theorem cx(h0:ds.length+1=m)(h1:F (fj n x ds)=some o)(h2:z9 o=some w):cE F n m x ds=some w:=by
 simp only[cE,Ad h0,h1,Xa];exact h2
end
end VF
namespace VF
open PySem L2
theorem ix_str{z:Str}(hz:z.length<=1000000)(h:atI z.cps.toList i=some c):bIx (.str z) (.int i)=some (.str ⟨#[c]⟩,false):=by
 have e1:ue (.str z) (.int i)=none:=rfl;have e2:yx (.str z) (.int i)=none:=rfl;have e3:Ew (.str z) (.int i)=some (.str ⟨#[c]⟩,false):=by
  show(if z.length<=1000000 then(atI z.cps.toList i).bind (fun c=>some (D.str ⟨#[c]⟩,false)) else none)=_;rw[Ad hz,h];rfl
 unfold bIx orD;rw[e1,e2];exact e3
theorem i9{a b:Str}(h:a.length+b.length<=1000000):bc (.str a) (.str b)=some (.str (a++b),false):=by
 have e1:m5 (.str a) (.str b)=none:=rfl;have e2:m6 (.str a) (.str b)=some (.str (a++b),false):=by
  show(if a.length+b.length<=1000000 then some (D.str (a++b),false) else none)=_;rw[Ad h]
 unfold bc orD;rw[e1,e2]
theorem sv{a:Str}(h:0<=n/\n<=1000/\a.length<=1000):cF (.str a) (.int n)=some (.str (Txt.mul a n),false):=by
 have e1:rY (.str a) (.int n)=none:=rfl;have e2:vJ (.str a) (.int n)=some (.str (Txt.mul a n),false):=by
  show(if 0<=n/\n<=1000/\a.length<=1000 then some (D.str (Txt.mul a n),false) else none)=_;rw[Ad h]
 unfold cF orD;rw[e1,e2]
theorem iE:∀xs:List Str,gC (xs.map D.str)=some xs
 | []=>rfl
 | x::r=>by
  show(gC (r.map D.str)).bind (fun xs=>some (x::xs))=_;rw[iE r];rfl
theorem nr:∀xs:List Str,lc (xs.map D.str)=some (xs.map V.str)
 | []=>rfl
 | x::r=>by
  show(lc (r.map D.str)).bind (fun vs=>some (V.str x::vs))=_;rw[nr r];rfl
theorem GD{xs:List Str}:bIn (.str x) (.lst (xs.map D.str))=some (.bl (decide (x∈xs)),false):=by
 have e1:qC false (.str x) (.lst (xs.map D.str))=none:=rfl;have e2:vK false (.str x) (.lst (xs.map D.str))=some (.bl (decide (x∈xs)),false):=by
  show(lc (xs.map D.str)).bind (fun ws=>some (D.bl (inV (.str x) ws),false))=_;rw[nr];show some (D.bl (inV (.str x) (xs.map V.str)),false)=_;have e:inV (.str x) (xs.map V.str)=decide (x∈xs):=by
   unfold inV;rw[B9];induction xs with
   | nil=>rfl
   | cons y r ih =>
    rw[Ql,ih rfl];show((y == x)||decide (x∈r))=_;by_cases e:y=x
    ·subst e;simp
    ·have e':¬ x=y:=fun z=>e z.symm;simp[e,e']
  rw[e]
 unfold bIn orD;rw[e1];exact e2
theorem vY{z:Str}(h:z.length<=1000000):bSl (.str z) lo hi=some (.str (Txt.slice z lo hi),false):=by
 have e1:yy (.str z) lo hi=none:=rfl;have e2:n9 (.str z) lo hi=none:=rfl;have e3:yz (.str z) lo hi=some (.str (Txt.slice z lo hi),false):=by
  show(if z.length<=1000000 then some (D.str (Txt.slice z lo hi),false) else none)=_;rw[Ad h]
 unfold bSl orS;rw[e1,e2];exact e3
section
variable {st s s1 s2 s3:En}{r r1:Rs}{rs:List Rs}{d d0 d1:D}{ds:List D}{z:Rz}{fe fo:FE}{fa:FA}{fl fh:FO}
theorem GE(h1:fo st=some (r1,s1))(h2:cont s1 r1=some d0)(h3:EB T d0=true)(h4:fa s1=some (rs,s2))(h5:cont s2 r1=some d)(h6:bG s2 rs=some ds)(h7:b d ds=some z)(hz:mk z=r:=by rfl):fBM T b fo fa st=some (r,s2):=by
 simp only[fBM,h1,h2,h3,h4,h5,h6,h7,hz,Xa,if_true]
theorem ja{j:Int}(h1:fa st=some (rs,s1))(h2:bG s1 rs=some [.int j])(h3:-(2 ^ 62)<=j/\j<2 ^ 62):pf fa st=some (rng 0 j.toNat,s1):=by
 simp only[pf,h1,h2,Xa,qx];rw[Ad h3]
theorem pA(h1:fe st=some (r,s1))(h2:fl s1=some (lo,s2))(h3:fh s2=some (hi,s3))(h4:cont s3 r=some d)(h5:b d lo hi=some z)(hz:mk z=r':=by rfl):fSl b fe fl fh st=some (r',s3):=by
 simp only[fSl,h1,h2,h3,h4,h5,hz,Xa]
theorem C2{f:FT}{fa fb:FE}{a:Option (Rs×En)}(h:f st=some (true,s))(h2:fa s=a):fIf f fa fb st=a:=by simp only[fIf,h,Xa,if_true];exact h2
theorem C3{f:FT}{fa fb:FE}{a:Option (Rs×En)}(h:f st=some (false,s))(h2:fb s=a):fIf f fa fb st=a:=by simp only[fIf,h,Xa,Zf,if_false];exact h2
theorem jb(h1:fe st=some (r,s1))(h2:esc r s1=some (.lst ds,s2)):fIA fe st=some (ds,s2):=by
 have:fIL fe st=some (ds,s2):=by simp only[fIL,h1,h2,Xa,D.its]
 unfold fIA;rw[this]
theorem sw(h1:fe st=some (r,s1))(h2:esc r s1=some (.tup ds,s2)):fIA fe st=some (ds,s2):=by
 have e1:fIL fe st=none:=by simp only[fIL,h1,h2,Xa,D.its,Option.bind_none]
 have e2:fIT fe st=some (ds,s2):=by simp only[fIT,h1,h2,Xa,D.itt]
 unfold fIA;rw[e1,e2]
theorem qH(h1:fa st=some (rs,s1))(h2:bz rs s1=some (ds,s2))(h3:ds.length<=1000000):pd fa st=some (.d (.tup ds),s2):=by
 simp only[pd,h1,h2,Xa];rw[Ad h3]
end
end VF
namespace VF
open PySem L2
section
variable {K:Aa}
def b1(g:D->Option D):List D->Option Rz
 | [d]=>(g d).map fun r=>(r,false)
 | _=>none
def b2(g:D->D->Option D):List D->Option Rz
 | [d,d']=>(g d d').map fun r=>(r,false)
 | _=>none
theorem vZ(h:∀(Y:AS)(H:Hp)(v:V)(d o:D)(Q:VK),BA K Y H v d->g d=some o->(∀u,DA K Y H u o->Q u H)->r [v] H Q):RdCB K r (b1 g):=by
 intro Y H xs ds z Q lv bs e q;cases bs with
 | nil=>cases e
 | @cons v vs d ds c1 bs =>
  cases bs with
  | cons _ _=>cases e
  | nil =>
   obtain⟨o,eo,rfl⟩:=Qd.mp e;exact h Y H v d o Q c1 eo fun u hu=>q u H (Same.refl H) hu
theorem EL(h:∀(Y:AS)(H:Hp)(v w:V)(d d' o:D)(Q:VK),BA K Y H v d->BA K Y H w d'->g d d'=some o->(∀u,DA K Y H u o->Q u H)->r [v,w] H Q):RdCB K r (b2 g):=by
 intro Y H xs ds z Q lv bs e q;cases bs with
 | nil=>cases e
 | @cons v vs d ds c1 bs =>
  cases bs with
  | nil=>cases e
  | @cons w ws d' ds' c2 bs =>
   cases bs with
   | cons _ _=>cases e
   | nil =>
    obtain⟨o,eo,rfl⟩:=Qd.mp e;exact h Y H v w d d' o Q c1 c2 eo fun u hu=>q u H (Same.refl H) hu
def qI:D->Option D
 | .int i=>some (.int (if i<0 then -i else i))
 | _=>none
theorem oj:RdCB K (fun xs H Q=>∃i,xs=[.int i]/\Q (.int (if i<0 then -i else i)) H) (b1 qI):=vZ fun Y H v d o Q c e q=>by
 cases d with
 | int i=>cases e;exact⟨i,by rw[show v=V.int i from c],q _ (.int _)⟩
 | _=>cases e
def EM:D->D->Option D
 | .int i,.int j=>some (.int (if j<i then j else i))
 | _,_=>none
theorem yE:RdCB K (fun xs H Q=>∃i j,xs=[.int i,.int j]/\Q (.int (if j<i then j else i)) H) (b2 EM):=EL fun Y H v w d d' o Q c c' e q=>by
 cases d with
 | int i =>
  cases d' with
  | int j=>cases e;exact⟨i,j,by rw[show v=V.int i from c,show w=V.int j from c'],q _ (.int _)⟩
  | _=>cases e
 | _=>cases e
def yF:D->Option D
 | .int i=>some (.int i)
 | .bl k=>some (.int (if k then 1 else 0))
 | _=>none
theorem ol:RdCB K (fun xs H Q=>(∃i,xs=[.int i]/\Q (.int i) H)∨∃k,xs=[.bl k]/\Q (.int (if k then 1 else 0)) H) (b1 yF):=vZ fun Y H v d o Q c e q=>by
 cases d with
 | int i=>cases e;exact .inl ⟨i,by rw[show v=V.int i from c],q _ (.int _)⟩
 | bl k=>cases e;exact .inr ⟨k,by rw[show v=V.bl k from c],q _ (.int _)⟩
 | _=>cases e
end
end VF
namespace VF
open PySem L2
inductive Pl:Nat->D->Prop where
 | non (n:Nat):Pl (n+1) .non
 | int (n:Nat) (i:Int):Pl (n+1) (.int i)
 | str (n:Nat) (x:Str):Pl (n+1) (.str x)
 | tup {n:Nat} {ds:List D}:(∀d∈ds,Pl n d)->Pl (n+1) (.tup ds)
 | lst {n:Nat} {ds:List D}:(∀d∈ds,Pl n d)->Pl (n+1) (.lst ds)
inductive RH(h:Heap):Value->D->Prop where
 | non:RH h .none .non
 | int (i:Int) (t:Tok):RH h (.int i t) (.int i)
 | str (x:Str) (t:Tok):RH h (.str x t) (.str x)
 | tup {a:Addr} {its:List Value} {ds:List D}:h.IsTuple a its.toArray->its.length=ds.length->(∀(i:Nat) u d,its[i]?=some u->ds[i]?=some d->RH h u d)->RH h (.ref a) (.tup ds)
 | lst {a:Addr} {its:List Value} {ds:List D}:h.IsList a its.toArray->its.length=ds.length->(∀(i:Nat) u d,its[i]?=some u->ds[i]?=some d->RH h u d)->RH h (.ref a) (.lst ds)
section
variable {X:Cx}{K:Aa}{Y:AS}{H:Hp}{s:Shared}{pins:List (Addr×Obj)}{σ:St}
theorem eK:∀{vs:List V}{us:List Value},Vals vs us->∀(i:Nat) u,us[i]?=some u->∃v,vs[i]?=some v/\RelV v u
 | _,_,.nil,i,u,h=>by simp at h
 | v::_,w::_,.cons r rs,0,u,h=>by
  have e:w=u:=by simpa using h
  exact⟨v,rfl,e ▸ r⟩
 | _::_,_::_,.cons r rs,i+1,u,h=>by
  obtain⟨v,h1,h2⟩:=eK rs i u (by simpa using h)
  exact⟨v,by simpa using h1,h2⟩
theorem DA.rh(h:DA K Y H v d)(p:Pl n d)(I:Inv X pins σ H s)(hK:X.K=K):∀{u:Value},RelV v u->RH s.heap u d:=by
 induction h generalizing n with
 | non=>intro u r;cases r;exact .non
 | bl b=>cases p
 | int i=>intro u r;obtain⟨t,rfl⟩:=r;exact .int i t
 | str x=>intro u r;obtain⟨t,rfl⟩:=r;exact .str x t
 | ty n=>cases p
 | fl _ _ _ _=>cases p
 | dk _ _ _ _ _=>cases p
 | dt _ _ _ _ _ _=>cases p
 | xc _=>cases p
 | @tup a vs ds h1 h2 h3 ih =>
  intro u r;cases r;cases p with
  | tup p =>
   obtain⟨its,r,t,_⟩:=I.tuple (hK ▸ h1.sq);refine .tup t (r.length.symm.trans h2) fun i u d e1 e2=>?_;obtain⟨v,e3,rv⟩:=eK r i u e1;exact ih i v d e3 e2 (p d (Yd e2)) rv
 | @lst a vs ds h0 h1 h2 h3 ih =>
  intro u r;cases r;cases p with
  | lst p =>
   obtain⟨its,r,t,_⟩:=I.list (show SqL X.K H a vs from .inl (.inl h1));refine .lst t.isList (r.length.symm.trans h2) fun i u d e1 e2=>?_;obtain⟨v,e3,rv⟩:=eK r i u e1;exact ih i v d e3 e2 (p d (Yd e2)) rv
theorem BA.rh(h:BA K Y H v d)(p:Pl n d)(I:Inv X pins σ H s)(hK:X.K=K)(ru:RelV v u):RH s.heap u d:=by
 cases p with
 | non=>cases (show v=.non from h);cases ru;exact .non
 | int _ i=>cases (show v=.int i from h);obtain⟨t,rfl⟩:=ru;exact .int i t
 | str _ x=>cases (show v=.str x from h);obtain⟨t,rfl⟩:=ru;exact .str x t
 | tup p =>
  obtain⟨a,vs,rfl,h1,el⟩:=h;cases ru;obtain⟨its,r,t,_⟩:=I.tuple (hK ▸ h1.sq);refine .tup t (r.length.symm.trans el.1) fun i u d e1 e2=>?_;obtain⟨v,e3,rv⟩:=eK r i u e1;exact(el.2 i v d e3 e2).rh (p d (Yd e2)) I hK rv
 | lst p =>
  obtain⟨a,vs,rfl,h1,el⟩:=h;cases ru;obtain⟨its,r,t,_⟩:=I.list (show SqL X.K H a vs from .inl (.inl h1));refine .lst t.isList (r.length.symm.trans el.1) fun i u d e1 e2=>?_;obtain⟨v,e3,rv⟩:=eK r i u e1;exact(el.2 i v d e3 e2).rh (p d (Yd e2)) I hK rv
theorem uq{h:Heap}(h1:h.IsTuple a x)(h2:h.IsTuple a y):x=y:=by
 obtain⟨o,e1,_,n,d1⟩:=h1;obtain⟨o',e2,_,n',d2⟩:=h2;rw[e1]at e2;cases e2;rw[d1]at d2;cases d2;rfl
theorem qJ{h:Heap}(h1:h.IsList a x)(h2:h.IsList a y):x=y:=by
 obtain⟨o,e1,_,n,d1⟩:=h1;obtain⟨o',e2,_,n',d2⟩:=h2;rw[e1]at e2;cases e2;rw[d1]at d2;cases d2;rfl
theorem pB{h:Heap}(h1:h.IsList a x)(h2:h.IsTuple a y):False:=by
 obtain⟨o,e1,c1,_⟩:=h1;obtain⟨o',e2,c2,_⟩:=h2;rw[e1]at e2;cases e2;rw[c1]at c2;injection c2 with c2;exact absurd c2 (by decide)
theorem RH.inj(r:RH h u d):∀{d':D},RH h u d'->d=d':=by
 induction r with
 | non=>intro d' r';cases r';rfl
 | int i t=>intro d' r';cases r';rfl
 | str x t=>intro d' r';cases r';rfl
 | @tup a its ds t hl _ ih =>
  intro d' r';cases r' with
  | @tup _ its' ds' t' hl' f =>
   have e:its=its':=by simpa using uq t t'
   subst e;have:ds=ds':=by
    refine BB (hl.symm.trans hl') fun i h1 h2=>?_;exact ih i its[i] ds[i] (Za (by lia)) (Za h1) (f i its[i] ds'[i] (Za (by lia)) (Za h2))
   rw[this]
  | lst t' _ _=>exact(pB t' t).elim
 | @lst a its ds t hl _ ih =>
  intro d' r';cases r' with
  | @lst _ its' ds' t' hl' f =>
   have e:its=its':=by simpa using qJ t t'
   subst e;have:ds=ds':=by
    refine BB (hl.symm.trans hl') fun i h1 h2=>?_;exact ih i its[i] ds[i] (Za (by lia)) (Za h1) (f i its[i] ds'[i] (Za (by lia)) (Za h2))
   rw[this]
  | tup t' _ _=>exact(pB t t').elim
open Classical in
theorem v4{xs ys:List D}(h:xs.length=ys.length):((List.range xs.length).all fun j=>decide (xs[j]?=ys[j]?))=decide (xs=ys):=by
 rw[Yg,Qm,decide_eq_true_eq];constructor
 ·intro e;refine Xj fun j=>?_;by_cases hj:j<xs.length
  ·exact Ak (e j (List.mem_range.mpr hj))
  ·rw[Vd (by lia),Vd (by lia)]
 ·rintro rfl j _;exact Ai rfl
open Classical in
theorem eq3{d1 d2:D}{u1 u2:Value}{A:Around}(h:¬ d1=d2)(a:SeqAt.EqAt A s u1 u2 false)(b:SeqAt.RcAt A s u1 u2 false)(c:SeqAt.RcNeAt A s u1 u2 true) :
  SeqAt.EqAt A s u1 u2 (decide (d1=d2))/\SeqAt.RcAt A s u1 u2 (decide (d1=d2))/\SeqAt.RcNeAt A s u1 u2 (!decide (d1=d2)):=by
 rw[Af h];exact⟨a,b,c⟩
open Classical in
theorem it3{s:Shared}{its its':List Value}{ds ds':List D}(hl:its.length=ds.length)(hl':its'.length=ds'.length)(f:∀(j:Nat) u d,its[j]?=some u->ds[j]?=some d->RH s.heap u d)(f':∀(j:Nat) u d,its'[j]?=some u->ds'[j]?=some d->RH s.heap u d)(p1:∀d∈ds,Pl n d)(p2:∀d∈ds',Pl n d)
  (ih:∀{d1 d2:D}{u1 u2:Value},Pl n d1->Pl n d2->RH s.heap u1 d1->RH s.heap u2 d2->SeqAt.EqAt A s u1 u2 (decide (d1=d2)))(j:Nat)(h1:j<its.toArray.size)(h2:j<its'.toArray.size):SeqAt.EqAt A s its.toArray[j] its'.toArray[j] (decide (ds[j]?=ds'[j]?)):=by
 have h1':j<its.length:=by simpa using h1
 have h2':j<its'.length:=by simpa using h2
 have e1:ds[j]?=some ds[j]:=Za (hl ▸ h1');have e2:ds'[j]?=some ds'[j]:=Za (hl' ▸ h2');have z:=ih (p1 _ (Yd e1)) (p2 _ (Yd e2)) (f j its[j] _ (Za h1') e1) (f' j its'[j] _ (Za h2') e2);have e:decide (ds[j]?=ds'[j]?)=decide (ds[j]=ds'[j]):=by rw[e1,e2,Yg];simp
 rw[e];exact z
open Classical in
theorem RH.eqAt:∀(n:Nat){s:Shared}{d1 d2:D}{u1 u2:Value}{A:Around},Pl n d1->Pl n d2->RH s.heap u1 d1->RH s.heap u2 d2->A.units+n<cLine ->
  SeqAt.EqAt A s u1 u2 (decide (d1=d2))/\SeqAt.RcAt A s u1 u2 (decide (d1=d2))/\SeqAt.RcNeAt A s u1 u2 (!decide (d1=d2)):=by
 intro n;induction n with
 | zero=>intro s d1 d2 u1 u2 A p;cases p
 | succ n ih =>
  intro s d1 d2 u1 u2 A p1 p2 r1 r2 hu;have hu':A.units<cLine:=by lia
  cases r1 with
  | non =>
   cases r2 with
   | non=>rw[Ai rfl];exact⟨SeqAt.EqAt.same _,SeqAt.RcAt.none_none,SeqAt.RcNeAt.none_none⟩
   | int i t=>exact eq3 (by intro z;cases z) (SeqAt.EqAt.none_int _ _) (SeqAt.RcAt.none_int _ _) (SeqAt.RcNeAt.none_int _ _)
   | str x t=>exact eq3 (by intro z;cases z) (SeqAt.EqAt.none_str _ _) (SeqAt.RcAt.none_str _ _) (SeqAt.RcNeAt.none_str _ _)
   | tup t _ _=>exact eq3 (by intro z;cases z) (SeqAt.EqAt.none_tuple t hu') (SeqAt.RcAt.none_tuple t hu') (SeqAt.RcNeAt.none_tuple t hu')
   | lst t _ _=>exact eq3 (by intro z;cases z) (SeqAt.EqAt.none_list t hu') (SeqAt.RcAt.none_list t hu') (SeqAt.RcNeAt.none_list t hu')
  | int i t =>
   cases r2 with
   | non=>exact eq3 (by intro z;cases z) (SeqAt.EqAt.int_none _ _) (SeqAt.RcAt.int_none _ _) (SeqAt.RcNeAt.int_none _ _)
   | int j t' =>
    have e:decide (D.int i=D.int j)=(i == j):=by rw[Yg];simp
    rw[e];exact⟨SeqAt.EqAt.int_int _ _ _ _,SeqAt.RcAt.int_int _ _ _ _,SeqAt.RcNeAt.int_int _ _ _ _⟩
   | str x t'=>exact eq3 (by intro z;cases z) (B0 _ _ _ _) (SeqAt.RcAt.int_str _ _ _ _) (SeqAt.RcNeAt.int_str _ _ _ _)
   | tup t' _ _=>exact eq3 (by intro z;cases z) (SeqAt.EqAt.int_tuple _ _ t' hu') (SeqAt.RcAt.int_tuple _ _ t' hu') (SeqAt.RcNeAt.int_tuple _ _ t' hu')
   | lst t' _ _=>exact eq3 (by intro z;cases z) (SeqAt.EqAt.int_list _ _ t' hu') (SeqAt.RcAt.int_list _ _ t' hu') (SeqAt.RcNeAt.int_list _ _ t' hu')
  | str x t =>
   cases r2 with
   | non=>exact eq3 (by intro z;cases z) (SeqAt.EqAt.str_none _ _) (SeqAt.RcAt.str_none _ _) (SeqAt.RcNeAt.str_none _ _)
   | int j t'=>exact eq3 (by intro z;cases z) (BZ _ _ _ _) (SeqAt.RcAt.str_int _ _ _ _) (SeqAt.RcNeAt.str_int _ _ _ _)
   | str y t' =>
    have e:decide (D.str x=D.str y)=(x == y):=by rw[Yg];simp
    rw[e];exact⟨SeqAt.EqAt.str_str _ _ _ _,SeqAt.RcAt.str_str _ _ _ _,SeqAt.RcNeAt.str_str _ _ _ _⟩
   | tup t' _ _=>exact eq3 (by intro z;cases z) (SeqAt.EqAt.str_tuple _ _ t' hu') (SeqAt.RcAt.str_tuple _ _ t' hu') (SeqAt.RcNeAt.str_tuple _ _ t' hu')
   | lst t' _ _=>exact eq3 (by intro z;cases z) (SeqAt.EqAt.str_list _ _ t' hu') (SeqAt.RcAt.str_list _ _ t' hu') (SeqAt.RcNeAt.str_list _ _ t' hu')
  | @tup a its ds t hl f =>
   cases r2 with
   | non=>exact eq3 (by intro z;cases z) (SeqAt.EqAt.tuple_none t hu') (SeqAt.RcAt.tuple_none t hu') (SeqAt.RcNeAt.tuple_none t hu')
   | int j t'=>exact eq3 (by intro z;cases z) (SeqAt.EqAt.tuple_int _ _ t hu') (SeqAt.RcAt.tuple_int _ _ t hu') (SeqAt.RcNeAt.tuple_int _ _ t hu')
   | str y t'=>exact eq3 (by intro z;cases z) (SeqAt.EqAt.tuple_str _ _ t hu') (SeqAt.RcAt.tuple_str _ _ t hu') (SeqAt.RcNeAt.tuple_str _ _ t hu')
   | lst t' _ _=>exact eq3 (by intro z;cases z) (SeqAt.EqAt.tuple_list t t' hu') (SeqAt.RcAt.tuple_list t t' hu') (SeqAt.RcNeAt.tuple_list t t' hu')
   | @tup b its' ds' t' hl' f' =>
    cases p1 with
    | tup p1 =>
    cases p2 with
    | tup p2 =>
    have it:=it3 (A:=A.in1) hl hl' f f' p1 p2 fun q1 q2 q3 q4=>(ih (A:=A.in1) q1 q2 q3 q4 (by show A.units+1+n<cLine;lia)).1
    have e:decide (D.tup ds=D.tup ds')=((List.range (min its.toArray.size its'.toArray.size)).all (fun j=>decide (ds[j]?=ds'[j]?))&&its.toArray.size == its'.toArray.size):=by
     simp only[Qa];by_cases hh:its.length=its'.length
     ·rw[← hh,Nat.min_self,hl,v4 (by lia),Yg];simp
     ·have:ds≠ds':=fun z=>hh (by rw[hl,hl',z])
      rw[Yg];simp[hh,this]
    have rc:SeqAt.RcAt A s (.ref a) (.ref b) (decide (D.tup ds=D.tup ds')):=by
     rw[e];exact SeqAt.RcAt.tuples (A:=A) (e:=fun j=>decide (ds[j]?=ds'[j]?)) t t' hu' it
    have rn:SeqAt.RcNeAt A s (.ref a) (.ref b) (!decide (D.tup ds=D.tup ds')):=by
     rw[e];exact SeqAt.RcNeAt.tuples (A:=A) (e:=fun j=>decide (ds[j]?=ds'[j]?)) t t' hu' it
    refine⟨?_,rc,rn⟩;by_cases hab:a=b
    ·subst hab;have:=RH.inj (RH.tup t hl f) (RH.tup t' hl' f');rw[this,Ai rfl];exact SeqAt.EqAt.same _
    ·exact SeqAt.EqAt.of_refs hab rc
  | @lst a its ds t hl f =>
   cases r2 with
   | non=>exact eq3 (by intro z;cases z) (SeqAt.EqAt.list_none t hu') (SeqAt.RcAt.list_none t hu') (SeqAt.RcNeAt.list_none t hu')
   | int j t'=>exact eq3 (by intro z;cases z) (SeqAt.EqAt.list_int _ _ t hu') (SeqAt.RcAt.list_int _ _ t hu') (SeqAt.RcNeAt.list_int _ _ t hu')
   | str y t'=>exact eq3 (by intro z;cases z) (SeqAt.EqAt.list_str _ _ t hu') (SeqAt.RcAt.list_str _ _ t hu') (SeqAt.RcNeAt.list_str _ _ t hu')
   | tup t' _ _=>exact eq3 (by intro z;cases z) (SeqAt.EqAt.list_tuple t t' hu') (SeqAt.RcAt.list_tuple t t' hu') (SeqAt.RcNeAt.list_tuple t t' hu')
   | @lst b its' ds' t' hl' f' =>
    cases p1 with
    | lst p1 =>
    cases p2 with
    | lst p2 =>
    have it:=it3 (A:=A.in1) hl hl' f f' p1 p2 fun q1 q2 q3 q4=>(ih (A:=A.in1) q1 q2 q3 q4 (by show A.units+1+n<cLine;lia)).1
    have both:SeqAt.RcAt A s (.ref a) (.ref b) (decide (D.lst ds=D.lst ds'))/\SeqAt.RcNeAt A s (.ref a) (.ref b) (!decide (D.lst ds=D.lst ds')):=by
     by_cases hh:its.length=its'.length
     ·have e:decide (D.lst ds=D.lst ds')=(List.range its.toArray.size).all fun j=>decide (ds[j]?=ds'[j]?):=by
       simp only[Qa];rw[hl,v4 (by lia),Yg];simp
      rw[e];exact⟨SeqAt.RcAt.lists (A:=A) (e:=fun j=>decide (ds[j]?=ds'[j]?)) t t' (by simpa using hh) hu' it,SeqAt.RcNeAt.lists (A:=A) (e:=fun j=>decide (ds[j]?=ds'[j]?)) t t' (by simpa using hh) hu' it⟩
     ·have:ds≠ds':=fun z=>hh (by rw[hl,hl',z])
      rw[Af (by intro z;cases z;exact this rfl)]
      exact⟨SeqAt.RcAt.lists_lengths t t' (by simpa using hh) hu',Cq t t' (by simpa using hh) hu'⟩
    obtain⟨rc,rn⟩:=both;refine⟨?_,rc,rn⟩;by_cases hab:a=b
    ·subst hab;have:=RH.inj (RH.lst t hl f) (RH.lst t' hl' f');rw[this,Ai rfl];exact SeqAt.EqAt.same _
    ·exact SeqAt.EqAt.of_refs hab rc
open Classical in
noncomputable def qK(neg:Bool):D->D->Option Rz:=fun a b=>if Pl 40 a/\Pl 40 b then some (.bl (if neg then !decide (a=b) else decide (a=b)),false) else none
open Classical in
def v5(K:Aa)(neg:Bool):R2:=fun x y H Q=>∃(Y:AS)(a b:D),BA K Y H x a/\BA K Y H y b/\Pl 40 a/\Pl 40 b/\Q (.bl (if neg then !decide (a=b) else decide (a=b))) H
theorem v6(neg:Bool):RdOp K (v5 K neg) (qK neg):=by
 intro Y H x y d1 d2 z Q lv b1 b2 e q;unfold qK at e;obtain⟨c,e⟩:=aB e;cases e;exact⟨Y,d1,d2,b1,b2,c.1,c.2,q _ H (Same.refl H) (.bl _)⟩
theorem EN(h:X.K=K)(hu:X.A.units+64<cLine):OpR X (compareOp .Eq) (v5 K false):=by
 intro pins s σ H x y v u Q I rx ry ⟨Y,a,b,b1,b2,p1,p2,q⟩;exact(RH.eqAt 40 (A:=X.A) p1 p2 (b1.rh p1 I h rx) (b2.rh p2 I h ry) (by lia)).2.1 _ _ _ _ ⟨.bl _,H,I,rfl,q⟩
theorem EO(h:X.K=K)(hu:X.A.units+64<cLine):OpR X (compareOp .NotEq) (v5 K true):=by
 intro pins s σ H x y v u Q I rx ry ⟨Y,a,b,b1,b2,p1,p2,q⟩;exact(RH.eqAt 40 (A:=X.A) p1 p2 (b1.rh p1 I h rx) (b2.rh p2 I h ry) (by lia)).2.2 _ _ _ _ ⟨.bl _,H,I,rfl,q⟩
noncomputable def yG:=orD bEq (qK false)
noncomputable def v7:=orD bNe (qK true)
def GF(K:Aa):R2:=fun x y H Q=>rEq x y H Q∨v5 K false x y H Q
def GG(K:Aa):R2:=fun x y H Q=>EH K x y H Q∨v5 K true x y H Q
theorem EQ(h:X.K=K)(hu:X.A.units+64<cLine):OpR X (compareOp .Eq) (GF K):=(EE h hu).or (EN h hu)
theorem ES:RdOp K (GF K) yG:=ro_eqA.or (v6 false)
theorem ET(h:X.K=K)(hu:X.A.units+64<cLine):OpR X (compareOp .NotEq) (GG K):=(vO h hu).or (EO h hu)
theorem EU:RdOp K (GG K) v7:=ro_neA.or (v6 true)
end
end VF
namespace VF
open PySem L2 PySem.Spec
section
variable {X:Cx}{a b e:Expr}{ta te:TE}
theorem sy(hK:X.K=K)(hc:X.calm=true)(h:PGs X es t)
  (hn:(assignEach es X.env).length=n:=by rfl)(hst:(assignEach es X.env).findIdx? (·.1)=none:=by rfl):PG X (.Tuple es k pos) (DI K n t):=hK ▸ DJ hc h hn hst
end
end VF
namespace VF
open PySem L2 PySem.Spec
section
variable {X:Cx}{K:Aa}
def v8(K:Aa):R2:=fun x y H Q=>∃a b ys,x=.ref a/\y=.ref b/\SqT K H a []/\SqT K H b ys/\Q (.ref b) H
theorem yH(h:X.K=K):OpR X (binaryOp .Add) (v8 K):=by
 intro pins s σ H x y v u Q I rx ry hh;obtain⟨a,b,ys,rfl,rfl,ha,hb,q⟩:=hh;cases rx;cases ry;subst h;obtain⟨its,r1,p1,_⟩:=I.tuple ha;obtain⟨its2,r2,p2,_⟩:=I.tuple hb;cases r1;obtain⟨⟨cls,dd,data,sl⟩,ho,hc,n,hd⟩:=id p1;obtain⟨⟨cls2,dd2,data2,sl2⟩,ho2,hc2,n2,hd2⟩:=id p2;simp only at hc hd hc2 hd2;subst hc hd hc2 hd2;exact concat_meets ⟨_,ho,rfl⟩ ⟨_,ho2,rfl⟩ Cb seq_tuple_add BD Bu (Bs _ _)
   (PyProof.Rows.tuple_addW0 a b _ _ n n2 dd dd2 sl sl2 rfl) ⟨ho,ho2,.ref b,H,I,rfl,q⟩
def C4:D->D->Option Rz
 | .tup [],.tup b=>some (.tup b,false)
 | _,_=>none
theorem yI:RdOp K (v8 K) C4:=by
 intro Y H x y d1 d2 z Q lv b1 b2 e q;cases d1 with
 | tup a =>
  cases a with
  | cons a0 a=>cases e
  | nil =>
   cases d2 with
   | tup b =>
    cases e;obtain⟨p,xs,rfl,hp,el⟩:=b1;obtain⟨p2,ys,rfl,hp2,el2⟩:=b2;obtain rfl:=el.unnil;exact⟨p,p2,ys,rfl,rfl,hp.sq,hp2.sq,q _ H (Same.refl H) (.tup hp2 el2.1 el2.2)⟩
   | _=>cases e
 | _=>cases e
def cy:=orD bc C4
def C5(K:Aa):R2:=fun x y H Q=>r6 K x y H Q∨v8 K x y H Q
theorem eL(h:X.K=K):OpR X (binaryOp .Add) (C5 K):=(r9 h).or (yH h)
theorem eM:RdOp K (C5 K) cy:=ro_addA.or yI
def EV(K:Aa):V->Option Int->Option Int->Hp->VK->Prop:=fun x lo hi H Q=>∃a xs,x=.ref a/\SqT K H a xs/\(HT.sIx xs.length 0 lo=0/\HT.sIx xs.length xs.length hi=xs.length)/\Q (.ref a) H
end
end VF
namespace HT
open PySem PyProof.Rows
section
variable {prog:Program}{w:World}{A:Around}{E:Value->Shared->Prop}{s:Shared}
theorem getItem_tuple_all{t sl:Addr}{items:Array Value}{vl vu:Value}{lo hi:Option Int}{Q:Value->Shared->Prop}(ht:IsTup s.heap t items)(hs:s.heap.IsSliceOf sl vl vu .none)(pl:IsPart vl lo)(pu:IsPart vu hi)
  (hw:sIx items.size 0 lo=0/\sIx items.size items.size hi=items.size)(h:Q (.ref t) s):wpAny (model prog w) A (getItem (.ref t) (.ref sl)) Q E s:=by
 obtain⟨os,hos,hcs,hds⟩:=id hs;have hTs:s.TypeIs (.ref sl) "slice":=⟨os,hos,hcs⟩;unfold getItem
 try with_reducible refine AD ?_
 first|refine Ab (Ae ?_)|skip
 refine Ab (wpAny_sequenceKey ht.typeIs (by decide) ?_)
 refine Ab (Ay (name:=Str.ofString "__getitem__") ht.typeIs AJ
  (AB AJ ht.typeIs entry_tuple_getitem ?_ (args_tuple_getitem _ _)))
 show wpAny _ _ (Builtin.Tuple.tupleItemsOf (.ref t) >>= _) _ _ s;refine Ab (tupleItemsOf_ ht ?_);refine Ab (A6 hTs ?_);rw[Ad (by decide)]
 refine Ab (fF hs pl pu ?_);have hyes:(((sIx items.size 0 lo:Nat):Int) == 0&&(1:Int) == 1&&(sIx items.size items.size hi-sIx items.size 0 lo) == items.size)=true:=by
  rw[hw.1,hw.2];simp
 show wpAny _ _ (if (((sIx items.size 0 lo:Nat):Int) == 0&&(1:Int) == 1&&(sIx items.size items.size hi-sIx items.size 0 lo) == items.size)=true then _ else _) _ _ s;rw[Ad hyes];unfold Builtin.Tuple.tupleIsExact;refine Ab (Ab (A6 ht.typeIs (Ae ?_)));rw[Ad (by decide)]
 exact Ab (BW (Ae ⟨_,rfl,Ae h⟩))
end
end HT
namespace VF
open PySem L2
section
variable {X:Cx}{K:Aa}
theorem v9(h:X.K=K):SlR X (EV K):=by
 intro pins s σ H x v vl vu lo hi sl Q I rx hs pl pu hh;obtain⟨a,xs,rfl,hx,hw,q⟩:=hh;cases rx;subst h;obtain⟨its,r,ht,hz⟩:=I.tuple hx;have hlen:its.toArray.size=xs.length:=by rw[Qa];exact r.length.symm
 refine⟨"tuple",_,AJ.lookup,ht.typeIs,?_⟩;exact HT.getItem_tuple_all ht hs pl pu (by rw[hlen];exact hw) ⟨.ref a,H,I,rfl,q⟩
def yJ:D->Option Int->Option Int->Option Rz
 | .tup ds,lo,hi=>if HT.sIx ds.length 0 lo=0/\HT.sIx ds.length ds.length hi=ds.length then some (.tup ds,false) else none
 | _,_,_=>none
theorem GH:RdSl K (EV K) yJ:=by
 intro Y H x lo hi d1 z Q lv b1 e q;cases d1 with
 | tup a =>
  obtain⟨c,e⟩:=aB e;cases e;obtain⟨p,xs,rfl,hp,el⟩:=b1;exact⟨p,xs,rfl,hp.sq,by rw[el.1];exact c,q _ H (Same.refl H) (.tup hp el.1 el.2)⟩
 | _=>cases e
def mE:=orS bSl yJ
def GI(K:Aa):V->Option Int->Option Int->Hp->VK->Prop:=fun x lo hi H Q=>EI K x lo hi H Q∨EV K x lo hi H Q
theorem kB(h:X.K=K):SlR X (GI K):=SlR.or (oa h) (v9 h)
theorem jc:RdSl K (GI K) mE:=RdSl.or kz GH
theorem wa(ds:List D)(lo hi:Option Int):mE (.tup ds) lo hi=some (.tup (cutD ds lo hi),false):=by
 have e1:yy (.tup ds) lo hi=none:=rfl;have e3:yz (.tup ds) lo hi=none:=rfl;by_cases c:HT.sIx ds.length 0 lo=0/\HT.sIx ds.length ds.length hi=ds.length
 ·have e2:n9 (.tup ds) lo hi=none:=by simp only[n9,Ad c]
  have e4:yJ (.tup ds) lo hi=some (.tup ds,false):=by simp only[yJ,Ad c]
  have e5:cutD ds lo hi=ds:=by
   unfold cutD;rw[c.1,c.2];simp
  unfold mE bSl orS;rw[e1,e2,e3,e4,e5]
 ·have e2:n9 (.tup ds) lo hi=some (.tup (cutD ds lo hi),false):=by simp only[n9,Ag c]
  unfold mE bSl orS;rw[e1,e2]
theorem yK{a b:List D}(h:a.length+b.length<=100000):cy (.tup a) (.tup b)=some (.tup (a++b),false):=by
 have e1:m5 (.tup a) (.tup b)=none:=rfl;have e2:m6 (.tup a) (.tup b)=none:=rfl;have e3:qB (.tup a) (.tup b)=none:=rfl;cases a with
 | nil =>
  have e4:m7 (.tup []) (.tup b)=none:=rfl;unfold cy bc orD;rw[e1,e2,e3,e4];rfl
 | cons x a =>
  have e4:m7 (.tup (x::a)) (.tup b)=some (.tup (x::a++b),false):=by
   simp only[Yc]at h;cases b with
   | nil=>simp only[m7,Qf];rw[Ad (by lia)]
   | cons y b =>
    simp only[Yc]at h;simp only[m7];rw[Ad (by lia)]
  unfold cy bc orD;rw[e1,e2,e3,e4]
theorem EW{ds:List D}(h:j<=ds.length):cutD ds none (some (j:Int))=ds.take j:=by
 unfold cutD;rw[HT.sIx_none,HT.sIx_nat,Ch h];simp
theorem wc{ds:List D}(h:i<=ds.length):cutD ds (some (i:Int)) none=ds.drop i:=by
 unfold cutD;rw[HT.sIx_none,HT.sIx_nat,Ch h,Xn];rw[Vm];lia
end
end VF
namespace VF
open PySem L2
section
variable {α:Type}{fg:FG}{B:FS}{fc:FT}{fe:FE}{k:Nat}
theorem bu(f:α->D)(all:List α)(I:List α->En->Prop)(step:∀(gone:List α)(x:α)(rest:List α)(st:En),all=gone++x::rest->I gone st->∃s1 s2,fg (f x) st=some s1/\B s1=some (.nx s2)/\I (gone++[x]) s2) :
  ∀(items gone:List α)(st:En),all=gone++items->I gone st->∃sf,ie fg B (items.map f) st=some (.nx sf)/\I all sf
 | [],gone,st,ha,h=>⟨st,rfl,by rw[ha,Qf];exact h⟩
 | x::r,gone,st,ha,h=>by
  obtain⟨s1,s2,e1,e2,e3⟩:=step gone x r st ha h;obtain⟨sf,e4,e5⟩:=bu f all I step r (gone++[x]) s2 (by rw[Wj];exact ha) e3
  refine⟨sf,?_,e5⟩;simp only[Zd,ie,e1,e2,Xa];exact e4
theorem fW(f g:α->D)(p:α->Bool)(sb:En):∀(xs:List α),(∀x∈xs,∃s1 s2,fg (f x) sb=some s1/\fc s1=some (p x,s2)/\(p x=false->rst k s2=sb)/\(p x=true->∃y s3 s4,fe s2=some (y,s3)/\esc y s3=some (g x,s4)/\rst k s4=sb)) ->
  dL fg fc fe k (xs.map f) sb=some ((xs.filter p).map g,sb)
 | [],_=>rfl
 | x::r,h=>by
  obtain⟨s1,s2,e1,e2,hf,ht⟩:=h x Wc;have ih:=fW f g p sb r fun y hy=>h y (Zc _ hy);cases hp:p x with
  | false =>
   rw[hp]at e2;simp only[Zd,dL,e1,e2,Xa,Zf,if_false,hf hp,ih,List.filter_cons,hp]
  | true =>
   rw[hp]at e2;obtain⟨y,s3,s4,e3,e4,e5⟩:=ht hp;simp only[Zd,dL,e1,e2,Xa,if_true,e3,e4,e5,ih,List.filter_cons,hp]
theorem ci(f g:α->D)(sb:En)(xs:List α)(h:∀x∈xs,∃s1 s2 y s3 s4,fg (f x) sb=some s1/\fc s1=some (true,s2)/\fe s2=some (y,s3)/\esc y s3=some (g x,s4)/\rst k s4=sb) :
  dL fg fc fe k (xs.map f) sb=some (xs.map g,sb):=by
 have:=fW (fg:=fg) (fc:=fc) (fe:=fe) (k:=k) f g (fun _=>true) sb xs fun x hx=>by
  obtain⟨s1,s2,y,s3,s4,e1,e2,e3,e4,e5⟩:=h x hx;exact⟨s1,s2,e1,e2,fun z=>(Bool.noConfusion z),fun _=>⟨y,s3,s4,e3,e4,e5⟩⟩
 rw[this,List.filter_eq_self.mpr fun _ _=>rfl]
end
theorem pC(S:List D->En->Prop)(all:List α)(bound:Nat)
  (step:∀acc x st,x∈all->acc.length+(g x).length<=bound->S acc st->∃s1 s2,fg (f x) st=some s1/\B s1=some (.nx s2)/\S (acc++g x) s2) :
  ∀(xs:List α)(base:List D)(st:En),(∀x∈xs,x∈all)->base.length+(xs.flatMap g).length<=bound->S base st->∃sf,ie fg B (xs.map f) st=some (.nx sf)/\S (base++xs.flatMap g) sf
 | [],base,st,_,_,h=>⟨st,rfl,by simpa using h⟩
 | x::r,base,st,ha,hb,h=>by
  rw[Vh,Yb]at hb;obtain⟨s1,s2,e1,e2,e3⟩:=step base x st (ha x Wc) (by lia) h
  obtain⟨sf,e4,e5⟩:=pC S all bound step r (base++g x) s2 (fun y hy=>ha y (Zc _ hy)) (by rw[Yb];lia) e3
  refine⟨sf,?_,by rw[Vh,← Wj];exact e5⟩
  simp only[Zd,ie,e1,e2,Xa];exact e4
section
variable {st s1:En}{rs:List Rs}{fa:FA}
theorem sA{xs ys:List D}(h:xs.length+ys.length<=1000000):iZ (.lst xs) [.lst ys]=some (.non,.lst (xs++ys)):=by
 show(if xs.length+ys.length<=1000000 then some (D.non,D.lst (xs++ys)) else none)=_;rw[Ad h]
end
end VF
namespace VF22
open PySem PySem.Spec PyProof.Rows L2 VF
def ItN(t:Bool):String:=if t then "tuple_iterator" else "list_iterator"
def SqN(t:Bool):String:=if t then "tuple" else "list"
def Io(t:Bool)(h:Heap)(a l:Addr)(i:Nat):Prop:=∃o,h.get? a=some o/\o.cls=.type (ItN t)/\o.data=.fields #[.ref l,.int i 0]
def So(t:Bool)(h:Heap)(l:Addr)(xs:Array Value):Prop:=∃o,h.get? l=some o/\o.cls=.type (SqN t)/\∃n,o.data=.seq xs n
variable {t t1 t2:Bool}{h h':Heap}
theorem Io.by(a:Io t h it l i)(k:∀o,h.get? it=some o->h'.get? it=some o):Io t h' it l i:=by
 obtain⟨o,e,r⟩:=a;exact⟨o,k o e,r⟩
theorem So.by(a:So t h l xs)(k:∀o,h.get? l=some o->h'.get? l=some o):So t h' l xs:=by
 obtain⟨o,e,r⟩:=a;exact⟨o,k o e,r⟩
section
variable {P:Program}{w:World}{A:Around}{E:Value->Shared->Prop}{s:Shared}
theorem GJ(a:Io t s.heap it l i)(b:So t s.heap l xs)(hx:xs[i]?=some x)
  (q:∀h1,Io t h1 it l (i+1)->Heap.SameBut it s.heap h1->Q x { s with heap:=h1 }):wpAny (model P w) A (Builtin.SmallTypes.nextOf (.ref it)) Q E s:=by
 cases t with
 | false=>exact wpAny_nextOf_list_item (i:=i) (l:=l) (items:=xs) a b hx q
 | true =>
  obtain⟨u,hu,cu,du⟩:=id a;obtain⟨v,hv,cv,nv,dv⟩:=b;have ty:s.heap.IsTupleIter it l i:=⟨u,hu,cu,du⟩;unfold Builtin.SmallTypes.nextOf;refine Ab (Ay (name:=Str.ofString "__next__") ty.typeIs F.slot_tuple_iterator_next (AB F.slot_tuple_iterator_next ty.typeIs F.entry_tuple_iterator_next ?_ (F.args_tuple_iterator_next_1 _)));show wpAny _ _ (field (.ref it) 0 >>= _) _ _ _;refine Ab (AE hu du (x:=.ref l) rfl ?_);show wpAny _ _ (if (Value.ref l == Value.none)=true then _ else _) _ _ _;rw[Ag (show ¬ ((Value.ref l == .none)=true) from Qb)];show wpAny _ _ (field (.ref it) 1 >>= _) _ _ _;refine Ab (AE hu du (x:=.int i 0) rfl ?_);show wpAny _ _ (seqItems? (.ref l) >>= _) _ _ _;refine Ab (wpAny_seqItems hv dv ?_);simp only[hx,Vk];refine Ab (AN hu du (by simp) (Ae ⟨x,rfl,Ae (q _ ?_ (A4 ..))⟩))
  refine⟨_,Ax _ hu (AV (AM du _)),(Obj.cls_mapFields ..).trans cu,?_⟩;rw[AM du];simp[rawInt]
theorem wd(hh:A.handled=none)(a:Io t s.heap it l i)(b:So t s.heap l xs)(hx:xs[i]?=none)
  (q:∀h1 e,Heap.ExtBut it s.heap h1->(∃o,h1.get? e=some o/\o.cls=.type "StopIteration")->E (.ref e) { s with heap:=h1 }):wpAny (model P w) A (Builtin.SmallTypes.nextOf (.ref it)) Q E s:=by
 cases t with
 | false=>exact wpAny_nextOf_list_end (i:=i) (l:=l) (items:=xs) hh a b hx q
 | true =>
  obtain⟨u,hu,cu,du⟩:=id a;obtain⟨v,hv,cv,nv,dv⟩:=b;have ty:s.heap.IsTupleIter it l i:=⟨u,hu,cu,du⟩;unfold Builtin.SmallTypes.nextOf;refine Ab (Ay (name:=Str.ofString "__next__") ty.typeIs F.slot_tuple_iterator_next (AB F.slot_tuple_iterator_next ty.typeIs F.entry_tuple_iterator_next ?_ (F.args_tuple_iterator_next_1 _)));show wpAny _ _ (field (.ref it) 0 >>= _) _ _ _;refine Ab (AE hu du (x:=.ref l) rfl ?_);show wpAny _ _ (if (Value.ref l == Value.none)=true then _ else _) _ _ _;rw[Ag (show ¬ ((Value.ref l == .none)=true) from Qb)];show wpAny _ _ (field (.ref it) 1 >>= _) _ _ _;refine Ab (AE hu du (x:=.int i 0) rfl ?_);show wpAny _ _ (seqItems? (.ref l) >>= _) _ _ _;refine Ab (wpAny_seqItems hv dv ?_);simp only[hx,Vk];refine Ab (BW (Ab (AN hu du (by simp) ?_)))
  show wpAny _ _ (newExc (.type "StopIteration") [] >>= _) _ _ _;refine Ab ?_;simp only[newExc,newTuple];refine Ab (As ?_ (by size_fits))
  refine Ab (m:=firstArgMember _ _) (wpAny_of_eq (a:=.none) (by first|rfl|(simp only[firstArgMember];rfl)) ?_)
  refine As ?_ (by size_fits)
  simp only[raiseNew];refine Ab (wpAny_handled ?_)
  first|rw[show A.in1.handled=none from hh]|rw[hh]
  refine Ab (Ae (wpAny_throw ?_));exact q _ _ (((A4 ..).extBut.push _).push _) ⟨_,Aj _ rfl,rfl⟩
end
end VF22
namespace VF22
open PySem PySem.Spec PyProof.Rows L2 VF
section
variable {t t1 t2:Bool}{P:Program}{w:World}{A:Around}{E:Value->Shared->Prop}{s:Shared}
def zI(t:Bool)(l:Addr):Obj:={ cls:=.type (ItN t),data:=.fields #[.ref l,.int 0 0] }
theorem eO(b:So t s.heap l xs)(q:Q (.ref s.heap.objs.size) { s with heap:=s.heap.push (zI t l) }):wpAny (model P w) A (pyIter (.ref l)) Q E s:=by
 cases t with
 | false=>exact Bh (items:=xs) b q
 | true=>exact wpAny_pyIter_tuple (items:=xs) b q
abbrev zA(t1:Bool)(h:Heap)(l1:Addr):Heap:=h.push (zI t1 l1)
end
section
variable {X:Cx}{K:Aa}{t t1 t2:Bool}{pins:List (Addr×Obj)}{σ:L2.St}{H:Hp}{s:Shared}{h':Heap}
theorem kC{t':Nat}{ch:List Addr}(I:L2.Inv X pins σ H s)(f:∀b∈ch,jy X pins H b)(k:∀b o,b∉ch->s.heap.get? b=some o->h'.get? b=some o):L2.Inv X pins σ H { s with heap:=h',toks:=t' }:=by
 have nit:∀b u,H b=some u->b∉ch:=fun b u e z=>by rw[(f b z).1]at e;cases e
 refine I.step (g':=s.gens) (d':=s.drawn) (ch:=ch) (fun b hb=>?_) (fun b o _ _ hc e _=>k b o hc e) (fun b o _ _ hc e _=>⟨o.slots,k b o hc e⟩) (fun _ _ _ _ n=>n)
  (fun b o hc e=>⟨o,k b o hc e⟩) (fun _ _ e=>e) (fun _ _ _ e=>e) (fun b ps e=>⟨#[],by rw[e];simp⟩) (fun m hm=>?_) (fun b u e=>?_) I.bare
 ·obtain⟨_,f1,_,f3,f4,f5⟩:=f b hb;exact⟨f3,f1,f4,f5⟩
 ·obtain⟨o,es,ep,ho,r⟩:=hm;exact⟨o,es,ep,k _ o (fun z=>(f _ z).2.1 rfl) ho,r⟩
 ·refine(I.hok b u e).stay (fun c v hc q=>k c v ?_ q) (fun _ q=>q) fun _ _ q=>q;rcases hc with z|z
  ·rw[z];exact nit b u e
  ·exact nit c _ z
def Sq(K:Aa)(t:Bool)(H:Hp)(a:Addr)(xs:List V):Prop:=if t then SqT K H a xs else SqL K H a xs
theorem Sq.so(I:L2.Inv X pins σ H s)(h:Sq X.K t H l xs):∃its:List Value,Vals xs its/\So t s.heap l its.toArray:=by
 cases t with
 | false =>
  obtain⟨its,rv,p,_⟩:=I.list h;exact⟨its,rv,p.isList⟩
 | true =>
  obtain⟨its,rv,p,_⟩:=I.tuple h;exact⟨its,rv,p⟩
theorem Sq.inj(I:L2.Inv X pins σ H s)(h:Sq X.K t H l xs)(h2:Sq X.K t H l ys):xs=ys:=by
 cases t with
 | false=>exact I.list_inj h h2
 | true=>exact I.tuple_inj h h2
end
end VF22
namespace VF22
open PySem L2 VF
section
variable {X:Cx}{K:Aa}{O O' Z:AS}{H H':Hp}{v:V}{d:D}
def sqD:D->Option (List D)
 | .lst ds=>some ds
 | .fl ds=>some ds
 | .tup ds=>some ds
 | _=>none
theorem C6(da:DA K (U O Z) H v d)(e:sqD d=some is):∃t l ws,v=.ref l/\∀H' O',Ext O H O' H'->Sq K t H' l ws/\El K (U O' Z) H' ws is:=by
 cases d with
 | lst ds =>
  cases e;cases da with
  | @lst a vs _ h0 h1 h2 h3=>exact⟨false,a,vs,rfl,fun H' O' ex=>⟨.inl (.inl (ex.kp a _ h1 fun z=>h0 (.inl z))),El.ext ⟨h2,h3⟩ ex⟩⟩
 | fl ds =>
  cases e;cases da with
  | @fl a vs _ h1 h2 h3 =>
   refine⟨false,a,vs,rfl,fun H' O' ex=>⟨?_,El.ext ⟨h2,h3⟩ ex⟩⟩;rcases h1 with⟨h1,hn⟩|h1
   ·exact .inl (Rd.keep h1 fun o e=>ex.kp a o e fun z=>hn (.inl z))
   ·exact h1 H'
 | tup ds =>
  cases e;cases da with
  | @tup a vs _ h1 h2 h3 =>
   refine⟨true,a,vs,rfl,fun H' O' ex=>⟨?_,El.ext ⟨h2,h3⟩ ex⟩⟩;exact .inl (.inl (ex.kp a _ h1.1 fun z=>h1.2 (.inl z)))
 | _=>cases e
end
end VF22
namespace TS
open PySem PyProof.Rows
theorem nt{M:Model}{A:Around}{E:Value->Shared->Prop}{σ γ:Type}{X Y:StateT σ Sem γ}{p:Prop}{d:Decidable p}{Q:γ->σ->Prop}{st:σ}(h:p)(k:wpS M A E s X Q st):wpS M A E s (@ite _ p d X Y) Q st:=by rw[Ad h];exact k
theorem lr{M:Model}{A:Around}{E:Value->Shared->Prop}{σ γ:Type}{X Y:StateT σ Sem γ}{p:Prop}{d:Decidable p}{Q:γ->σ->Prop}{st:σ}(h:¬ p)(k:wpS M A E s Y Q st):wpS M A E s (@ite _ p d X Y) Q st:=by rw[Ag h];exact k
theorem we{α β:Type}(f:α->β)(x:Array α)(i j:Nat):(x.map f).swapIfInBounds i j=(x.swapIfInBounds i j).map f:=by
 apply Array.ext_getElem?
 intro k;by_cases hi:i<x.size
 ·by_cases hj:j<x.size
  ·rw[getElem?_swapIB (by rw[AO];exact hi) (by rw[AO];exact hj),Yn,Yn,Yn,Yn,getElem?_swapIB hi hj]
   split
   ·rfl
   ·split<;>rfl
  ·rw[Zn,Zn,dif_pos (by rw[AO];exact hi),dif_pos hi,dif_neg (by rw[AO];exact hj),dif_neg hj]
 ·rw[Zn,Zn,dif_neg (by rw[AO];exact hi),dif_neg hi]
theorem jI{α β γ:Type}(f:α->β)(p q:γ->Nat):∀(l:List γ)(x:Array α),l.foldl (fun a k=>a.swapIfInBounds (p k) (q k)) (x.map f)=(l.foldl (fun a k=>a.swapIfInBounds (p k) (q k)) x).map f
 | [],x=>rfl
 | k::l,x=>by
  rw[List.foldl_cons,List.foldl_cons,we];exact jI f p q l _
theorem qL(f:α->β)(x:Array α)(i d:Nat):bubble (x.map f) i d=(bubble x i d).map f:=jI f _ _ _ x
theorem fX(f:α->β)(x:Array α)(i j d:Nat):mirror (x.map f) i j d=(mirror x i j d).map f:=jI f _ _ _ x
structure Cm(prog:Program)(w:World)(A:Around)(s:Shared)(k:SortKind)(f:Nat->Keyed)(N:Nat)(c:Nat->Nat->Bool):Prop where
 lt:∀(E:Value->Shared->Prop)(Q:Bool->Shared->Prop)(g h:Nat),g<N->h<N->Q (c g h) s->wpAny (model prog w) A (keyLt' k (f g).1 (f h).1) Q E s
 irr:∀g,c g g=false
 tra:∀g h i,c g h=true->c h i=true->c g i=true
 neg:∀g h i,c g i=true->c g h=true∨c h i=true
def Bf(c:Nat->Nat->Bool)(g h:Nat):Prop:=c g h=true∨(c h g=false/\g<h)
structure Rp(k:SortKind)(f:Nat->Keyed)(N:Nat)(st:SortSt)(γ:Array Nat):Prop where
 arr:arrOf st=γ.map f
 kind:kindOf st=k
 fine:failedOf st=none
 perm:γ.Perm (Array.range N)
section
variable {prog:Program}{w:World}{A:Around}{E:Value->Shared->Prop}{s:Shared}{k:SortKind}{f:Nat->Keyed}{N:Nat}{c:Nat->Nat->Bool}{st:SortSt}{γ:Array Nat}
theorem Cm.asy(C:Cm prog w A s k f N c)(e:c g h=true):c h g=false:=by
 cases e':c h g with
 | false=>rfl
 | true=>exact absurd (C.tra g h g e e') (by rw[C.irr];exact Bool.noConfusion)
theorem Cm.le(C:Cm prog w A s k f N c)(e:Bf c g h):c h g=false:=by
 rcases e with e|e
 ·exact C.asy e
 ·exact e.1
theorem Cm.letr(C:Cm prog w A s k f N c)(e:c h g=false)(e':c i h=false):c i g=false:=by
 cases e2:c i g with
 | false=>rfl
 | true =>
  rcases C.neg i h g e2 with q|q
  ·rw[q]at e';exact e'
  ·rw[q]at e;exact e
theorem Cm.trans(C:Cm prog w A s k f N c)(e:Bf c g h)(e':Bf c h i):Bf c g i:=by
 have l:=C.letr (C.le e) (C.le e');cases e2:c g i with
 | true=>exact .inl e2
 | false =>
  refine .inr ⟨l,?_⟩;rcases e with e|e
  ·rcases C.neg g i h e with q|q
   ·rw[q]at e2;cases e2
   ·rw[C.le e']at q;cases q
  ·rcases e' with e'|e'
   ·rcases C.neg h g i e' with q|q
    ·rw[e.1]at q;cases q
    ·rw[q]at e2;cases e2
   ·exact BE e.2 e'.2
theorem Rp.size(R:Rp k f N st γ):γ.size=N:=by rw[R.perm.size_eq,BC]
theorem Rp.bnd(R:Rp k f N st γ){i g:Nat}(e:γ[i]?=some g):g<N:=by
 have hm:g∈γ:=Array.mem_of_getElem? e;exact Array.mem_range.mp (R.perm.mem_iff.mp hm)
theorem Rp.at(R:Rp k f N st γ){i g:Nat}(e:γ[i]?=some g):(arrOf st)[i]?=some (f g):=by rw[R.arr,Yn,e];rfl
theorem Rp.put(R:Rp k f N st γ){γ':Array Nat}(p:γ'.Perm γ)(e:x=γ'.map f):Rp k f N (setArr st x) γ':=⟨e,R.kind,R.fine,p.trans R.perm⟩
theorem GK(C:Cm prog w A s k f N c)(hk:kindOf st=k)(bg:g<N)(bh:h<N)(q:Q (some (c g h)) st):wpS (model prog w) A E s (lt' (f g) (f h)) Q st:=by
 rw[lt'_eq];refine Ao (wpS_get ?_);subst hk;exact Ao (wpS_lift (BV (C.lt _ _ g h bg bh ⟨rfl,Aw q⟩)))
theorem gU(C:Cm prog w A s k f N c)(R:Rp k f N st γ){i j g h:Nat}(ei:γ[i]?=some g)(ej:γ[j]?=some h){Q:Option Bool->SortSt->Prop}(q:Q (some (c g h)) st):wpS (model prog w) A E s (ltAt' i j) Q st:=by
 rw[ltAt'_eq];refine Ao (wpS_get ?_);dsimp only;rw[elem'_eq,elem'_eq,R.at ei,R.at ej];exact Ao (Aw (Ao (Aw (GK C R.kind (R.bnd ei) (R.bnd ej) q))))
end
end TS
namespace TS
open PySem PyProof.Rows
def Sg(c:Nat->Nat->Bool)(γ:Array Nat)(lo hi:Nat):Prop:=∀i j g h,lo<=i->i<j->j<hi->γ[i]?=some g->γ[j]?=some h->Bf c g h
def Ow(γ:Array Nat)(lo hi:Nat):Prop:=∀i g,lo<=i->i<hi->γ[i]?=some g->lo<=g/\g<hi
def Raw(γ:Array Nat)(lo hi:Nat):Prop:=∀i,lo<=i->i<hi->γ[i]?=some i
def Out(γ γ':Array Nat)(lo hi:Nat):Prop:=∀i,i<lo∨hi<=i->γ'[i]?=γ[i]?
theorem Out.refl(γ:Array Nat)(lo hi:Nat):Out γ γ lo hi:=fun _ _=>rfl
section
variable {prog:Program}{w:World}{A:Around}{E:Value->Shared->Prop}{s:Shared}{k:SortKind}{f:Nat->Keyed}{N:Nat}{c:Nat->Nat->Bool}{st:SortSt}{γ:Array Nat}
theorem wf{γ:Array Nat}(h:i<γ.size):∃g,γ[i]?=some g:=⟨_,Xm h⟩
theorem mid(h:l<u):l<=(l+u) / 2/\(l+u) / 2<u:=⟨(Nat.le_div_iff_mul_le (by decide)).mpr (by lia),(Nat.div_lt_iff_lt_mul (by decide)).mpr (by lia)⟩
theorem Hy(h:u-l<=m-y)(h1:t<u)(h2:l<=t):t-l<=m-(y+1):=Qc (BO (Nat.le_sub_one_of_lt h1) l) (by rw[Nat.sub_right_comm,← Nat.sub_sub];exact BO h 1)
theorem Hz(h:u-l<=m-y)(h1:l<=t)(h2:t<u):u-(t+1)<=m-(y+1):=by rw[← Nat.sub_sub,← Nat.sub_sub];exact BO (Qc (Nat.sub_le_sub_left h1 u) h) 1
inductive Bub(γ:Array Nat)(a b i g:Nat):Prop
 | at_ (h:i=a) (e:γ[b]?=some g)
 | mid (j:Nat) (h:i=j+1) (k:a<=j) (l:j<b) (e:γ[j]?=some g)
 | lo (h:i<a) (e:γ[i]?=some g)
 | hi (h:b<i)
theorem ls(e:(if i=a then γ[b]? else if a<i/\i<=b then γ[i-1]? else γ[i]?)=some g):Bub γ a b i g:=by
 by_cases h:i=a
 ·rw[Ad h]at e;exact .at_ h e
 ·rw[Ag h]at e;by_cases h2:a<i/\i<=b
  ·rw[Ad h2]at e;obtain⟨j,rfl⟩:=Nat.exists_eq_add_one_of_ne_zero (A8 (Xl (Wm _) h2.1));exact .mid j rfl (Nat.le_of_lt_succ h2.1) h2.2 e
  ·rw[Ag h2]at e;by_cases h3:i<a
   ·exact .lo h3 e
   ·exact .hi (Bw fun z=>h2 ⟨Nat.lt_of_le_of_ne (Bx h3) (Ne.symm h),z⟩)
theorem wg(hab:a<=b)(h:b<i):(if i=a then γ[b]? else if a<i/\i<=b then γ[i-1]? else γ[i]?)=γ[i]?:=by
 rw[Ag (A8 (Xl hab h)),Ag fun z=>Cc h z.2]
theorem EX(h:i<a):(if i=a then γ[b]? else if a<i/\i<=b then γ[i-1]? else γ[i]?)=γ[i]?:=by
 rw[Ag (Qe h),Ag fun z=>Nat.lt_asymm h z.1]
theorem yL(C:Cm prog w A s k f N c)(R:Rp k f N st γ){lo n ok:Nat}(hn:lo+n<=N)(h1:1<=ok)(hok:ok<=n)(sg:Sg c γ lo (lo+ok))(ow:Ow γ lo (lo+ok))(raw:Raw γ (lo+ok) N)
  {Q:Bool->SortSt->Prop}(q:∀(x:Array Keyed)(γ':Array Nat),Rp k f N (setArr st x) γ'->Sg c γ' lo (lo+n)->Ow γ' lo (lo+n)->Raw γ' (lo+n) N->Out γ γ' lo (lo+n)->Q true (setArr st x)) :
  wpS (model prog w) A E s (binarySort' lo n ok) Q st:=by
 rw[binarySort'_eq]
 refine Ao (BM (AR (I:=fun m r st'=>r=(none,())/\∃x γ',st'=setArr st x/\Rp k f N st' γ'/\Sg c γ' lo (lo+m)/\Ow γ' lo (lo+m)/\Raw γ' (lo+m) N/\Out γ γ' lo (lo+m))
  (Q:=fun r st'=>r=(none,())/\∃x γ',st'=setArr st x/\Rp k f N st' γ'/\Sg c γ' lo (lo+n)/\Ow γ' lo (lo+n)/\Raw γ' (lo+n) N/\Out γ γ' lo (lo+n)) ?step ?fin ?init) ?post)
 case post =>
  rintro r st' ⟨rfl,x,γ',rfl,R',a1,a2,a3,a4⟩;exact Aw (q x γ' R' a1 a2 a3 a4)
 case init =>
  rw[show max ok 1=ok by lia]
  exact⟨rfl,arrOf st,γ,rfl,R,sg,ow,raw,Out.refl _ _ _⟩
 case fin =>
  rintro r st' h;rw[show max (max ok 1) n=n by lia]at h
  exact h
 case step =>
  rintro m r st' hm hmn ⟨rfl,x,γ',rfl,R',a1,a2,a3,a4⟩;have em:γ'[lo+m]?=some (lo+m):=a3 (lo+m) (Wa _) (by lia)
  refine Ao (BM (AR (I:=fun y r st''=>st''=setArr st x/\∃l u,r=(none,l,u)/\l<=u/\u<=m/\u-l<=m-y /\
    (∀i g,lo<=i->i<lo+l->γ'[i]?=some g->c (lo+m) g=false)/\(∀i g,lo+u<=i->i<lo+m->γ'[i]?=some g->c (lo+m) g=true))
   (Q:=fun r st''=>st''=setArr st x/\∃l u,r=(none,l,u)/\l<=m /\
    (∀i g,lo<=i->i<lo+l->γ'[i]?=some g->c (lo+m) g=false)/\(∀i g,lo+l<=i->i<lo+m->γ'[i]?=some g->c (lo+m) g=true)) ?istep ?ifin ?iinit) ?ipost)
  case iinit=>exact⟨rfl,0,m,rfl,by lia,by lia,by lia,fun i g p1 p2=>by lia,fun i g p1 p2=>by lia⟩
  case ifin =>
   rintro r st'' ⟨rfl,l,u,rfl,b1,b2,b3,b4,b5⟩;obtain rfl:l=u:=by lia
   exact⟨rfl,l,l,rfl,b2,b4,b5⟩
  case istep =>
   rintro y r st'' _ hy ⟨rfl,l,u,rfl,b1,b2,b3,b4,b5⟩;dsimp only;by_cases hge:l ≥ u
   ·refine nt hge ?_;obtain rfl:l=u:=by lia
    exact Aw ⟨rfl,l,l,rfl,b2,b4,b5⟩
   ·refine lr hge ?_;have hq:l<=(l+u) / 2/\(l+u) / 2<u:=mid (Bw hge);generalize (l+u) / 2=t at hq;obtain⟨q1,q2⟩:=hq;have q3:t-l<=m-(y+1):=Hy b3 q2 q1;have q4:u-(t+1)<=m-(y+1):=Hz b3 q1 q2;obtain⟨g,eg⟩:=wf (γ:=γ') (i:=lo+t) (by rw[R'.size];lia)
    refine Ao (gU C R' em eg ?_);cases hc:c (lo+m) g with
    | true =>
     refine Aw ⟨rfl,l,t,rfl,q1,by lia,q3,b4,fun i g' p1 p2 e=>?_⟩
     by_cases hi:i=lo+t
     ·subst hi;rw[eg]at e;cases e;exact hc
     ·have bf:=a1 _ i g g' (by lia) (by lia) p2 eg e
      rcases C.neg _ g' _ hc with z|z
      ·exact z
      ·rw[C.le bf]at z;cases z
    | false =>
     refine Aw ⟨rfl,t+1,u,rfl,q2,b2,q4,fun i g' p1 p2 e=>?_,b5⟩;by_cases hi:i=lo+t
     ·subst hi;rw[eg]at e;cases e;exact hc
     ·have bf:=a1 i _ g' g p1 (by lia) (by lia) e eg
      exact C.letr (C.le bf) hc
  case ipost =>
   rintro r st'' ⟨rfl,l,u,rfl,b2,b4,b5⟩;show wpS _ _ _ _ (do moveDown' (lo+m) (lo+l);pure (ForInStep.yield (none,()))) _ _
   rw[moveDown'_eq];have hs:lo+m<γ'.size:=by rw[R'.size];lia
   have gb:=getElem?_bubble hs (lo+m-(lo+l)) (Nat.sub_le _ _);rw[Nat.sub_sub_self (Vj b2 lo)]at gb;refine Ao (wpS_modify (Aw ⟨rfl,bubble x (lo+m) (lo+m-(lo+l)),bubble γ' (lo+m) (lo+m-(lo+l)),rfl,R'.put (bubble_perm _ _ _) ?_,?_,?_,?_,?_⟩))
   ·rw[R'.arr,qL]
   ·intro i j g h p1 p2 p3 e1 e2;rw[gb]at e1 e2;cases ls e1 with
    | at_ y e1 =>
     rw[em]at e1;cases e1;cases ls e2 with
     | at_ z e2=>lia
     | mid j' z z1 z2 e2=>exact .inl (b5 _ h z1 z2 e2)
     | lo z e2=>lia
     | hi z=>lia
    | mid i' y y1 y2 e1 =>
     cases ls e2 with
     | at_ z e2=>lia
     | mid j' z z1 z2 e2=>exact a1 _ _ g h (Qc (Zl _ _) y1) (by lia) z2 e1 e2
     | lo z e2=>lia
     | hi z=>lia
    | lo y e1 =>
     have ym:i<lo+m:=Wb y (Vj b2 lo);cases ls e2 with
     | at_ z e2 =>
      rw[em]at e2;cases e2;exact .inr ⟨b4 i g p1 y e1,(a2 i g p1 ym e1).2⟩
     | mid j' z z1 z2 e2=>exact a1 i _ g h p1 (Wb y z1) z2 e1 e2
     | lo z e2=>exact a1 i j g h p1 p2 (Wb z (Vj b2 lo)) e1 e2
     | hi z=>lia
    | hi y=>lia
   ·intro i g p1 p2 e;rw[gb]at e;cases ls e with
    | at_ z e=>rw[em]at e;cases e;exact⟨Zl _ _,Nat.lt_succ_self _⟩
    | mid j z z1 z2 e=>exact⟨(a2 _ g (Qc (Zl _ _) z1) z2 e).1,Bo (a2 _ g (Qc (Zl _ _) z1) z2 e).2⟩
    | lo z e =>
     have ym:i<lo+m:=Wb z (Vj b2 lo);exact⟨(a2 i g p1 ym e).1,Bo (a2 i g p1 ym e).2⟩
    | hi z=>lia
   ·intro i p1 p2;rw[gb,wg (Vj b2 lo) p1];exact a3 i (A9 p1) p2
   ·intro i p;rw[gb];rcases p with p|p
    ·rw[EX (Wb p (Zl _ _))];exact a4 i (.inl p)
    ·rw[wg (Vj b2 lo) p];exact a4 i (.inr (A9 p))
end
end TS
namespace TS
open PySem PyProof.Rows
section
variable {prog:Program}{w:World}{A:Around}{E:Value->Shared->Prop}{s:Shared}{k:SortKind}{f:Nat->Keyed}{N:Nat}{c:Nat->Nat->Bool}{st:SortSt}{γ:Array Nat}
theorem Sg.more(C:Cm prog w A s k f N c){lo n g h:Nat}(sg:Sg c γ lo n)(h1:lo<n)(e:γ[n-1]?=some g)(e':γ[n]?=some h)(b:Bf c g h):Sg c γ lo (n+1):=by
 intro i j g' h' p1 p2 p3 e1 e2;by_cases hj:j<n
 ·exact sg i j g' h' p1 p2 hj e1 e2
 ·obtain rfl:j=n:=by lia
  rw[e']at e2;cases e2;by_cases hi:i=j-1
  ·subst hi;rw[e]at e1;cases e1;exact b
  ·exact C.trans (sg i (j-1) g' g p1 (by lia) (by lia) e1 e) b
theorem pD(C:Cm prog w A s k f N c){lo x h:Nat}(sg:Sg c γ lo (lo+x))(ow:Ow γ lo (lo+x))(raw:Raw γ (lo+x) N)(h1:1<=x)(hx:lo+x<N)(e:γ[lo+x-1]?=some h)(hc:c (lo+x) h=false) :
  Sg c γ lo (lo+(x+1))/\Ow γ lo (lo+(x+1))/\Raw γ (lo+(x+1)) N:=by
 have en:=raw (lo+x) (Wa _) hx;refine⟨sg.more C (by lia) e en (.inr ⟨hc,(ow _ h (by lia) (by lia) e).2⟩),fun i g p1 p2 e1=>?_,fun i p1 p2=>raw i (by lia) p2⟩
 by_cases hi:i<lo+x
 ·have:=ow i g p1 hi e1;lia
 ·obtain rfl:i=lo+x:=by lia
  rw[en]at e1;cases e1;lia
structure Fl(c:Nat->Nat->Bool)(γ:Array Nat)(lo m n:Nat):Prop where
 le:lo<=m
 lt:m<n
 fall:∀i j g h,lo<=i->i<j->j<m->γ[i]?=some g->γ[j]?=some h->Bf c h g
 cross:∀i j g h,lo<=i->i<m->m<=j->j<n->γ[i]?=some g->γ[j]?=some h->c h g=true
 same:∀i j g h,m<=i->i<n->m<=j->j<n->γ[i]?=some g->γ[j]?=some h->c g h=false
 raw:Raw γ m n
 own:Ow γ lo n
def Fa(c:Nat->Nat->Bool)(γ:Array Nat)(lo n:Nat):Prop:=∀i j g h,lo<=i->i<j->j<n->γ[i]?=some g->γ[j]?=some h->Bf c h g
theorem iF(hn:n<=γ.size)(h1:a<=i)(h2:i<n):∃i',a<=i'/\i'<n/\i+i'+1=a+n/\(mirror γ a n ((n-a) / 2))[i]?=γ[i']? :=
 ⟨a+n-1-i,by lia,by lia,by lia,by rw[getElem?_mirror_all hn,Ad ⟨h1,h2⟩]⟩
theorem fY(hn:n<=γ.size)(h:i<a∨n<=i):(mirror γ a n ((n-a) / 2))[i]?=γ[i]?:=by
 rw[getElem?_mirror_all hn,Ag fun z=>h.elim (fun q=>Cc q z.1) fun q=>Cc z.2 q]
theorem ut{lo n:Nat}(fa:Fa c γ lo n)(hn:n<=γ.size):Sg c (mirror γ lo n ((n-lo) / 2)) lo n:=by
 intro i j g h p1 p2 p3 e1 e2;obtain⟨i',a1,a2,a3,a4⟩:=iF (γ:=γ) hn p1 (BE p2 p3);obtain⟨j',b1,b2,b3,b4⟩:=iF (γ:=γ) hn (Qc p1 (A9 p2)) p3;exact fa j' i' h g b1 (by lia) a2 (b4 ▸ e2) (a4 ▸ e1)
theorem gW{lo a n:Nat}(ow:Ow γ lo n)(ha:lo<=a)(hn:n<=γ.size):Ow (mirror γ a n ((n-a) / 2)) lo n:=by
 intro i g p1 p2 e;by_cases hi:a<=i
 ·obtain⟨i',a1,a2,a3,a4⟩:=iF (γ:=γ) hn hi p2;exact ow i' g (Qc ha a1) a2 (a4 ▸ e)
 ·rw[fY hn (.inl (Bw hi))]at e;exact ow i g p1 p2 e
theorem dY(raw:Raw γ n m)(hn:n<=γ.size):Raw (mirror γ a n ((n-a) / 2)) n m:=by
 intro i p1 p2;rw[fY hn (.inr p1)];exact raw i p1 p2
theorem fZ{lo a n:Nat}{γ':Array Nat}(o:Out γ γ' lo n)(ha:lo<=a)(hn:n<=γ'.size):Out γ (mirror γ' a n ((n-a) / 2)) lo n:=by
 intro i p;rw[fY hn (p.imp (fun q=>Wb q ha) id)];exact o i p
theorem Out.wide{lo n n':Nat}{γ':Array Nat}(o:Out γ γ' lo n)(h:n<=n'):Out γ γ' lo n':=fun i p=>o i (by lia)
theorem Fl.turn{lo m n:Nat}(F:Fl c γ lo m n)(hn:n<=γ.size):Fa c (mirror γ m n ((n-m) / 2)) lo n:=by
 intro i j g h p1 p2 p3 e1 e2;by_cases hj:j<m
 ·rw[fY hn (.inl (BE p2 hj))]at e1;rw[fY hn (.inl hj)]at e2;exact F.fall i j g h p1 p2 hj e1 e2
 obtain⟨j',b1,b2,b3,b4⟩:=iF (γ:=γ) hn (Bx hj) p3;rw[b4]at e2;by_cases hi:i<m
 ·rw[fY hn (.inl hi)]at e1;exact .inl (F.cross i j' g h p1 hi b1 b2 e1 e2)
 ·obtain⟨i',a1,a2,a3,a4⟩:=iF (γ:=γ) hn (Bx hi) (BE p2 p3);rw[a4]at e1;refine .inr ⟨F.same i' j' g h a1 a2 b1 b2 e1 e2,?_⟩;rw[F.raw i' a1 a2]at e1;rw[F.raw j' b1 b2]at e2;cases e1;cases e2;lia
theorem Fl.fa1{lo m:Nat}(F:Fl c γ lo m (m+1)):Fa c γ lo (m+1):=by
 intro i j g h p1 p2 p3 e1 e2;by_cases hj:j<m
 ·exact F.fall i j g h p1 p2 hj e1 e2
 ·exact .inl (F.cross i j g h p1 (by lia) (by lia) p3 e1 e2)
theorem Fa.next(C:Cm prog w A s k f N c){lo n g:Nat}(fa:Fa c γ lo n)(ow:Ow γ lo n)(raw:Raw γ n N)(hl:lo<n)(hn:n<N)(z:∀i g,lo<=i->i<n->γ[i]?=some g->c n g=true):Fl c γ lo n (n+1):=by
 have en:=raw n (Wa _) hn;refine⟨by lia,by lia,fa,fun i j g h p1 p2 p3 p4 e1 e2=>?_,fun i j g h p1 p2 p3 p4 e1 e2=>?_,fun i p1 p2=>raw i p1 (by lia),fun i g p1 p2 e=>?_⟩
 ·obtain rfl:j=n:=by lia
  rw[en]at e2;cases e2;exact z i g p1 p2 e1
 ·obtain rfl:i=n:=by lia
  obtain rfl:j=i:=by lia
  rw[en]at e1 e2;cases e1;cases e2;exact C.irr _
 ·by_cases hi:i<n
  ·have:=ow i g p1 hi e;lia
  ·obtain rfl:i=n:=by lia
   rw[en]at e;cases e;lia
theorem Fl.more(C:Cm prog w A s k f N c){lo m n:Nat}(F:Fl c γ lo m n)(raw:Raw γ n N)(hn:n<N)(z1:c n (n-1)=false)(z2:c (n-1) n=false):Fl c γ lo m (n+1):=by
 have en:=raw n (Wa _) hn;have ep:=F.raw (n-1) (by have:=F.lt;lia) (by have:=F.lt;lia)
 have hlt:=F.lt;have hle:=F.le;refine⟨hle,by lia,F.fall,fun i j g h p1 p2 p3 p4 e1 e2=>?_,fun i j g h p1 p2 p3 p4 e1 e2=>?_,fun i p1 p2=>?_,fun i g p1 p2 e=>?_⟩
 ·by_cases hj:j<n
  ·exact F.cross i j g h p1 p2 p3 hj e1 e2
  ·obtain rfl:j=n:=by lia
   rw[en]at e2;cases e2;rcases C.neg _ j _ (F.cross i (j-1) g (j-1) p1 p2 (by lia) (by lia) e1 ep) with q|q
   ·rw[z2]at q;cases q
   ·exact q
 ·have key:∀a g,m<=a->a<n+1->γ[a]?=some g->c g (n-1)=false/\c (n-1) g=false:=by
   intro a g q1 q2 e;by_cases ha:a<n
   ·exact⟨F.same a (n-1) g (n-1) q1 ha (by lia) (by lia) e ep,F.same (n-1) a (n-1) g (by lia) (by lia) q1 ha ep e⟩
   ·obtain rfl:a=n:=by lia
    rw[en]at e;cases e;exact⟨z1,z2⟩
  exact C.letr (key j h p3 p4 e2).2 (key i g p1 p2 e1).1
 ·by_cases hi:i<n
  ·exact F.raw i p1 hi
  ·exact raw i (by lia) (by lia)
 ·by_cases hi:i<n
  ·have:=F.own i g p1 hi e;lia
  ·obtain rfl:i=n:=by lia
   rw[en]at e;cases e;lia
theorem Fl.below(C:Cm prog w A s k f N c){lo m n x:Nat}(F:Fl c γ lo m n)(z:c x (n-1)=true):∀i g,lo<=i->i<n->γ[i]?=some g->c x g=true:=by
 have hlt:=F.lt;have ep:=F.raw (n-1) (by lia) (by lia)
 intro i g p1 p2 e;rcases C.neg x g _ z with q|q
 ·exact q
 ·by_cases hi:i<m
  ·exact absurd (F.cross i (n-1) g (n-1) p1 hi (by lia) (by lia) e ep) (by rw[C.asy q];exact Bool.noConfusion)
  ·rw[F.same i (n - 1) g (n - 1) (by lia) p2 (by lia) (by lia) e ep]at q;cases q
def Rn(k:SortKind)(f:Nat->Keyed)(N:Nat)(c:Nat->Nat->Bool)(lo:Nat)(st:SortSt)(γ:Array Nat)(n:Nat)(st':SortSt):Prop :=
 ∃x γ',st'=setArr st x/\Rp k f N st' γ'/\Sg c γ' lo (lo+n)/\Ow γ' lo (lo+n)/\Raw γ' (lo+n) N/\Out γ γ' lo (lo+n)
def pE(lo n nrem:Nat):StateT SortSt Sem (Option Nat):=do
 reverseSlice' lo (lo+n)
 let r ← forIn [n:nrem] ((none,n):Option (Option Nat)×Nat) fun _ r=>do
  match ← ltAt' (lo+r.2) (lo+r.2-1) with
  | some smaller=>if smaller=true then pure (ForInStep.done (none,r.2)) else pure (ForInStep.yield (none,r.2+1))
  | _=>pure (ForInStep.done (some none,r.2))
 match r.1 with
 | some z=>pure z
 | none=>pure (some r.2)
def ly(lo x nrem:Nat):StateT SortSt Sem (Option Nat):=do
 liftM (rule "list.sort.descending-run")
 let r ← forIn [x+1:nrem] ((none,x+1,0):Option (Option Nat)×Nat×Nat) fun _ r=>do
  match ← ltAt' (lo+r.2.1) (lo+r.2.1-1) with
  | some smaller =>
   if smaller=true then
    if r.2.2 > 0 then do
     reverseSlice' (lo+r.2.1-(r.2.2+1)) (lo+r.2.1)
     pure (ForInStep.yield (none,r.2.1+1,0))
    else pure (ForInStep.yield (none,r.2.1+1,0))
   else do
    match ← ltAt' (lo+r.2.1-1) (lo+r.2.1) with
    | some larger=>if larger=true then pure (ForInStep.done (none,r.2.1,r.2.2)) else pure (ForInStep.yield (none,r.2.1+1,r.2.2+1))
    | _=>pure (ForInStep.done (some none,r.2.1,r.2.2))
  | _=>pure (ForInStep.done (some none,r.2.1,r.2.2))
 match r.1 with
 | some z=>pure z
 | none =>
  if r.2.2 > 0 then do
   reverseSlice' (lo+r.2.1-(r.2.2+1)) (lo+r.2.1)
   pE lo r.2.1 nrem
  else pE lo r.2.1 nrem
theorem om(h:Q () (setArr st (mirror (arrOf st) i j ((j-i) / 2)))):wpS (model prog w) A E s (reverseSlice' i j) Q st:=by
 rw[reverseSlice'_eq];exact wpS_modify h
theorem sB(C:Cm prog w A s k f N c){st₀:SortSt}{γ₀:Array Nat}{lo n:Nat}{y:Array Keyed}(R:Rp k f N (setArr st₀ y) γ)(h1:1<=n)(hn:lo+n<=N)(fa:Fa c γ lo (lo+n))(ow:Ow γ lo (lo+n))(raw:Raw γ (lo+n) N)(out:Out γ₀ γ lo (lo+n))
  {Q:Option Nat->SortSt->Prop}(q:∀n st',1<=n->lo+n<=N->Rn k f N c lo st₀ γ₀ n st'->Q (some n) st'):wpS (model prog w) A E s (pE lo n (N-lo)) Q (setArr st₀ y):=by
 have hs:lo+n<=γ.size:=by rw[R.size];exact hn
 refine Ao (om ?_);have R1:Rp k f N (setArr st₀ (mirror y lo (lo+n) ((lo+n-lo) / 2))) (mirror γ lo (lo+n) ((lo+n-lo) / 2)):=R.put (mirror_perm _ _ _ _) (by rw[show y=γ.map f from R.arr,fX])
 have sg:=ut fa hs;have ow':=gW ow (Wa lo) hs;have raw':=dY (a:=lo) raw hs;have out':=fZ out (Wa lo) hs;generalize mirror γ lo (lo+n) ((lo+n-lo) / 2)=δ at R1 sg ow' raw' out';generalize mirror y lo (lo+n) ((lo+n-lo) / 2)=y' at R1
 refine Ao (BM (AR (I:=fun x r st'=>st'=setArr st₀ y'/\r=(none,x)/\n<=x/\lo+x<=N/\Sg c δ lo (lo+x)/\Ow δ lo (lo+x)/\Raw δ (lo+x) N)
  (Q:=fun r st'=>st'=setArr st₀ y'/\∃x,r=(none,x)/\n<=x/\lo+x<=N/\Sg c δ lo (lo+x)/\Ow δ lo (lo+x)/\Raw δ (lo+x) N) ?step ?fin ?init) ?post)
 case init=>exact⟨rfl,rfl,Wa _,hn,sg,ow',raw'⟩
 case fin =>
  rintro r st' ⟨rfl,rfl,b1,b2,b3,b4,b5⟩;exact⟨rfl,_,rfl,b1,b2,b3,b4,b5⟩
 case step =>
  rintro x r st' p1 p2 ⟨rfl,rfl,b1,b2,b3,b4,b5⟩;dsimp only;have en:=b5 (lo+x) (by lia) (by lia)
  obtain⟨g,ep⟩:=wf (γ:=δ) (i:=lo+x-1) (by rw[R1.size];lia)
  refine Ao (gU C R1 en ep ?_);cases hc:c (lo+x) g with
  | true=>exact Aw ⟨rfl,x,rfl,b1,b2,b3,b4,b5⟩
  | false =>
   obtain⟨a1,a2,a3⟩:=pD C b3 b4 b5 (by lia) (by lia) ep hc
   exact Aw ⟨rfl,rfl,by lia,by lia,a1,a2,a3⟩
 case post =>
  rintro r st' ⟨rfl,x,rfl,b1,b2,b3,b4,b5⟩;exact Aw (q x _ (by lia) b2 ⟨y',δ,rfl,R1,b3,b4,b5,out'.wide (by lia)⟩)
theorem sC(C:Cm prog w A s k f N c){st₀:SortSt}{γ₀:Array Nat}{lo x:Nat}{y:Array Keyed}(R:Rp k f N (setArr st₀ y) γ)(hx:lo+x<N)(F:Fl c γ lo (lo+x) (lo+x+1))(raw:Raw γ (lo+x+1) N)(out:Out γ₀ γ lo (lo+x+1))
  {Q:Option Nat->SortSt->Prop}(q:∀n st',1<=n->lo+n<=N->Rn k f N c lo st₀ γ₀ n st'->Q (some n) st'):wpS (model prog w) A E s (ly lo x (N-lo)) Q (setArr st₀ y):=by
 refine Ao (wpS_lift (BW ⟨rfl,?_⟩))
 refine Ao (BM (AR (I:=fun n r st'=>∃e y' δ,r=(none,n,e)/\st'=setArr st₀ y'/\Rp k f N (setArr st₀ y') δ/\e+1<=n/\lo+n<=N/\Fl c δ lo (lo+n-(e+1)) (lo+n)/\Raw δ (lo+n) N/\Out γ₀ δ lo (lo+n))
  (Q:=fun r st'=>∃n e y' δ,r=(none,n,e)/\st'=setArr st₀ y'/\Rp k f N (setArr st₀ y') δ/\e+1<=n/\lo+n<=N/\Fl c δ lo (lo+n-(e+1)) (lo+n)/\Raw δ (lo+n) N/\Out γ₀ δ lo (lo+n)) ?step ?fin ?init) ?post)
 case init=>exact⟨0,y,γ,rfl,rfl,R,by lia,by lia,F,raw,out⟩
 case fin =>
  rintro r st' ⟨e,y',δ,h⟩;exact⟨_,e,y',δ,h⟩
 case step =>
  rintro n r st' p1 p2 ⟨e,y',δ,rfl,rfl,R1,b1,b2,F1,raw1,out1⟩;dsimp only;have en:=raw1 (lo+n) (Wa _) (by lia)
  have s1:1<=lo+n:=by lia
  have ep:=F1.raw (lo+n-1) (Nat.sub_le_sub_left (Nat.succ_le_succ (Wm e)) _) (Nat.sub_lt s1 Nat.one_pos);have hs:lo+n<=δ.size:=by rw[R1.size];exact b2
  refine Ao (gU C R1 en ep ?_);cases hc:c (lo+n) (lo+n-1) with
  | true =>
   dsimp only;refine nt rfl ?_;have bl:=F1.below C hc;by_cases he:e > 0
   ·refine nt he ?_;refine Ao (om (Aw ?_));have fa:=F1.turn hs;have ow':=gW F1.own F1.le hs;have raw':=dY (a:=lo+n-(e+1)) raw1 hs;have out':=fZ out1 F1.le hs;refine⟨0,_,mirror δ (lo+n-(e+1)) (lo+n) ((lo+n-(lo+n-(e+1))) / 2),rfl,rfl,R1.put (mirror_perm _ _ _ _) (by rw[show arrOf (setArr st₀ y')=δ.map f from R1.arr,fX]),by lia,by lia,?_,fun i q1 q2=>raw' i (by lia) q2,out'.wide (by lia)⟩
    refine fa.next C (g:=0) ow' raw' (by lia) (by lia) fun i g q1 q2 e1=>?_
    by_cases hi:lo+n-(e+1)<=i
    ·obtain⟨i',a1,a2,_,a4⟩:=iF (γ:=δ) hs hi q2;exact bl i' g (Qc F1.le a1) a2 (a4 ▸ e1)
    ·rw[fY hs (.inl (Bw hi))]at e1;exact bl i g q1 q2 e1
   ·obtain rfl:e=0:=by lia
    refine lr he ?_;have F2:Fl c δ lo (lo+n-1) (lo+n-1+1):=by rw[Bb s1];exact F1
    have fa:=F2.fa1;rw[Bb s1]at fa;exact Aw ⟨0,y',δ,rfl,rfl,R1,by lia,by lia,fa.next C (g:=0) F1.own raw1 (by lia) (by lia) bl,fun i q1 q2=>raw1 i (by lia) q2,out1.wide (by lia)⟩
  | false =>
   dsimp only;refine lr Bool.noConfusion ?_;refine Ao (gU C R1 ep en ?_);cases hc2:c (lo+n-1) (lo+n) with
   | true=>exact Aw ⟨n,e,y',δ,rfl,rfl,R1,b1,b2,F1,raw1,out1⟩
   | false =>
    refine Aw ⟨e+1,y',δ,rfl,rfl,R1,by lia,by lia,?_,fun i q1 q2=>raw1 i (by lia) q2,out1.wide (by lia)⟩
    rw[show lo+(n+1) - (e+1+1)=lo+n - (e+1) from Nat.succ_sub_succ _ _];exact F1.more C raw1 (by lia) hc hc2
 case post =>
  rintro r st' ⟨n,e,y',δ,rfl,rfl,R1,b1,b2,F1,raw1,out1⟩;have hs:lo+n<=δ.size:=by rw[R1.size];exact b2
  have s1:1<=lo+n:=by lia
  dsimp only;by_cases he:e > 0
  ·refine nt he ?_;refine Ao (om ?_);exact sB C (γ:=mirror δ (lo+n-(e+1)) (lo+n) ((lo+n-(lo+n-(e+1))) / 2)) (R1.put (mirror_perm _ _ _ _) (by rw[show arrOf (setArr st₀ y')=δ.map f from R1.arr,fX])) (by lia) b2 (F1.turn hs) (gW F1.own F1.le hs) (dY (a:=lo+n-(e+1)) raw1 hs) (fZ out1 F1.le hs) q
  ·obtain rfl:e=0:=by lia
   refine lr he ?_;have F2:Fl c δ lo (lo+n-1) (lo+n-1+1):=by rw[Bb s1];exact F1
   have fa:=F2.fa1;rw[Bb s1]at fa;exact sB C R1 (by lia) b2 fa F1.own raw1 out1 q
theorem EY(C:Cm prog w A s k f N c)(R:Rp k f N st γ){lo:Nat}(hl:lo<N)(raw:Raw γ lo N)
  {Q:Option Nat->SortSt->Prop}(q:∀n st',1<=n->lo+n<=N->Rn k f N c lo st γ n st'->Q (some n) st'):wpS (model prog w) A E s (countRun' lo (N-lo)) Q st:=by
 rw[countRun'_eq];have sg1:Sg c γ lo (lo+1):=fun i j g h p1 p2 p3=>by lia
 have ow1:Ow γ lo (lo+1):=fun i g p1 p2 e=>by
  obtain rfl:i=lo:=by lia
  rw[raw i (Wa _) hl]at e;cases e;lia
 refine Ao (BM (AR (I:=fun x r st'=>st'=st/\r=(none,x)/\1<=x/\lo+x<=N/\Sg c γ lo (lo+x)/\Ow γ lo (lo+x)/\∀i g h,lo<=i->i+1<lo+x->γ[i]?=some g->γ[i+1]?=some h->c h g=false)
  (Q:=fun r st'=>st'=st/\∃x,r=(none,x)/\1<=x/\lo+x<=N/\Sg c γ lo (lo+x)/\Ow γ lo (lo+x)/\(lo+x=N∨c (lo+x) (lo+x-1)=true)) ?step ?fin ?init) ?post)
 case init=>exact⟨rfl,rfl,by lia,by lia,sg1,ow1,fun i g h p1 p2=>by lia⟩
 case fin =>
  rintro r st' ⟨rfl,rfl,b1,b2,b3,b4,b5⟩;exact⟨rfl,_,rfl,b1,b2,b3,b4,.inl (by lia)⟩
 case step =>
  rintro x r st' p1 p2 ⟨rfl,rfl,b1,b2,b3,b4,b5⟩;dsimp only;have en:=raw (lo+x) (by lia) (by lia)
  have ep:=raw (lo+x-1) (by lia) (by lia)
  refine Ao (gU C R en ep ?_);cases hc:c (lo+x) (lo+x-1) with
  | true=>exact Aw ⟨rfl,x,rfl,b1,b2,b3,b4,.inr hc⟩
  | false =>
   obtain⟨a1,a2,_⟩:=pD C b3 b4 (fun i q1 q2=>raw i (by lia) q2) b1 (by lia) ep hc
   refine Aw ⟨rfl,rfl,by lia,by lia,a1,a2,fun i g h q1 q2 e1 e2=>?_⟩
   rw[raw i q1 (by lia)]at e1
   rw[raw (i+1) (by lia) (by lia)]at e2
   cases e1;cases e2;by_cases hi:i+1<lo+x
   ·exact b5 i i (i+1) q1 hi (raw _ q1 (by lia)) (raw _ (by lia) (by lia))
   ·obtain rfl:i=lo+x-1:=by lia
    rw[show lo+x - 1+1=lo+x by lia];exact hc
 case post =>
  rintro r st' ⟨rfl,x,rfl,b1,b2,b3,b4,b6⟩;dsimp only;by_cases hx:lo+x=N
  ·refine nt (by simp;lia) ?_
   exact Aw (q x _ b1 b2 ⟨_,γ,rfl,R,b3,b4,fun i q1 q2=>raw i (by lia) q2,Out.refl _ _ _⟩)
  ·refine lr (by simp;lia) ?_
   have hc:c (lo+x) (lo+x-1)=true:=b6.resolve_left hx;have hs:lo+x<=γ.size:=by rw[R.size];exact b2
   have raw':Raw γ (lo+x) N:=fun i q1 q2=>raw i (by lia) q2
   by_cases h1:x > 1
   ·refine nt h1 ?_;refine Ao (gU C R (raw lo (Wa _) hl) (raw (lo+x-1) (by lia) (by lia)) ?_)
    cases hr:c lo (lo+x-1) with
    | true=>exact Aw (q x _ b1 b2 ⟨_,γ,rfl,R,b3,b4,raw',Out.refl _ _ _⟩)
    | false =>
     dsimp only;refine lr Bool.noConfusion ?_;have le:∀a b,lo<=a->a<lo+x->lo<=b->b<lo+x->a<=b->c b a=false:=fun a b p1 p2 p3 p4 p5=>by
      by_cases ab:a=b
      ·subst ab;exact C.irr _
      ·exact C.le (b3 a b a b p1 (by lia) p4 (raw a p1 (by lia)) (raw b p3 (by lia)))
     have al:∀a b,lo<=a->a<lo+x->lo<=b->b<lo+x->c a b=false:=fun a b p1 p2 p3 p4=>by
      by_cases ab:b<=a
      ·exact le b a p3 p4 p1 p2 ab
      ·cases hab:c a b with
       | false=>rfl
       | true =>
        rcases C.neg a lo b hab with z|z
        ·rw[le lo a (Wa _) (by lia) p1 p2 p1]at z;exact z.symm
        ·rcases C.neg lo (lo+x-1) b z with z|z
         ·rw[hr]at z;exact z.symm
         ·rw[le b (lo+x - 1) p3 p4 (by lia) (by lia) (by lia)]at z;exact z.symm
     have F0:Fl c γ lo lo (lo+x):=⟨Wa _,by lia,fun i j g h p1 p2 p3=>by lia,fun i j g h p1 p2=>by lia,fun i j g h p1 p2 p3 p4 e1 e2=>by
      rw[raw i p1 (by lia)]at e1
      rw[raw j p3 (by lia)]at e2
      cases e1;cases e2
      exact al i j p1 p2 p3 p4,fun i p1 p2=>raw i p1 (by lia),b4⟩
     refine Ao (om ?_);refine(show ∀{m:StateT SortSt Sem (Option Nat)}{t:SortSt},m=ly lo x (N-lo)->wpS (model prog w) A E s (ly lo x (N-lo)) Q t->wpS (model prog w) A E s m Q t from fun e h=>e ▸ h) ?_
      (sC C (st₀:=st') (γ₀:=γ) (γ:=mirror γ lo (lo+x) ((lo+x-lo) / 2)) (R.put (mirror_perm _ _ _ _) (by rw[R.arr,fX])) (by lia)
       ((F0.turn hs).next C (g:=0) (gW b4 (Wa _) hs) (dY (a:=lo) raw' hs) (by lia) (by lia) fun i g p1 p2 e=>?_) (fun i q1 q2=>dY (a:=lo) raw' hs i (by lia) q2) ((fZ (Out.refl γ lo (lo+x)) (Wa _) hs).wide (by lia)) q)
     ·unfold ly pE;congr 1;funext _v;congr 1;funext z;obtain⟨z1,z2,z3⟩:=z;cases z1 with
      | some z1=>rfl
      | none =>
       dsimp only;split
       ·congr 1;funext _y;congr 1;funext _u;congr 1;funext z;obtain⟨z1,z2⟩:=z;cases z1<;>rfl
       ·congr 1;funext _u;congr 1;funext z;obtain⟨z1,z2⟩:=z;cases z1<;>rfl
     ·obtain⟨i',a1,a2,_,a4⟩:=iF (γ:=γ) hs p1 p2;exact F0.below C hc i' g a1 a2 (a4 ▸ e)
   ·obtain rfl:x=1:=by lia
    refine lr h1 ?_;have fa:Fa c γ lo (lo+1):=fun i j g h p1 p2 p3=>by lia
    refine(show ∀{m:StateT SortSt Sem (Option Nat)},m=ly lo 1 (N-lo)->wpS (model prog w) A E s (ly lo 1 (N-lo)) Q st'->wpS (model prog w) A E s m Q st' from fun e h=>e ▸ h) ?_ (sC C (st₀:=st') (y:=arrOf st') (γ₀:=γ) (γ:=γ) R (by lia) (fa.next C (g:=0) b4 raw' (by lia) (by lia) fun i g p1 p2 e=>?_) (fun i q1 q2=>raw i (by lia) q2) (Out.refl _ _ _) q)
    ·unfold ly pE;congr 1;funext _v;congr 1;funext z;obtain⟨z1,z2,z3⟩:=z;cases z1 with
     | some z1=>rfl
     | none =>
      dsimp only;split
      ·congr 1;funext _y;congr 1;funext _u;congr 1;funext z;obtain⟨z1,z2⟩:=z;cases z1<;>rfl
      ·congr 1;funext _u;congr 1;funext z;obtain⟨z1,z2⟩:=z;cases z1<;>rfl
    obtain rfl:i=lo:=by lia
    rw[raw i (Wa _) hl]at e;cases e;exact hc
end
end TS
namespace TS
open PySem PyProof.Rows
def HA:StateT SortSt Sem Unit:=sortPriv% PySem.Builtin.sortRuns
section
variable {prog:Program}{w:World}{A:Around}{E:Value->Shared->Prop}{s:Shared}{k:SortKind}{f:Nat->Keyed}{N:Nat}{c:Nat->Nat->Bool}{st:SortSt}{γ:Array Nat}
theorem EZ(C:Cm prog w A s k f N c)(R:Rp k f N st γ){lo n ok:Nat}(hn:lo+n<=N)(h1:1<=ok)(hok:ok<=n)(sg:Sg c γ lo (lo+ok))(ow:Ow γ lo (lo+ok))(raw:Raw γ (lo+ok) N)
  {Q:Bool->SortSt->Prop}(q:∀(x:Array Keyed)(γ':Array Nat),Rp k f N (setArr st x) γ'->Sg c γ' lo (lo+n)->Ow γ' lo (lo+n)->Raw γ' (lo+n) N->Out γ γ' lo (lo+n)->Q true (setArr st x)) :
  wpS (model prog w) A E s ((sortPriv% PySem.Builtin.binarySort) lo n ok) Q st:=yL C R hn h1 hok sg ow raw q
theorem E8(C:Cm prog w A s k f N c)(R:Rp k f N st γ){lo:Nat}(hl:lo<N)(raw:Raw γ lo N)
  {Q:Option Nat->SortSt->Prop}(q:∀n st',1<=n->lo+n<=N->Rn k f N c lo st γ n st'->Q (some n) st'):wpS (model prog w) A E s ((sortPriv% PySem.Builtin.countRun) lo (N-lo)) Q st:=EY C R hl raw q
theorem yM(h64:N<64)(C:Cm prog w A s k f N c)(R:Rp k f N st γ)(hp:pendingOf st=#[])(raw:Raw γ 0 N){Q:Unit->SortSt->Prop}(q:∀st' γ',Rp k f N st' γ'->Sg c γ' 0 N->Q ⟨⟩ st'):wpS (model prog w) A E s HA Q st:=by
 have hsz:((sortPriv% PySem.Builtin.SortState.a) st).size=N:=by
  have:=congrArg Array.size R.arr;rw[AO,R.size]at this;exact this
 have hmin:(sortPriv% PySem.Builtin.minRun) N N 0=N:=by
  cases N with
  | zero=>rfl
  | succ m =>
   show minRun' (m+1) (m+1) 0=m+1;rw[minRun'_succ,Ad h64]
 refine Ao (wpS_get ?_);dsimp only;rw[hsz,hmin]
 refine Ao (BM (AR (I:=fun x r st'=>(r=(none,0)/\st'=st/\x=0)∨(r=(none,N)/\(pendingOf st').size<=1/\∃γ',Rp k f N st' γ'/\Sg c γ' 0 N))
  (Q:=fun r st'=>r.1=none/\(pendingOf st').size<=1/\∃γ',Rp k f N st' γ'/\Sg c γ' 0 N) ?step ?fin ?init) ?post)
 case init=>exact .inl ⟨rfl,rfl,rfl⟩
 case fin =>
  rintro r st' (⟨rfl,rfl,hx⟩|⟨rfl,hz,γ',R',g'⟩)
  ·have hN:N=0:=by lia
   subst hN;exact⟨rfl,by rw[hp];exact Wm _,γ,R,fun i j g h z1 z2 z3=>by lia⟩
  ·exact⟨rfl,hz,γ',R',g'⟩
 case step =>
  rintro x r st' _ hxN (⟨rfl,rfl,hx⟩|⟨rfl,hz,γ',R',g'⟩)
  ·dsimp only;have hpos:0<N:=by lia
   rw[Ag (by lia)]
   refine Ao (E8 C R hpos raw fun n st1 hn1 hn2 rn=>?_);obtain⟨xa,γ1,hst1,R1,sg1,ow1,raw1,out1⟩:=rn;have pd1:pendingOf st1=#[]:=by rw[hst1];exact hp
   dsimp only;by_cases hm:n<N
   ·rw[Ad hm];refine Ao (wpS_lift (BW ⟨rfl,?_⟩));rw[show min (N - 0) N=N by lia]
    refine Ao (EZ C R1 (n:=N) (by lia) hn1 (by lia) sg1 ow1 raw1 fun xb γ2 R2 sg2 ow2 raw2 out2=>?_)
    rw[Ag (by decide)]
    refine Ao (wpS_get ?_);have hb:((sortPriv% PySem.Builtin.SortState.pending) (setArr st1 xb)).back?=none:=by
     show(pendingOf st1).back?=none;rw[pd1];rfl
    rw[hb];refine Ao (wpS_modify (Aw (.inr ⟨by rw[A7],?_,γ2,⟨R2.arr,R2.kind,R2.fine,R2.perm⟩,by rw[A7]at sg2;exact sg2⟩)))
    show((pendingOf st1).push _).size<=1;rw[pd1];exact Wa _
   ·rw[Ag hm];obtain rfl:n=N:=by lia
    refine Ao (wpS_get ?_);have hb:((sortPriv% PySem.Builtin.SortState.pending) st1).back?=none:=by
     show(pendingOf st1).back?=none;rw[pd1];rfl
    rw[hb];refine Ao (wpS_modify (Aw (.inr ⟨by rw[A7],?_,γ1,⟨R1.arr,R1.kind,R1.fine,R1.perm⟩,by rw[A7]at sg1;exact sg1⟩)))
    show((pendingOf st1).push _).size<=1;rw[pd1];exact Wa _
  ·dsimp only;rw[Ad (Wa N)];exact Aw ⟨rfl,hz,γ',R',g'⟩
 case post =>
  rintro⟨r1,r2⟩ st' ⟨hr,hz,γ',R',g'⟩;dsimp only at hr;subst hr;dsimp only;refine Ao (BM (AR (I:=fun _ r st2=>r=(none,())/\st2=st') (Q:=fun r st2=>r=(none,())/\st2=st') ?step3 ?fin3 ?init3) ?post3)
  case init3=>exact⟨rfl,rfl⟩
  case fin3=>exact fun r st2 h=>h
  case step3 =>
   rintro y r st2 _ _ ⟨rfl,rfl⟩;refine Ao (wpS_get ?_);rw[Ad (show((sortPriv% PySem.Builtin.SortState.pending) st2).size<=1 from hz)];exact Aw ⟨rfl,rfl⟩
  case post3 =>
   rintro r st2 ⟨rfl,rfl⟩;exact Aw (q st2 γ' R' g')
end
end TS
namespace VF
open PySem L2
open Classical in
noncomputable def ltL(lt:D->D->Bool):List D->List D->Bool
 | [],[]=>false
 | [],_::_=>true
 | _::_,[]=>false
 | x::xs,y::ys=>if x=y then ltL lt xs ys else lt x y
noncomputable def ltN:Nat->D->D->Bool
 | 0,_,_=>false
 | _+1,.int i,.int j=>decide (i<j)
 | _+1,.str x,.str y=>decide (x.cps.toList<y.cps.toList)
 | n+1,.tup xs,.tup ys=>ltL (ltN n) xs ys
 | _+1,_,_=>false
def Cp:Nat->D->D->Prop
 | 0,_,_=>False
 | _+1,.int _,.int _=>True
 | _+1,.str _,.str _=>True
 | n+1,.tup xs,.tup ys=>∀(i:Nat) x y,xs[i]?=some x->ys[i]?=some y->Cp n x y
 | _+1,_,_=>False
theorem sD:∀(xs:List D),ltL lt xs xs=false
 | []=>rfl
 | x::xs=>by
  unfold ltL;rw[Ad rfl];exact sD xs
theorem kD:∀(n:Nat)(a:D),ltN n a a=false
 | 0,_=>rfl
 | n+1,a=>by
  cases a with
  | int i=>exact Af (Int.lt_irrefl i)
  | str x=>exact Af (List.lt_irrefl _)
  | tup xs=>exact sD xs
  | _=>rfl
structure Or(n:Nat):Prop where
 tri:∀{a b:D},Cp n a b->a=b∨ltN n a b=true∨ltN n b a=true
 tra:∀{a b c:D},Cp n a b->Cp n b c->Cp n a c->ltN n a b=true->ltN n b c=true->ltN n a c=true
abbrev Cl(n:Nat)(xs ys:List D):Prop:=∀(i:Nat) x y,xs[i]?=some x->ys[i]?=some y->Cp n x y
theorem Cl.tail(h:Cl n (x::xs) (y::ys)):Cl n xs ys:=fun i a b e1 e2=>h (i+1) a b (by simpa using e1) (by simpa using e2)
theorem Cl.head(h:Cl n (x::xs) (y::ys)):Cp n x y:=h 0 x y rfl rfl
open Classical in
theorem bW:ltL lt (x::xs) (x::ys)=ltL lt xs ys:=by
 show(if x=x then ltL lt xs ys else lt x x)=_;rw[Ad rfl]
open Classical in
theorem aY(h:x≠y):ltL lt (x::xs) (y::ys)=lt x y:=by
 show(if x=y then ltL lt xs ys else lt x y)=_;rw[Ag h]
theorem sE(O:Or n):∀{xs ys:List D},Cl n xs ys->xs=ys∨ltL (ltN n) xs ys=true∨ltL (ltN n) ys xs=true
 | [],[],_=>.inl rfl
 | [],_::_,_=>.inr (.inl rfl)
 | _::_,[],_=>.inr (.inr rfl)
 | x::xs,y::ys,h=>by
  by_cases e:x=y
  ·subst e;rw[bW,bW];rcases sE O h.tail with q|q
   ·exact .inl (by rw[q])
   ·exact .inr q
  ·rw[aY e,aY (Ne.symm e)];rcases O.tri h.head with q|q
   ·exact absurd q e
   ·exact .inr q
theorem sF(O:Or n):∀{xs ys zs:List D},Cl n xs ys->Cl n ys zs->Cl n xs zs->ltL (ltN n) xs ys=true->ltL (ltN n) ys zs=true->ltL (ltN n) xs zs=true
 | [],[],[],_,_,_,h1,_=>h1
 | [],_::_,[],_,_,_,_,h2=>h2
 | [],_,_::_,_,_,_,_,_=>rfl
 | _::_,[],_,_,_,_,h1,_=>by cases h1
 | _::_,_::_,[],_,_,_,_,h2=>by cases h2
 | x::xs,y::ys,z::zs,c1,c2,c3,h1,h2=>by
  by_cases e1:x=y
  ·subst e1;rw[bW]at h1;by_cases e2:x=z
   ·subst e2;rw[bW]at h2 ⊢;exact sF O c1.tail c2.tail c3.tail h1 h2
   ·rw[aY e2]at h2 ⊢;exact h2
  ·rw[aY e1]at h1;by_cases e2:y=z
   ·subst e2;rw[aY e1];exact h1
   ·rw[aY e2]at h2;have h3:=O.tra c1.head c2.head c3.head h1 h2;have e3:x≠z:=fun e=>by subst e;rw[kD]at h3;cases h3
    rw[aY e3];exact h3
theorem jJ:∀n,Or n
 | 0=>⟨fun h=>h.elim,fun h=>h.elim⟩
 | n+1=>by
  have O:=jJ n;refine⟨fun {a b} h=>?_,fun {a b c} h1 h2 h3 l1 l2=>?_⟩
  ·cases a with
   | int i =>
    cases b with
    | int j =>
     rcases Int.lt_trichotomy i j with q|q|q
     ·exact .inr (.inl (Ai q))
     ·exact .inl (by rw[q])
     ·exact .inr (.inr (Ai q))
    | _=>exact h.elim
   | str x =>
    cases b with
    | str y =>
     by_cases q:x.cps.toList<y.cps.toList
     ·exact .inr (.inl (Ai q))
     ·by_cases q':y.cps.toList<x.cps.toList
      ·exact .inr (.inr (Ai q'))
      ·refine .inl ?_;have:=pz (a:=x) (b:=y) q' q;rw[this]
    | _=>exact h.elim
   | tup xs =>
    cases b with
    | tup ys =>
     rcases sE O h with q|q
     ·exact .inl (by rw[q])
     ·exact .inr q
    | _=>exact h.elim
   | _=>exact h.elim
  ·cases a with
   | int i =>
    cases b with
    | int j =>
     cases c with
     | int k =>
      have q1:=Ak l1;have q2:=Ak l2;exact Ai (Int.lt_trans q1 q2)
     | _=>exact h2.elim
    | _=>exact h1.elim
   | str x =>
    cases b with
    | str y =>
     cases c with
     | str z =>
      have q1:=Ak l1;have q2:=Ak l2;exact Ai (List.lt_trans q1 q2)
     | _=>exact h2.elim
    | _=>exact h1.elim
   | tup xs =>
    cases b with
    | tup ys =>
     cases c with
     | tup zs=>exact sF O h1 h2 h3 l1 l2
     | _=>exact h2.elim
    | _=>exact h1.elim
   | _=>exact h1.elim
theorem sG(h:∀a b,lt a b=true->lt b a=false):∀(xs ys:List D),ltL lt xs ys=true->ltL lt ys xs=false
 | [],[],l=>by cases l
 | [],_::_,_=>rfl
 | _::_,[],l=>by cases l
 | x::xs,y::ys,l=>by
  by_cases e:x=y
  ·subst e;rw[bW]at l ⊢;exact sG h xs ys l
  ·rw[aY e]at l;rw[aY (Ne.symm e)];exact h x y l
theorem sH:∀(n:Nat)(a b:D),ltN n a b=true->ltN n b a=false
 | 0,_,_,l=>by cases l
 | n+1,a,b,l=>by
  cases a with
  | int i =>
   cases b with
   | int j =>
    have q:=Ak l;exact Af (by lia)
   | _=>cases l
  | str x =>
   cases b with
   | str y =>
    have q:=Ak l;exact Af (List.lt_asymm q)
   | _=>cases l
  | tup xs =>
   cases b with
   | tup ys=>exact sG (sH n) xs ys l
   | _=>cases l
  | _=>cases l
def Srt(n:Nat)(es:List D):Prop:=es.Pairwise fun a b=>ltN n b a=false
open Classical in
noncomputable def j0(n:Nat)(ds:List D):List D:=if h:∃es:List D,es.Perm ds/\Srt n es then h.choose else ds
def CA(n:Nat)(ds:List D):Prop:=∀a∈ds,∀b∈ds,Cp n a b
theorem CA.neg(h:CA n ds)(ha:a∈ds)(hb:b∈ds)(hc:c∈ds)(l:ltN n a c=true):ltN n a b=true∨ltN n b c=true:=by
 rcases(jJ n).tri (h a ha b hb) with q|q|q
 ·subst q;exact .inr l
 ·exact .inl q
 ·exact .inr ((jJ n).tra (h b hb a ha) (h a ha c hc) (h b hb c hc) q l)
theorem lA{ds es:List D}(h:CA n ds)(p:es.Perm ds)(s:Srt n es):es=j0 n ds:=by
 have ex:∃es:List D,es.Perm ds/\Srt n es:=⟨es,p,s⟩;have e:j0 n ds=ex.choose:=by unfold j0;rw[dif_pos ex]
 obtain⟨p2,s2⟩:=ex.choose_spec;rw[e];refine(p.trans p2.symm).eq_of_pairwise (fun a b ha hb h1 h2=>?_) s s2;rcases(jJ n).tri (h a (p.mem_iff.mp ha) b (p2.mem_iff.mp hb)) with q|q|q
 ·exact q
 ·rw[h2]at q;cases q
 ·rw[h1]at q;cases q
end VF
namespace VF
open PySem L2 PySem.SeqAt
open PySem.AutoSeq1 (wpAny_loadPart')
open PySem.MeetsSeq PySem.MeetsSeq2 PySem.MeetsSeq3
def LtAt(A:Around)(s:Shared)(u v:Value)(b:Bool):Prop:=∀(prog:Program)(w:World)(E:Value->Shared->Prop)(Q:Value->Shared->Prop),Q (.bool b) s->wpAny (model prog w) A (richCompare .Lt u v) Q E s
open Classical in
inductive IL(A:Around)(s:Shared)(lt:D->D->Bool):List Value->List Value->List D->List D->Prop where
 | left {ws:List Value} {es:List D}:ws.length=es.length->IL A s lt [] ws [] es
 | right {vs:List Value} {ds:List D}:vs.length=ds.length->IL A s lt vs [] ds []
 | cons {v w:Value} {vs ws:List Value} {d e:D} {ds es:List D}:EqAt A.in1 s v w (decide (d=e))->(d≠e->LtAt A.in1 s v w (lt d e))->IL A s lt vs ws ds es->IL A s lt (v::vs) (w::ws) (d::ds) (e::es)
open Classical in
inductive KL(A:Around)(s:Shared)(lt:D->D->Bool)(n m:Nat)(R:Result->Shared->Prop){α β:Type}(rest:List (Value×Value))(b:Option α×β)(s':Shared):Prop
 | mk (vs ws:List Value) (ds' es':List D) (e1:b.1=none) (e2:s'=s) (hz:rest=vs.zip ws) (hi:IL A s lt vs ws ds' es') (hlen:vs.length+m=ws.length+n) (hR:R (.ok (.ret (.bool (ltL lt ds' es')))) s)
open Classical in
theorem mF(l b:Addr)(items items2:Array Value)(n n2:Nat)(dd dd2:Option Addr)(sl sl2:Array (Option Value))(lt:D->D->Bool)(ds es:List D) :
  Meets (Builtin.«tuple.__lt__» ⟨[.ref l,.ref b],[]⟩)
   (fun A R s=>s.heap.get? l=some { cls:=.type "tuple",dict:=dd,data:=.seq items n,slots:=sl }/\s.heap.get? b=some { cls:=.type "tuple",dict:=dd2,data:=.seq items2 n2,slots:=sl2 } /\
    IL A s lt items.toList items2.toList ds es/\R (.ok (.ret (.bool (ltL lt ds es)))) s) :=
 .of_wp fun prog w A R s h=>by
  obtain⟨hp,g,d,tk,os⟩:=s;obtain⟨hl,hb,hI,h⟩:=h;have f2:=AutoSeq1.sub_tuple_tuple
  wp_walk using BI hl,BI hb,wpAny_forIn_list _ (KL A ⟨hp,g,d,tk,os⟩ lt items.size items2.size R) _
  case turn =>
   rintro⟨y,x⟩ rest b s' ⟨vs,ws,ds',es',hb',rfl,hz,hi,hlen,hR⟩;cases hi with
   | left _=>rw[List.zip_nil_left]at hz;cases hz
   | right _=>rw[List.zip_nil_right]at hz;cases hz
   | @cons v w' vs' ws' d' e' ds2 es2 he hlt hi' =>
    rw[Bc]at hz;injection hz with hyx hrest;injection hyx with hy hx;subst hy hx;simp only[Yc]at hlen;refine Ab (he prog w _ _ ?_);by_cases hde:d'=e'
    ·subst hde;rw[Ai rfl];rw[bW]at hR
     wp_walk
     exact⟨_,_,_,_,rfl,rfl,hrest,hi',by lia,hR⟩
    ·rw[Af hde];rw[aY hde]at hR;have hri:=hlt hde prog w
     wp_walk using hri
     exact⟨_,rfl,by simpa using hR⟩
  case fin =>
   rintro⟨b1,b2⟩ s' ⟨vs,ws,ds',es',hb',rfl,hz,hi,hlen,hR⟩;simp only at hb';subst hb';have hv:ltL lt ds' es'=decide (items.size<items2.size):=by
    cases hi with
    | left hl2 =>
     cases es' with
     | nil =>
      simp only[Ve]at hlen hl2;exact(Af (by lia)).symm
     | cons e0 e1 =>
      simp only[Ve,Yc]at hlen hl2;exact(Ai (by lia)).symm
    | right hl2 =>
     cases ds' with
     | nil =>
      simp only[Ve]at hlen hl2;exact(Af (by lia)).symm
     | cons e0 e1 =>
      simp only[Ve,Yc]at hlen hl2;exact(Af (by lia)).symm
    | cons _ _ _ =>
     rw[Bc]at hz;cases hz
   rw[hv]at hR
   wp_walk
   exact⟨_,rfl,by simpa[Builtin.Tuple.tupleCompareSizes]using hR⟩
  case h =>
   exact⟨items.toList,items2.toList,ds,es,rfl,rfl,rfl,hI,by rw[Vc,Vc,CG],h⟩
theorem LtAt.tuples{A:Around}{s:Shared}{items items2:Array Value}(hl:s.heap.IsTuple l items)(hb:s.heap.IsTuple b items2)(hu:A.units<cLine)(hI:IL A s lt items.toList items2.toList ds es) :
  LtAt A s (.ref l) (.ref b) (ltL lt ds es):=fun prog w E Q h=>by
 obtain⟨⟨cls,dd,data,sl⟩,ho,hc,n,hd⟩:=id hl;obtain⟨⟨cls2,dd2,data2,sl2⟩,ho2,hc2,n2,hd2⟩:=id hb;simp only at hc hd hc2 hd2;subst hc hd hc2 hd2;exact richCompare_meets_room (op:=.Lt) ⟨_,ho,rfl⟩ ⟨_,ho2,rfl⟩ PySem.F.slot_tuple_lt PySem.F.entry_tuple_lt (PySem.F.args_tuple_lt_2 _ _) (mF l b items items2 n n2 dd dd2 sl sl2 lt ds es)
  ⟨ho,ho2,hI,show Value.bool (ltL lt ds es)≠Value.notImplemented/\Q (.bool (ltL lt ds es)) s from⟨(fun x=>nomatch x),h⟩⟩ hu
theorem C7{A:Around}:∀{vs ws:List Value}{ds es:List D},vs.length=ds.length->ws.length=es.length ->
  (∀(i:Nat) v w d e,vs[i]?=some v->ws[i]?=some w->ds[i]?=some d->es[i]?=some e->(∀b,(b=true↔d=e)->EqAt A.in1 s v w b)/\(d≠e->LtAt A.in1 s v w (lt d e)))->IL A s lt vs ws ds es
 | [],_,[],_,_,h2,_=>.left h2
 | _::_,[],_::_,[],h1,_,_=>.right h1
 | v::vs,w::ws,d::ds,e::es,h1,h2,h=>by
  obtain⟨a1,a2⟩:=h 0 v w d e rfl rfl rfl rfl;exact .cons (a1 _ (by simp)) a2 (C7 (by simpa using h1) (by simpa using h2) fun i v' w' d' e' z1 z2 z3 z4=>h (i+1) v' w' d' e' (by simpa using z1) (by simpa using z2) (by simpa using z3) (by simpa using z4))
 | [],_,_::_,_,h1,_,_=>by simp at h1
 | _::_,_,[],_,h1,_,_=>by simp at h1
 | _::_,[],_::_,_::_,_,h2,_=>by simp at h2
 | _::_,_::_,_::_,[],_,h2,_=>by simp at h2
open Classical in
theorem pF{A:Around}{u v:Value}{d e:D}(h:EqAt A s u v (decide (d=e)))(b:Bool)(hb:b=true↔d=e):EqAt A s u v b:=by
 have:b=decide (d=e):=by rw[Yg,hb,decide_eq_true_eq]
 rw[this];exact h
theorem RH.ltAt:∀(n:Nat){s:Shared}{d1 d2:D}{u1 u2:Value}{A:Around},Pl n d1->Pl n d2->Cp n d1 d2->RH s.heap u1 d1->RH s.heap u2 d2->A.units+n<cLine->LtAt A s u1 u2 (ltN n d1 d2):=by
 intro n;induction n with
 | zero=>intro s d1 d2 u1 u2 A p;cases p
 | succ n ih =>
  intro s d1 d2 u1 u2 A p1 p2 cp r1 r2 hu;cases r1 with
  | non=>exact cp.elim
  | int i t =>
   cases r2 with
   | int j t'=>exact fun prog w E Q h=>HT.rcLt_int A s i t j t' prog w E Q h
   | _=>exact cp.elim
  | str x t =>
   cases r2 with
   | str y t'=>exact fun prog w E Q h=>(BS h:wpAny (model prog w) A (compareOp .Lt (.str x t) (.str y t')) Q E s)
   | _=>exact cp.elim
  | lst _ _ _=>exact cp.elim
  | @tup a its ds t hl f =>
   cases r2 with
   | @tup b its' ds' t' hl' f' =>
    cases p1 with
    | tup p1 =>
    cases p2 with
    | tup p2 =>
    refine LtAt.tuples t t' (by lia) (C7 (by simpa using hl) (by simpa using hl') fun i v w d e z1 z2 z3 z4=>?_)
    have z1':its[i]?=some v:=by simpa using z1
    have z2':its'[i]?=some w:=by simpa using z2
    have m1:=p1 d (Yd z3);have m2:=p2 e (Yd z4);have hu':A.in1.units+n<cLine:=by show A.units+1+n<cLine;lia
    exact⟨pF (RH.eqAt n m1 m2 (f i v d z1' z3) (f' i w e z2' z4) hu').1,fun _=>ih m1 m2 (cp i d e z3 z4) (f i v d z1' z3) (f' i w e z2' z4) hu'⟩
   | _=>exact cp.elim
end VF
namespace VF
open PySem L2 PyProof.Rows PySem.SeqAt
def pG(A:Around)(s:Shared)(fl:Bool)(u v:Value)(c:Bool):Prop:=∀(prog:Program)(w:World)(E:Value->Shared->Prop)(Q:Bool->Shared->Prop),Q c s->wpAny (model prog w) A (oneLt' fl u v) Q E s
open Classical in
inductive IK(A:Around)(s:Shared)(b:Bool)(lt:D->D->Bool):Nat->List Value->List Value->List D->List D->Prop where
 | left {i:Nat} {ws:List Value} {es:List D}:ws.length=es.length->IK A s b lt i [] ws [] es
 | right {i:Nat} {vs:List Value} {ds:List D}:vs.length=ds.length->IK A s b lt i vs [] ds []
 | cons {i:Nat} {v w:Value} {vs ws:List Value} {d e:D} {ds es:List D}:EqAt A s v w (decide (d=e))->(d≠e->pG A s (b&&i == 0) v w (lt d e))->IK A s b lt (i+1) vs ws ds es->IK A s b lt i (v::vs) (w::ws) (d::ds) (e::es)
section
variable {prog:Program}{w:World}{A:Around}{E:Value->Shared->Prop}{s:Shared}
theorem wj(h:LtAt A s u v c):pG A s false u v c:=fun prog w E Q q=>by
 rw[oneLt'_eq];dsimp only;rw[Ag Bool.noConfusion];exact Ab (h prog w _ _ (AG q))
theorem sI(fl:Bool):pG A s fl (.int a t) (.int b u) (decide (a<b)):=fun prog w E Q q=>by
 cases fl with
 | true=>exact oneLt_int q
 | false=>exact wj (fun prog w E Q h=>HT.rcLt_int A s a t b u prog w E Q h) prog w E Q q
theorem sJ{a b:Str}(fl:Bool):pG A s fl (.str a t) (.str b u) (decide (a.cps.toList<b.cps.toList)):=fun prog w E Q q=>by
 cases fl with
 | true=>exact oneLt_str q
 | false=>exact wj (fun prog w E Q h=>(BS h:wpAny (model prog w) A (compareOp .Lt (.str a t) (.str b u)) Q E s)) prog w E Q q
inductive KI(A:Around)(s:Shared)(b:Bool)(lt:D->D->Bool)(n m:Nat)(Q:Bool->Shared->Prop)(rest:List ((Value×Value)×Nat))(r:Option Bool×Unit)(s':Shared):Prop
 | mk (i:Nat) (vs ws:List Value) (ds' es':List D) (e1:s'=s) (e2:r=(none,())) (hz:rest=(vs.zip ws).zipIdx i) (hi:IK A s b lt i vs ws ds' es') (hlen:vs.length+m=ws.length+n) (hR:Q (ltL lt ds' es') s)
open Classical in
theorem yN{xs ys:Array Value}(hl:s.heap.IsTuple l xs)(hr:s.heap.IsTuple r ys)(hI:IK A s b lt 0 xs.toList ys.toList ds es)(q:Q (ltL lt ds es) s) :
  wpAny (model prog w) A (keyLt' (tuples' b) (.ref l) (.ref r)) Q E s:=by
 obtain⟨o1,g1,_,n1,d1⟩:=hl;obtain⟨o2,g2,_,n2,d2⟩:=hr;refine Ab (B5 g1 d1 ?_);refine Ab (B5 g2 d2 ?_);refine Ab (wpAny_forIn_list _ (KI A s b lt xs.size ys.size Q) _ ?_ ?_ _ _ ?_)
 ·rintro⟨⟨y,x⟩,j⟩ rest r s' ⟨i,vs,ws,ds',es',rfl,rfl,hz,hi,hlen,hR⟩;cases hi with
  | left _=>rw[List.zip_nil_left]at hz;cases hz
  | right _=>rw[List.zip_nil_right]at hz;cases hz
  | @cons _ v w' vs' ws' d' e' ds2 es2 he hlt hi' =>
   rw[Bc,List.zipIdx_cons]at hz;injection hz with hyx hrest;injection hyx with hy hj;injection hy with hy hx;subst hy hx hj;simp only[Yc]at hlen;dsimp only;refine Ab (he prog w _ _ ?_);by_cases hde:d'=e'
   ·subst hde;rw[Ai rfl];rw[bW]at hR;exact Ae ⟨_,_,_,_,_,rfl,rfl,hrest,hi',by lia,hR⟩
   ·rw[Af hde];rw[aY hde]at hR;exact Ab (hlt hde prog w _ _ (Ae (Ae hR)))
 ·rintro r s' ⟨i,vs,ws,ds',es',rfl,rfl,hz,hi,hlen,hR⟩;have hv:ltL lt ds' es'=decide (xs.size<ys.size):=by
   cases hi with
   | left hl2 =>
    cases es' with
    | nil =>
     simp only[Ve]at hlen hl2;exact(Af (by lia)).symm
    | cons e0 e1 =>
     simp only[Ve,Yc]at hlen hl2;exact(Ai (by lia)).symm
   | right hl2 =>
    cases ds' with
    | nil =>
     simp only[Ve]at hlen hl2;exact(Af (by lia)).symm
    | cons e0 e1 =>
     simp only[Ve,Yc]at hlen hl2;exact(Af (by lia)).symm
   | cons _ _ _ =>
    rw[Bc,List.zipIdx_cons]at hz;cases hz
  rw[hv]at hR;exact Ae hR
 ·exact⟨0,xs.toList,ys.toList,ds,es,rfl,rfl,rfl,hI,by rw[Vc,Vc,CG],q⟩
theorem C8:∀{i:Nat}{vs ws:List Value}{ds es:List D},vs.length=ds.length->ws.length=es.length ->
  (∀(j:Nat) v w d e,vs[j]?=some v->ws[j]?=some w->ds[j]?=some d->es[j]?=some e->(∀c,(c=true↔d=e)->EqAt A s v w c)/\(d≠e->pG A s (b&&(i+j) == 0) v w (lt d e)))->IK A s b lt i vs ws ds es
 | _,[],_,[],_,_,h2,_=>.left h2
 | _,_::_,[],_::_,[],h1,_,_=>.right h1
 | i,v::vs,w::ws,d::ds,e::es,h1,h2,h=>by
  obtain⟨a1,a2⟩:=h 0 v w d e rfl rfl rfl rfl;refine .cons (a1 _ (by simp)) a2 (C8 (by simpa using h1) (by simpa using h2) fun j v' w' d' e' z1 z2 z3 z4=>?_)
  have:=h (j+1) v' w' d' e' (by simpa using z1) (by simpa using z2) (by simpa using z3) (by simpa using z4)
  rwa [show i+(j+1)=i+1+j by lia]at this
 | _,[],_,_::_,_,h1,_,_=>by simp at h1
 | _,_::_,_,[],_,h1,_,_=>by simp at h1
 | _,_::_,[],_::_,_::_,_,h2,_=>by simp at h2
 | _,_::_,_::_,_::_,[],_,h2,_=>by simp at h2
def E9(d:D):Prop:=match d with
 | .tup (.int _::_)=>True
 | _=>False
def Fb(d:D):Prop:=match d with
 | .tup (.str _::_)=>True
 | _=>False
theorem sK(h:E9 d):∃i r,d=.tup (.int i::r):=by
 cases d with
 | tup l =>
  cases l with
  | nil=>exact h.elim
  | cons x r =>
   cases x with
   | int i=>exact⟨_,_,rfl⟩
   | _=>exact h.elim
 | _=>exact h.elim
theorem sL(h:Fb d):∃i r,d=.tup (.str i::r):=by
 cases d with
 | tup l =>
  cases l with
  | nil=>exact h.elim
  | cons x r =>
   cases x with
   | str i=>exact⟨_,_,rfl⟩
   | _=>exact h.elim
 | _=>exact h.elim
theorem wl(p1:Pl (n+1) d1)(p2:Pl (n+1) d2)(cp:Cp (n+1) d1 d2)(r1:RH s.heap u1 d1)(r2:RH s.heap u2 d2)(hu:A.units+(n+1)<cLine)
  (ht:∃xs,d1=.tup xs)(hb:b=true->(E9 d1/\E9 d2)∨(Fb d1/\Fb d2))(q:Q (ltN (n+1) d1 d2) s):wpAny (model prog w) A (keyLt' (tuples' b) u1 u2) Q E s:=by
 obtain⟨xs,rfl⟩:=ht;cases r1 with
 | @tup a its ds t hl f =>
  cases r2 with
  | @tup a2 its' ds' t' hl' f' =>
   cases p1 with
   | tup p1 =>
   cases p2 with
   | tup p2 =>
   refine yN (lt:=ltN n) (ds:=xs) (es:=ds') t t' (C8 (by simpa using hl) (by simpa using hl') fun j v w' d e z1 z2 z3 z4=>?_) q
   have z1':its[j]?=some v:=by simpa using z1
   have z2':its'[j]?=some w':=by simpa using z2
   have m1:=p1 d (Yd z3);have m2:=p2 e (Yd z4);have k1:=f j v d z1' z3;have k2:=f' j w' e z2' z4;have c1:=cp j d e z3 z4;refine⟨pF (RH.eqAt n m1 m2 k1 k2 (by lia)).1,fun _=>?_⟩
   cases hfl:(b&&(0+j) == 0) with
   | false=>exact wj (RH.ltAt n m1 m2 c1 k1 k2 (by lia))
   | true =>
    rw[Zg]at hfl;have hj:j=0:=by have:=eq_of_beq hfl.2;lia
    subst hj;rcases hb hfl.1 with⟨g1,g2⟩|⟨g1,g2⟩
    ·obtain⟨i,r,e1⟩:=sK g1;obtain⟨i2,r2,e2⟩:=sK g2;cases e1;cases e2;cases z3;cases z4;cases k1;cases k2;cases n with
     | zero=>cases m1
     | succ n=>exact sI true
    ·obtain⟨i,r,e1⟩:=sL g1;obtain⟨i2,r2,e2⟩:=sL g2;cases e1;cases e2;cases z3;cases z4;cases k1;cases k2;cases n with
     | zero=>cases m1
     | succ n=>exact sJ true
  | _=>exact cp.elim
end
end VF
namespace VF
open PySem L2 PyProof.Rows
section
variable {M:Model}{prog:Program}{w:World}{A:Around}{E:Value->Shared->Prop}{s:Shared}
theorem sM:∀(l:List α),(∀v∈l,∀Q:β->Shared->Prop,Q (g v) s->wpAny M A (f v) Q E s)->∀Q:List β->Shared->Prop,Q (l.map g) s->wpAny M A (l.mapM f) Q E s
 | [],_,Q,q=>by rw[List.mapM_nil];exact Ae q
 | v::l,h,Q,q=>by
  rw[List.mapM_cons];exact Ab (h v Wc _ (Ab (sM l (fun u hu=>h u (Zc _ hu)) _ (Ae q))))
theorem sN{l:List α}(h:∀v∈l,∀Q:β->Shared->Prop,Q (g v) s->wpAny M A (f v) Q E s)(q:Q (l.map g).toArray s):wpAny M A (l.toArray.mapM f) Q E s:=by
 rw[List.mapM_toArray,map_eq_pure_bind];exact Ab (sM l h _ (Ae q))
def tyD:D->String
 | .int _=>"int"
 | .str _=>"str"
 | .tup _=>"tuple"
 | _=>"list"
theorem RH.ty(r:RH s.heap u d)(h:d≠.non):s.TypeIs u (tyD d):=by
 cases r with
 | non=>exact absurd rfl h
 | int i t=>exact typeIs_int s i t
 | str x t=>exact Co s x t
 | tup t _ _=>obtain⟨o,h1,h2,_⟩:=t;exact⟨o,h1,h2⟩
 | lst t _ _=>obtain⟨o,h1,h2,_⟩:=t;exact⟨o,h1,h2⟩
theorem wm{us:List Value}{ds:List D}(hne:us≠[])(hl:us.length=ds.length)(r:∀(i:Nat) u d,us[i]?=some u->ds[i]?=some d->RH s.heap u d/\d≠.non/\tyD d=T)(q:Q (some (.type T)) s) :
  wpAny M A (oneTypeOnly' us.toArray) Q E s:=by
 rw[oneTypeOnly'_eq];refine Ab (sN (g:=fun _=>Value.type T) (fun v hv Q q=>?_) ?_)
 ·obtain⟨i,hi,rfl⟩:=Xi.mp hv;obtain⟨r1,r2,r3⟩:=r i us[i] ds[i] (Za hi) (Za (by lia))
  exact A6 (r3 ▸ r1.ty r2) q
 ·cases us with
  | nil=>exact absurd rfl hne
  | cons u us =>
   have h0:(List.map (fun _=>Value.type T) (u::us)).toArray[0]?=some (Value.type T):=by simp
   rw[h0];have hall:((List.map (fun _=>Value.type T) (u::us)).toArray.all fun x=>x == Value.type T)=true:=by
    simp only[List.all_toArray,List.all_map,Qm];intro _ _;exact beq_self_eq_true _
   dsimp only;rw[hall,Ad rfl];exact Ae q
theorem wn(r:RH s.heap u d)(h:d≠.non)(ht:tyD d≠"tuple")(q:Q none s):wpAny M A (firstOfTuple' u) Q E s:=by
 refine Ab (A6 (r.ty h) ?_);rw[Ad (by rw[bne_iff_ne];intro e;injection e with e;exact ht e)]
 exact Ae q
theorem uu{its:List Value}(t:s.heap.IsTuple a its.toArray)(e:its=u::us)(q:Q (some u) s):wpAny M A (firstOfTuple' (.ref a)) Q E s:=by
 obtain⟨o,h1,h2,n,h3⟩:=t;refine Ab (A6 (T:="tuple") ⟨o,h1,h2⟩ ?_);rw[Ag (by rw[bne_iff_ne];intro z;exact z rfl)]
 refine Ab (B5 h1 h3 ?_);subst e;exact Ae q
inductive Kd:List D->SortKind->Prop where
 | sc {ds:List D} {T:String}:T≠"tuple"->(∀d∈ds,d≠.non/\tyD d=T)->Kd ds oneType'
 | tp {ds:List D} {T:String}:(∀d∈ds,∃x xs,d=.tup (x::xs)/\x≠.non/\tyD x=T)->Kd ds (tuples' (T != "tuple"))
theorem GL{us:List Value}{ds:List D}(hne:us≠[])(hl:us.length=ds.length)(r:∀(i:Nat) u d,us[i]?=some u->ds[i]?=some d->RH s.heap u d)(hk:Kd ds κ)(q:Q κ s) :
  wpAny M A (keyKind' us.toArray) Q E s:=by
 rw[keyKind'_eq];cases hk with
 | @sc T hT h =>
  refine Ab (sN (g:=fun _=>none) (fun v hv Q q=>?_) ?_)
  ·obtain⟨i,hi,rfl⟩:=Xi.mp hv;have hd:=h ds[i] (Wg _);exact wn (r i _ _ (Za hi) (Za (by lia))) hd.1 (by rw[hd.2];exact hT) q
  ·cases us with
   | nil=>exact absurd rfl hne
   | cons u us =>
    rw[Ag (by simp),Ag (by simp)]
    refine Ab (wm (T:=T) hne hl (fun i u d e1 e2=>⟨r i u d e1 e2,h d (Yd e2)⟩) ?_);exact Ae q
 | @tp T h =>
  have hx:∀(i:Nat)(hi:i<us.length),∃u0 x xs,(∀Q:Option Value->Shared->Prop,Q (some u0) s->wpAny M A (firstOfTuple' us[i]) Q E s)/\ds[i]?=some (.tup (x::xs))/\RH s.heap u0 x/\x≠.non/\tyD x=T:=fun i hi=>by
   have hd:i<ds.length:=by lia
   obtain⟨x,xs,e,h1,h2⟩:=h ds[i] (Wg _);have rr:=r i us[i] ds[i] (Za hi) (Za hd);rw[e]at rr;generalize us[i]=v at rr;cases rr with
   | @tup a its _ t hl f =>
    cases its with
    | nil=>simp at hl
    | cons u0 ur=>exact⟨u0,x,xs,fun Q q=>uu t rfl q,by rw[Za hd,e],f 0 u0 x rfl rfl,h1,h2⟩
  have hf:∃fs:List Value,fs.length=us.length/\(∀Q:Array (Option Value)->Shared->Prop,Q (fs.map some).toArray s->wpAny M A (us.toArray.mapM firstOfTuple') Q E s)/\∀(i:Nat) u,fs[i]?=some u->∃x,RH s.heap u x/\x≠.non/\tyD x=T:=by
   have:∀l:List Value,(∀v∈l,∃u0 x,(∀Q:Option Value->Shared->Prop,Q (some u0) s->wpAny M A (firstOfTuple' v) Q E s)/\RH s.heap u0 x/\x≠.non/\tyD x=T) ->
     ∃fs:List Value,fs.length=l.length/\(∀Q:List (Option Value)->Shared->Prop,Q (fs.map some) s->wpAny M A (l.mapM firstOfTuple') Q E s)/\∀(i:Nat) u,fs[i]?=some u->∃x,RH s.heap u x/\x≠.non/\tyD x=T:=fun l=>by
    induction l with
    | nil=>exact fun _=>⟨[],rfl,fun Q q=>by rw[List.mapM_nil];exact Ae q,fun i u e=>by simp at e⟩
    | cons v l ih =>
     intro hv;obtain⟨fs,f1,f2,f3⟩:=ih fun u hu=>hv u (Zc _ hu);obtain⟨u0,x,g1,g2⟩:=hv v Wc;refine⟨u0::fs,by simp[f1],fun Q q=>?_,fun i u e=>?_⟩
     ·rw[List.mapM_cons];exact Ab (g1 _ (Ab (f2 _ (Ae q))))
     ·cases i with
      | zero =>
       have:u0=u:=by simpa using e
       subst this;exact⟨x,g2⟩
      | succ i=>exact f3 i u (by simpa using e)
   obtain⟨fs,f1,f2,f3⟩:=this us fun v hv=>by
    obtain⟨i,hi,rfl⟩:=Xi.mp hv;obtain⟨u0,x,xs,a1,_,a2⟩:=hx i hi;exact⟨u0,x,a1,a2⟩
   refine⟨fs,f1,fun Q q=>?_,f3⟩;rw[List.mapM_toArray,map_eq_pure_bind];exact Ab (f2 _ (Ae q))
  obtain⟨fs,f1,f2,f3⟩:=hf;refine Ab (f2 _ ?_);rw[Ad (by simp)]
  refine Ab (BW ?_);have e1:(fs.map some).toArray.filterMap id=fs.toArray:=by simp
  rw[e1];have hne':fs≠[]:=fun z=>by
   rw[z]at f1;exact hne (Qk f1.symm)
  obtain⟨xs,hxs,hxx⟩:∃xs:List D,fs.length=xs.length/\∀(i:Nat) u d,fs[i]?=some u->xs[i]?=some d->RH s.heap u d/\d≠.non/\tyD d=T:=by
   have:∀l:List Value,(∀(i:Nat) u,l[i]?=some u->∃x,RH s.heap u x/\x≠.non/\tyD x=T)->∃xs:List D,l.length=xs.length/\∀(i:Nat) u d,l[i]?=some u->xs[i]?=some d->RH s.heap u d/\d≠.non/\tyD d=T:=fun l=>by
    induction l with
    | nil=>exact fun _=>⟨[],rfl,fun i u d e=>by simp at e⟩
    | cons v l ih =>
     intro hv;obtain⟨xs,x1,x2⟩:=ih fun i u e=>hv (i+1) u (by simpa using e)
     obtain⟨x,hx⟩:=hv 0 v rfl;refine⟨x::xs,by simp[x1],fun i u d e1 e2=>?_⟩
     cases i with
     | zero =>
      have a1:v=u:=by simpa using e1
      have a2:x=d:=by simpa using e2
      subst a1 a2;exact hx
     | succ i=>exact x2 i u d (by simpa using e1) (by simpa using e2)
   exact this fs f3
  refine Ab (wm (T:=T) hne' hxs hxx ?_);have e2:(Option.any (fun x=>x != Value.type "tuple") (some (Value.type T)))=(T != "tuple"):=by
   show(Value.type T != Value.type "tuple")=_;rw[Yg,bne_iff_ne,bne_iff_ne];constructor
   ·exact fun h e=>h (by rw[e])
   ·exact fun h e=>h (by injection e)
  rw[e2];exact Ae q
end
end VF
namespace VF
open PySem L2 PyProof.Rows TS
section
variable {prog:Program}{w:World}{A:Around}{E:Value->Shared->Prop}{s:Shared}
theorem RH.kept{h h':Heap}(k:∀b o,h.get? b=some o->h'.get? b=some o)(r:RH h u d):RH h' u d:=by
 induction r with
 | non=>exact .non
 | int i t=>exact .int i t
 | str x t=>exact .str x t
 | tup t hl _ ih=>obtain⟨o,h1,h2⟩:=t;exact .tup ⟨o,k _ o h1,h2⟩ hl ih
 | lst t hl _ ih=>obtain⟨o,h1,h2⟩:=t;exact .lst ⟨o,k _ o h1,h2⟩ hl ih
def dk(ds:List D)(g:Nat):D:=ds.getD g (ds.headD .non)
theorem pH(h:ds[g]?=some d):dk ds g=d:=by
 unfold dk;rw[Xc,h];rfl
theorem f7(h:ds≠[])(g:Nat):dk ds g∈ds:=by
 cases e:ds[g]? with
 | some d=>rw[pH e];exact Yd e
 | none =>
  cases ds with
  | nil=>exact absurd rfl h
  | cons x xs =>
   unfold dk;rw[Xc,e];simp
noncomputable def cD(ds:List D)(g h:Nat):Bool:=ltN 40 (dk ds g) (dk ds h)
theorem wo(h:Cp n d e)(ht:tyD d≠"tuple"):(∃i j,d=.int i/\e=.int j)∨∃x y,d=.str x/\e=.str y:=by
 cases n with
 | zero=>exact h.elim
 | succ n =>
  cases d with
  | int i =>
   cases e with
   | int j=>exact .inl ⟨i,j,rfl,rfl⟩
   | _=>exact h.elim
  | str x =>
   cases e with
   | str y=>exact .inr ⟨x,y,rfl,rfl⟩
   | _=>exact h.elim
  | tup xs=>exact absurd rfl ht
  | _=>exact h.elim
theorem yO{us vs:List Value}{ds:List D}(hl:us.length=ds.length)(r:∀(i:Nat) u d,us[i]?=some u->ds[i]?=some d->RH s.heap u d)(pl:∀d∈ds,Pl 40 d)(ca:CA 40 ds)(hk:Kd ds κ)(hu:A.units+40<cLine) :
  Cm prog w A s κ (fun g=>(us.getD g .none,vs.getD g .none)) us.length (cD ds):=by
 refine⟨fun E Q g h hg hh q=>?_,fun g=>kD _ _,fun g h i h1 h2=>?_,fun g h i h1=>?_⟩
 ·have eg:us[g]?=some us[g]:=Za hg;have eh:us[h]?=some us[h]:=Za hh;have dg:ds[g]?=some ds[g]:=Za (by lia)
  have dh:ds[h]?=some ds[h]:=Za (by lia)
  have q':Q (ltN 40 ds[g] ds[h]) s:=by unfold cD at q;rw[pH dg,pH dh]at q;exact q
  have rg:=r g _ _ eg dg;have rh:=r h _ _ eh dh;have mg:=Yd dg;have mh:=Yd dh;have cp:=ca _ mg _ mh;show wpAny (model prog w) A (keyLt' κ (us.getD g .none) (us.getD h .none)) Q E s;rw[Xc,Xc,eg,eh];show wpAny (model prog w) A (keyLt' κ us[g] us[h]) Q E s;generalize us[g]=ug at rg;generalize us[h]=uh at rh;generalize ds[g]=a at *;generalize ds[h]=b at *;cases hk with
  | @sc T hT hd =>
   rw[keyLt'_oneType];rcases wo cp (by rw[(hd a mg).2];exact hT) with⟨i,j,rfl,rfl⟩|⟨x,y,rfl,rfl⟩
   ·cases rg;cases rh;exact sI true prog w E Q q'
   ·cases rg;cases rh;exact sJ true prog w E Q q'
  | @tp T hd =>
   obtain⟨x,xs,rfl,nx,tx⟩:=hd a mg;obtain⟨y,ys,rfl,ny,ty⟩:=hd b mh;refine wl (n:=39) (pl _ mg) (pl _ mh) cp rg rh (by lia) ⟨_,rfl⟩ (fun hb=>?_) q'
   have hT:T≠"tuple":=by rwa [bne_iff_ne]at hb
   rcases wo (cp 0 x y rfl rfl) (by rw[tx];exact hT) with⟨i,j,rfl,rfl⟩|⟨x,y,rfl,rfl⟩
   ·exact .inl ⟨trivial,trivial⟩
   ·exact .inr ⟨trivial,trivial⟩
 ·by_cases hne:ds=[]
  ·subst hne;have:cD [] g h=false:=kD 40 .non;rw[this]at h1;cases h1
  ·exact(jJ 40).tra (ca _ (f7 hne g) _ (f7 hne h)) (ca _ (f7 hne h) _ (f7 hne i)) (ca _ (f7 hne g) _ (f7 hne i)) h1 h2
 ·by_cases hne:ds=[]
  ·subst hne;have:cD [] g i=false:=kD 40 .non;rw[this]at h1;cases h1
  ·exact ca.neg (f7 hne g) (f7 hne h) (f7 hne i) h1
def dH(vs:List Value)(γ:Array Nat):Array Value:=γ.map fun g=>vs.getD g .none
theorem uv{vs : List Value}{ds : List D}(ho : s.heap.get? a = some (seqObj "list" vs.toArray n))(hz : vs.length ≤ sizeLine)
    (hl : vs.length = ds.length)(r : ∀ (i : Nat) u d, vs[i]? = some u → ds[i]? = some d → RH (((s.heap.update a (Obj.mapSeq fun _ => #[])).push (seqObj "tuple" vs.toArray 0)).push (seqObj "list" #[] 0)) u d)
    (pl : ∀ d ∈ ds, Pl 40 d) (ca : CA 40 ds) (hk : Kd ds κ) (hu : A.units + 40 < cLine) (h64 : vs.length < 64)
    (fin : ∀ γ : Array Nat, γ.Perm (Array.range vs.length) → Sg (cD ds) γ 0 vs.length → P (.done (.ret .none)) { s with heap := sortedHeap s.heap a vs (dH vs γ) }) :
    wpAny (model prog w) A (Builtin.«list.sort» ⟨[.ref a], []⟩) P E s := by
  rw [list_sort_plain];have small := Ah ho;refine Ab (B5 ho rfl (Ab (listUpdate_at ho rfl ?_)));obtain ⟨ep, hE⟩ : ∃ ep, (s.heap.update a (Obj.mapSeq fun _ => #[])).get? a = some (seqObj "list" #[] ep) := ⟨_, get?_update_seq ho (fun _ => #[])⟩;refine Ab (seqEpoch_at hE rfl (Ab (wpAny_newTuple (Ab (wpAny_newList (AD ?_))))));have hE2 : (((s.heap.update a (Obj.mapSeq fun _ => #[])).push (seqObj "tuple" vs.toArray 0)).push (seqObj "list" #[] 0)).get? a = some (seqObj "list" #[] ep) :=
    Ac _ (Ac _ hE)
  generalize hH : ((s.heap.update a (Obj.mapSeq fun _ => #[])).push (seqObj "tuple" vs.toArray 0)).push (seqObj "list" #[] 0) = h6 at r hE2;show wpAny (model prog w) A _ P E { s with heap := h6 };dsimp only;have hsz : vs.toArray.size = vs.length := by simp
  have zs : ∀ γ : Array Nat, γ.Perm (Array.range vs.length) → (dH vs γ).size ≤ sizeLine + 1 := fun γ p => by
    unfold dH;rw [AO, p.size_eq, BC]; lia
  have done : ∀ γ : Array Nat, γ.Perm (Array.range vs.length) → Sg (cD ds) γ 0 vs.length → P (.done (.ret .none)) { s with heap := h6.update a (Obj.mapSeq fun _ => dH vs γ) } := fun γ p g => by
    have := fin γ p g;unfold sortedHeap at this;rw [← hH]; exact this
  have e0 : vs.toArray.zip vs.toArray = (Array.range vs.length).map fun g => (vs.getD g .none, vs.getD g .none) := by
    apply Array.ext_getElem?
    intro i;rw [Array.getElem?_map, Array.getElem?_range];by_cases hi : i < vs.length
    · rw [Ad hi]; simp [hi]
    · rw [Ag hi]; simp [hi]
  by_cases few : vs.toArray.size < 2
  · rw [Ad few, Ad few]
    refine Ab (Ae ?_);rw [StateT.run_pure];refine Ab (Ae ?_);dsimp only;have em : (vs.toArray.zip vs.toArray).map (fun x => x.2) = dH vs (Array.range vs.length) := by
      rw [e0, Array.map_map]; rfl
    refine Ab (seqEpoch_at hE2 rfl (Ab (listUpdate_at hE2 rfl ?_ (hsz2 := ?_))))
    · simp only [bne_self_eq_false, B3, if_false]
      refine Ae ?_;rw [em];exact done _ (Array.Perm.refl _) fun i j g h z1 z2 z3 => by lia
    · rw [em]; exact zs _ (Array.Perm.refl _)
  · rw [Ag few, Ag few]
    have hne : vs ≠ [] := fun z => few (by rw [z]; decide)
    refine Ab (GL (s := { s with heap := h6 }) hne hl r hk ?_);have C : Cm prog w A { s with heap := h6 } κ (fun g => (vs.getD g .none, vs.getD g .none)) vs.length (cD ds) := yO (s := { s with heap := h6 }) hl r pl ca hk hu
    refine Ab (Aq (yM h64 (st := SortSt.mk' κ (vs.toArray.zip vs.toArray) #[] 7 none) C (γ := Array.range vs.length) ⟨e0, rfl, rfl, Array.Perm.refl _⟩ rfl (fun i _ z => by rw [Array.getElem?_range, Ad z])
      (Q := fun _ st' => ∃ γ, Rp κ (fun g => (vs.getD g .none, vs.getD g .none)) vs.length st' γ ∧ Sg (cD ds) γ 0 vs.length) fun st' γ' R g => ⟨γ', R, g⟩) ?_ fun _ _ e => e)
    rintro ⟨⟨⟩, st'⟩ s' ⟨rfl, γ, R, g⟩;dsimp only;have em : (arrOf st').map (fun x => x.2) = dH vs γ := by
      rw [R.arr, Array.map_map]; rfl
    refine Ab (seqEpoch_at hE2 rfl (Ab (listUpdate_at hE2 rfl ?_ (hsz2 := ?_))))
    · rw [show failedOf st' = none from R.fine]
      simp only [bne_self_eq_false, B3, if_false];refine Ae ?_;show P (.done (.ret .none)) { s with heap := h6.update a (Obj.mapSeq fun _ => (arrOf st').map (fun x => x.2)) };rw [em];exact done γ R.perm g
    · show ((arrOf st').map (fun x => x.2)).size ≤ sizeLine + 1
      rw [em]; exact zs γ R.perm
end
end VF
namespace VF
open PySem L2 PyProof.Rows TS
theorem Fc{ds:List D}{γ:Array Nat}(ca:CA 40 ds)(p:γ.Perm (Array.range ds.length))(g:Sg (cD ds) γ 0 ds.length):(γ.toList.map (dk ds))=j0 40 ds:=by
 have hsz:γ.size=ds.length:=by rw[p.size_eq,BC]
 refine lA ca ?_ ?_
 ·have p1:(γ.toList.map (dk ds)).Perm ((List.range ds.length).map (dk ds)):=by
   have:=Array.perm_iff_toList_perm.mp p;rw[Array.toList_range]at this;exact this.map _
  have e:(List.range ds.length).map (dk ds)=ds:=by
   refine BB (by simp) fun i h1 h2=>?_
   rw[List.getElem_map,List.getElem_range,pH (Za h2)]
  rwa [e]at p1
 ·unfold Srt;rw[Qh,Wk];intro i j hi hj hij;rw[Vc]at hi hj;have b:=g i j γ.toList[i] γ.toList[j] (Wm _) hij (by lia) (by rw[← AW];exact Za _) (by rw[← AW];exact Za _)
  rcases b with b|b
  ·exact sH _ _ _ b
  ·exact b.1
end VF
namespace VF22
open PySem PySem.Spec PyProof.Rows L2 VF
def wp:D->Option Key
 | .int i=>some (.inl i)
 | .str x=>some (.inr x)
 | _=>none
def sO:List D->Option (List Key)
 | []=>some []
 | d::r=>(wp d).bind fun k=>(sO r).bind fun ks=>some (k::ks)
section
variable {κ:Type}[DecidableEq κ]
def bZ(kvs:List (κ×D))(k:κ):Option D:=(kvs.find? fun kv=>decide (kv.1=k)).map (·.2)
def f8(kvs:List (κ×D))(k:κ)(d:D):List (κ×D):=if (kvs.any fun kv=>decide (kv.1=k))=true then kvs.map (fun kv=>if kv.1=k then(kv.1,d) else kv) else kvs++[(k,d)]
def Go(R:V->D->Prop)(kvs:List (κ×V))(ds:List (κ×D)):Prop:=kvs.map (·.1)=ds.map (·.1)/\∀(i:Nat) v d,kvs[i]?=some v->ds[i]?=some d->R v.2 d.2
theorem Go.nil:Go R ([]:List (κ×V)) []:=⟨rfl,fun i v d h _=>by simp at h⟩
theorem Go.cons(h1:p.1=q.1)(h2:R p.2 q.2)(t:Go R kvs ds):Go R (p::kvs) (q::ds) :=
 ⟨by rw[Zd,Zd,h1,t.1],fun i v d a b=>by
  cases i with
  | zero=>cases a;cases b;exact h2
  | succ i=>exact t.2 i v d a b⟩
theorem Go.un(h:Go R (p::kvs) (q::ds)):p.1=q.1/\R p.2 q.2/\Go R kvs ds:=by
 obtain⟨h1,h2⟩:=h;rw[Zd,Zd]at h1;injection h1 with a b;exact⟨a,h2 0 p q rfl rfl,b,fun i v d x y=>h2 (i+1) v d x y⟩
theorem Go.look:∀{kvs:List (κ×V)}{ds:List (κ×D)}(k:κ),Go R kvs ds->(hV kvs k=none/\bZ ds k=none)∨∃v d,hV kvs k=some v/\bZ ds k=some d/\R v d
 | [],[],_,_=>.inl ⟨rfl,rfl⟩
 | [],_::_,_,h=>by have:=h.1;simp at this
 | _::_,[],_,h=>by have:=h.1;simp at this
 | p::ps,q::qs,k,h=>by
  obtain⟨h1,h2,h3⟩:=h.un;by_cases e:p.1=k
  ·refine .inr ⟨p.2,q.2,iO e,?_,h2⟩;simp[bZ,Xg,h1.symm.trans e]
  ·have e':¬ q.1=k:=fun z=>e (h1.trans z);rw[iP e,show bZ (q::qs) k=bZ qs k by simp[bZ,Xg,e']]
   exact h3.look k
theorem Go.any{kvs:List (κ×V)}{ds:List (κ×D)}(h:Go R kvs ds)(k:κ):(kvs.any fun kv=>decide (kv.1=k))=ds.any fun kv=>decide (kv.1=k):=by
 have a:∀l:List (κ×V),(l.any fun kv=>decide (kv.1=k))=(l.map (·.1)).any fun x=>decide (x=k):=fun l=>by rw[B9];rfl
 rw[a,h.1,B9];rfl
theorem Go.repl(k:κ)(r:R y d):∀{kvs:List (κ×V)}{ds:List (κ×D)},Go R kvs ds->Go R (kvs.map fun kv=>if kv.1=k then(kv.1,y) else kv) (ds.map fun kv=>if kv.1=k then(kv.1,d) else kv)
 | [],[],_=>Go.nil
 | [],_::_,h=>by have:=h.1;simp at this
 | _::_,[],h=>by have:=h.1;simp at this
 | p::ps,q::qs,h=>by
  obtain⟨h1,h2,h3⟩:=h.un;rw[Zd,Zd];by_cases e:p.1=k
  ·rw[Ad e,Ad (h1.symm.trans e)];exact Go.cons h1 r (h3.repl k r)
  ·rw[Ag e,Ag fun z=>e (h1.trans z)];exact Go.cons h1 h2 (h3.repl k r)
theorem Go.snoc(k:κ)(r:R y d):∀{kvs:List (κ×V)}{ds:List (κ×D)},Go R kvs ds->Go R (kvs++[(k,y)]) (ds++[(k,d)])
 | [],[],_=>Go.cons rfl r Go.nil
 | [],_::_,h=>by have:=h.1;simp at this
 | _::_,[],h=>by have:=h.1;simp at this
 | p::ps,q::qs,h=>by
  obtain⟨h1,h2,h3⟩:=h.un;exact Go.cons h1 h2 (h3.snoc k r)
theorem Go.put(k:κ)(h:Go R kvs ds)(r:R y d):Go R (putK kvs k y) (f8 ds k d):=by
 unfold putK f8;rw[h.any k];split
 ·exact h.repl k r
 ·exact h.snoc k r
theorem Go.len{kvs:List (κ×V)}{ds:List (κ×D)}(h:Go R kvs ds):kvs.length=ds.length:=by
 have:=congrArg List.length h.1;rwa [Ya,Ya]at this
theorem Go.map(h:Go R kvs ds)(f:∀v d,R v d->S v d):Go S kvs ds:=⟨h.1,fun i v d a b=>f _ _ (h.2 i v d a b)⟩
end
section
variable {K:Aa}{Y:AS}{H:Hp}
theorem GM(h:DA K Y H v d)(e:wp d=some k):v=kV k:=by
 cases d with
 | int i=>cases e;cases h;rfl
 | str x=>cases e;cases h;rfl
 | _=>cases e
theorem C9(h:BA K Y H v d)(e:wp d=some k):v=kV k:=by
 cases d with
 | int i=>cases e;exact h
 | str x=>cases e;exact h
 | _=>cases e
theorem qM:∀{ds:List D}{vs:List V}{ks:List Key},El K Y H vs ds->sO ds=some ks->vs=ks.map kV
 | [],vs,ks,h,e=>by
  cases e;obtain rfl:=h.unnil;rfl
 | d::r,vs,ks,h,e=>by
  refine bsO e fun k e1 e=>?_;refine bsO e fun ks' e2 e=>?_;cases e;obtain⟨v,vr,rfl,da,el⟩:=h.uncons;rw[GM da e1,qM el e2];rfl
def atD:D->D->Option (Option D)
 | .dt kvs,.tup ds=>(sO ds).bind fun ks=>some (bZ kvs ks)
 | .dk kvs,d=>(wp d).bind fun k=>some (bZ kvs k)
 | _,_=>none
theorem GN(b1:BA K Y H x d1)(b2:BA K Y H y d2)(e:atD d1 d2=some o):∃(a:Addr)(r:Option V),x=.ref a/\DGet H a y r/\((r=none/\o=none)∨∃v d,r=some v/\o=some d/\DA K Y H v d):=by
 cases d1 with
 | dt kvs =>
  cases d2 with
  | tup ds =>
   refine bsO e fun ks e1 e=>?_;cases e;obtain⟨a,ep,kv,rfl,_,h1,h2,h3⟩:=b1;obtain⟨b,vs,rfl,t,el⟩:=b2;have:=qM el e1;subst this;exact⟨a,_,rfl,DGet.t h1 t.1,Go.look ks ⟨h2,h3⟩⟩
  | _=>cases e
 | dk kvs =>
  refine bsO e fun k e1 e=>?_;cases e;obtain⟨a,kv,rfl,h1,h2,h3⟩:=b1;have:=C9 b2 e1;subst this;exact⟨a,_,rfl,DGet.k h1,Go.look k ⟨h2,h3⟩⟩
 | _=>cases e
def rDG:R2:=fun x y H Q=>∃a v,x=.ref a/\DGet H a y (some v)/\Q v H
def sP:D->D->Option Rz:=fun d1 d2=>(atD d1 d2).bind fun o=>o.bind fun d=>some (d,false)
theorem sQ:RdOp K rDG sP:=by
 intro Y H x y d1 d2 z Q lv b1 b2 e q;refine bsO e fun o e1 e=>?_;obtain⟨d,rfl,e⟩:=Option.bind_eq_some_iff.mp e;cases e;obtain⟨a,r,rfl,g,h|⟨v,d',rfl,h2,da⟩⟩:=GN b1 b2 e1
 ·cases h.2
 ·cases h2;exact⟨a,v,rfl,g,q v H (Same.refl H) da⟩
def Db:xX:=fun x k v H Q=>∃a,x=.ref a/\Ge H a k v Q
def nA:D->D->D->Option D
 | .dt kvs,.tup ds,v=>(sO ds).bind fun ks=>if kvs.length<100000 then some (.dt (f8 kvs ks v)) else none
 | .dk kvs,d,v=>(wp d).bind fun k=>if kvs.length<100000 then some (.dk (f8 kvs k v)) else none
 | _,_,_=>none
theorem jK:vA K Db nA:=by
 intro Y H p x k v dk dv x' Q hp ho bk da e q;have lim:(100000:Nat)<=sizeLine:=by rw[Bj];decide
 cases x with
 | dt kvs =>
  cases dk with
  | tup ds =>
   refine bsO e fun ks e1 e=>?_;by_cases c:kvs.length<100000
   ·rw[Ad c]at e;cases e;obtain⟨ep,kv,ka,h1,h2,h3⟩:=ho;obtain⟨b,vs,rfl,t,el⟩:=bk;have:=qM el e1;subst this;have g:Go (DA K Y H) kv kvs:=⟨h2,h3⟩;refine⟨p,rfl,.inr ⟨ep,kv,ks,b,h1,rfl,t.1,by have:=g.len;lia,fun n=>q _ ?_⟩⟩
    have g':=(g.put ks da).map (S:=DA K Y (upd H p (.dT (n,tO ep.2 kv ks b) (putK kv ks v)))) fun v d h=>h.upd hp;refine⟨(n,tO ep.2 kv ks b),_,KA.go (Y:=Y) (H:=H) (fun c hc=>?_) (fun c o e n=>by rw[am fun z=>n (by rw[z];exact hp)];exact e) (fun c z=>.inl z),ay,g'.1,g'.2⟩
    unfold tO at hc;split at hc
    ·exact ka c hc
    ·rcases Vf.mp hc with hc|hc
     ·exact ka c hc
     ·rw[Vb.mp hc];exact⟨t.2,by rw[t.1];simp⟩
   ·rw[Ag c]at e;cases e
  | _=>cases e
 | dk kvs =>
  refine bsO e fun kk e1 e=>?_;by_cases c:kvs.length<100000
  ·rw[Ad c]at e;cases e;obtain⟨kv,h1,h2,h3⟩:=ho;have:=C9 bk e1;subst this;have g:Go (DA K Y H) kv kvs:=⟨h2,h3⟩;refine⟨p,rfl,.inl ⟨kv,kk,h1,rfl,by have:=g.len;lia,q _ ?_⟩⟩
   have g':=(g.put kk da).map (S:=DA K Y (upd H p (.dK (putK kv kk v)))) fun v d h=>h.upd hp;exact⟨_,ay,g'.1,g'.2⟩
  ·rw[Ag c]at e;cases e
 | _=>cases e
def wq(d:D):FE:=fun st=>some (.f d,st)
theorem pI:RdE K u9 (wq (.dk [])):=by
 intro st σ H O Z Q E r st' h q;cases h;intro p hp;have hres:RES K (U O Z) H (upd H p (.dK [])) (.ref p) (.dk [],true):=⟨p,rfl,hp,[],ay,rfl,fun i v d a _=>by simp at a⟩
 obtain⟨E3,rv⟩:=hres.rv E (aI hp _);exact q _ _ O (Same.ext (aI hp _)) (Kp.refl _) E3 rv fun p' e=>by cases e;exact hp
end
section
variable {X:Cx}
theorem pJ(hu:X.A.units+1<cLine)(ho:PE X o td)(hi:PE X i ty)(hs:DU i):PE X (.Subscript o i pos) (tOp rDG td ty):=yd hu ho hi hs
theorem jL(hu:X.A.units+1<cLine):DH X Db:=by
 intro pins s σ H o i v ov iv u Q I ro ri rv h;obtain⟨a,rfl,g⟩:=h;cases ro;exact tQ hu I g ri rv fun s' H' I' q=>⟨H',I',q⟩
end
end VF22
namespace VF22
open PySem PySem.Spec PyProof.Rows L2 VF
section
variable {prog:Program}{w:World}{A:Around}{E:Value->Shared->Prop}{s:Shared}
def RawD(h:Heap)(d:Addr)(es:Array DictEntry)(ep:Nat):Prop:=∃o,h.get? d=some o/\o.ExactDict/\o.data=.dict es ep
theorem RawD.at{h h':Heap}(x:RawD h d es ep)(e:∀o,h.get? d=some o->h'.get? d=some o):RawD h' d es ep:=let ⟨o,ho,r⟩:=x;⟨o,e _ ho,r⟩
theorem RawD.typeIs(x:RawD s.heap d es ep):s.TypeIs (.ref d) "dict":=let ⟨o,ho,c,_⟩:=x;⟨o,ho,c.1⟩
theorem wr{es:Array DictEntry}(hd:(d == sysModules)=false)(hm:RawD s.heap d es ep)
  (q:Q (.ref s.heap.objs.size) { s with heap:=s.heap.push { cls:=.type "dict_keyiterator",data:=.fields #[.ref d,.int 0 0,.int es.size 0,.int ep 0] } }) :
  wpAny (model prog w) A (pyIter (.ref d)) Q E s:=by
 have ty:=hm.typeIs;obtain⟨o,ho,hc,dat⟩:=hm;refine wpAny_pyIter_slot ty F.slot_dict_iter (AB F.slot_dict_iter ty F.entry_dict_iter ?_ (F.args_dict_iter_1 _));unfold Builtin.«dict.__iter__»;refine Ab ?_;unfold Builtin.Dict.dictSlotNone;refine Ab (wpAny_notOrdered_dict ty ?_);show wpAny _ _ (pure (Value.ref d)) _ _ s;refine Ae ?_;show wpAny _ _ (Builtin.Dict.showsAll d >>= _) _ _ s;unfold Builtin.Dict.showsAll;rw[Ag (by rw[hd];exact Qb)]
 refine Ab (Ae (Ab (B4 ho dat (Ab (Cf ho dat ?_)))));refine Ab (As (Ae ⟨_,rfl,"dict_keyiterator",_,⟨_,Aj _ rfl,rfl⟩,F.slot_dict_keyiterator_next.lookup,?_⟩));simpa[rawInt]using q
theorem wt{es:Array DictEntry}{x:DictEntry}(hit:s.heap.IsKeyIter it d i es.size ep)(hm:RawD s.heap d es ep)(hx:es[i]?=some x)
  (q:∀h',h'.IsKeyIter it d (i+1) es.size ep->Heap.SameBut it s.heap h'->Q (some x.key) { s with heap:=h' }):wpAny (model prog w) A (pyNext (.ref it)) Q E s:=by
 obtain⟨o,ho,hc,hd⟩:=id hit;obtain⟨od,hod,hcd,hdd⟩:=hm;unfold pyNext;refine Ab (BV (Ay (name:=Str.ofString "__next__") hit.typeIs F.slot_dict_keyiterator_next (AB F.slot_dict_keyiterator_next hit.typeIs F.entry_dict_keyiterator_next ?_ (F.args_dict_keyiterator_next_1 _))));refine Ab (Ae (Ab (Ab ?_)));refine Ab (AL hit.typeIs (Ae (Ab (wpAny_fieldsOf ho hd ?_))));have own:Builtin.Dict_items.ownsTuple "dict_keyiterator"=false:=by decide
 simp only[own,Zf,if_false];show wpAny _ _ (if (Value.ref d == Value.none)=true then _ else _) _ _ s;rw[Ag (show ¬ ((Value.ref d == Value.none)=true) from Qb)];refine Ab (Ae (Ab (B4 hod hdd ?_)));rw[Ag (by simp)];refine Ab (Ae (Ab (Cf hod hdd ?_)))
 rw[Ag (by simp)];refine Ae ?_
 have hlt:i<es.size:=(Vg.mp hx).1;have ex:es[i]=x:=(Vg.mp hx).2;simp only[show ¬ ((i:Int)<0) from by lia,if_false,Vk,hx]
 refine Ab (Ab (AL hit.typeIs (Ae (Ab (wpAny_isOneOf_keyiter hit.typeIs ?_)))));show wpAny _ _ (setField (.ref it) 1 (rawInt ((i:Int)+1)) >>= _) _ _ s;refine Ab (AN ho hd (by simp) ?_)
 have hit':(s.heap.update it (Obj.mapFields (·.setIfInBounds 1 (rawInt ((i:Int)+1))))).IsKeyIter it d (i+1) es.size ep:=⟨_,Ax _ ho (AV (AM hd _)),(Obj.cls_mapFields ..).trans hc,by rw[AM hd];simp[rawInt]⟩
 refine Ab (AD (Ab (wpAny_isOneOf_keyiter (s:={ s with heap:=s.heap.update it (Obj.mapFields (·.setIfInBounds 1 (rawInt ((i:Int)+1)))) }) hit'.typeIs ?_)));show wpAny _ _ (pure x.key) _ _ _;exact Ae (Ae ⟨_,rfl,Ae (q _ hit' (A4 ..))⟩)
theorem yP{es:Array DictEntry}(hh:A.handled=none)(hit:s.heap.IsKeyIter it d i es.size ep)(hm:RawD s.heap d es ep)(hx:es.size<=i)
  (q:∀h',Heap.ExtBut it s.heap h'->Q none { s with heap:=h' }):wpAny (model prog w) A (pyNext (.ref it)) Q E s:=by
 obtain⟨o,ho,hc,hd⟩:=id hit;obtain⟨od,hod,hcd,hdd⟩:=hm;unfold pyNext;refine Ab (BV (Ay (name:=Str.ofString "__next__") hit.typeIs F.slot_dict_keyiterator_next (AB F.slot_dict_keyiterator_next hit.typeIs F.entry_dict_keyiterator_next ?_ (F.args_dict_keyiterator_next_1 _))));refine Ab (Ae (Ab (Ab ?_)));refine Ab (AL hit.typeIs (Ae (Ab (wpAny_fieldsOf ho hd ?_))));have own:Builtin.Dict_items.ownsTuple "dict_keyiterator"=false:=by decide
 simp only[own,Zf,if_false];show wpAny _ _ (if (Value.ref d == Value.none)=true then _ else _) _ _ s;rw[Ag (show ¬ ((Value.ref d == Value.none)=true) from Qb)];refine Ab (Ae (Ab (B4 hod hdd ?_)));rw[Ag (by simp)];refine Ab (Ae (Ab (Cf hod hdd ?_)))
 rw[Ag (by simp)];refine Ae ?_
 simp only[show ¬ ((i:Int)<0) from by lia,if_false,Vk,Array.getElem?_eq_none hx]
 refine Ab (Ab (AL hit.typeIs (Ae ?_)));show wpAny _ _ (setField (.ref it) 0 .none >>= _) _ _ s;refine Ab (AN ho hd (by simp) ?_)
 show wpAny _ _ (newExc (.type "StopIteration") [] >>= _) _ _ _;refine Ab ?_;simp only[newExc,newTuple];refine Ab (As ?_ (by size_fits))
 refine Ab (m:=firstArgMember _ _) (wpAny_of_eq (a:=Value.none) (by first|rfl|(simp only[firstArgMember];rfl)) (As ?_ (by size_fits)))
 simp only[raiseNew];refine Ab (wpAny_handled ?_);rw[show A.in1.handled=none from hh];refine Ab (Ae (wpAny_throw ?_));refine Ab (wpAny_isInstance (T:="StopIteration") (b:=true) ⟨_,Aj _ rfl,rfl⟩ isSubtype_stop (Ae (q _ ?_)));exact((A4 ..).extBut.push _).push _
theorem uw(hh:A.handled=none)(I d:Addr)(hne:d≠I)(es:Array DictEntry)(ep:Nat) :
  Walks prog w A I [I,d] [I] es.size (fun i v=>(es[i]?).map (·.key)=some v) (fun i h=>h.IsKeyIter I d i es.size ep/\RawD h d es ep) where
 sub:=fun b hb=>by simp at hb;simp[hb]
 frame:=fun _ _ _ st hk=>⟨st.1.at fun o e=>hk I (by simp) o e,st.2.at fun o e=>hk d (by simp) o e⟩
 item:=fun i s Q E hi st hQ=>by
  have hx:es[i]?=some es[i]:=Xm hi;refine wt st.1 st.2 hx fun h' hit' hs'=>hQ _ h' s.toks (by rw[hx];rfl) ⟨hit',st.2.at fun o e=>hs'.extBut d o hne e⟩ fun b o hb e=>hs'.extBut b o (fun z=>hb (by simp[z])) e
 done:=fun s Q E st hQ=>yP hh st.1 st.2 (Wa _) fun h' he'=>hQ h' s.toks fun b o hb e=>he' b o (fun z=>hb (by simp[z])) e
 self:=fun _ _ _ _ st hQ=>wpAny_pyIter_keyiter st.1 hQ
end
end VF22
namespace VF22
open PySem PySem.Spec PyProof.Rows L2 VF
section
variable {X:Cx}{K:Aa}{O O' Z:AS}{H H':Hp}{tg:Expr}
def dm:Key->D
 | .inl i=>.int i
 | .inr x=>.str x
theorem wu(k:Key):DA K Y H (kV k) (dm k):=by
 cases k with
 | inl i=>exact .int i
 | inr x=>exact .str x
end
end VF22
namespace VF22
open PySem PySem.Spec PyProof.Rows L2 VF TS
section
variable {prog:Program}{w:World}{A:Around}{E:Value->Shared->Prop}{s:Shared}
theorem RawD.lt{h:Heap}(x:RawD h d es ep):d<h.objs.size:=let ⟨_,ho,_⟩:=x;Ah ho
theorem yQ{es:Array DictEntry}(lo:(d == sysModules)=false):PySem.W.KdlSrc prog w "dict" d d es.size (fun i v=>(es[i]?).map (·.key)=some v) (fun h=>RawD h d es ep) where
 type:=fun _ m=>m.typeIs
 there:=fun _ m=>⟨m.lt,m.lt⟩
 keep:=fun _ _ m k=>m.at fun o e=>k d (.inl rfl) o e
 notList:=by decide
 notTuple:=by decide
 hint:=fun _ _ _ _ m q=>PySem.W.kdl_hint_dict m.typeIs q
 iter:=fun _ _ hh m=>⟨_,_,(fun _ _ q=>wr lo m q),uw hh _ d (Qe m.lt) es ep,⟨⟨_,Aj _ rfl,rfl,rfl⟩,m.at fun o e=>Ac _ e⟩⟩
theorem pK{es:Array DictEntry}(hh:A.handled=none)(lo:(d == sysModules)=false)(hm:RawD s.heap d es ep)(hz:es.size<=sizeLine)
  (q:∀h' tk,(∀b o,s.heap.get? b=some o->h'.get? b=some o)->Q (es.toList.map (·.key)) { s with heap:=h',toks:=tk }):wpAny (model prog w) A (collect (.ref d)) Q E s:=by
 refine PySem.W.kdu_collect (yQ lo) hh hm hz fun h' tk acc' kp hi=>?_;have e:acc'.toList=es.toList.map (·.key):=by
  refine BB (by rw[Vc,hi.1,Ya,Vc]) fun i h1 h2=>?_
  have a:(es[i]?).map (·.key)=some acc'[i]:=hi.2 i acc'[i] (Xm (by simpa using h1))
  rw[Xm (by rw[Ya,Vc]at h2;exact h2)]at a
  have a':=Option.some.inj a;rw[Array.getElem_toList,List.getElem_map,Array.getElem_toList];exact a'.symm
 rw[e];exact q h' tk kp
theorem ux{vs:List Value}{ds:List D}(hh:A.handled=none)
  (coll:∀(A:Around)(E:Value->Shared->Prop)(Q:List Value->Shared->Prop),A.handled=none->(∀h' tk,(∀b o,s.heap.get? b=some o->h'.get? b=some o)->Q vs { s with heap:=h',toks:=tk })->wpAny (model prog w) A (collect x) Q E s)(hz:vs.length<=sizeLine)
  (hn:vs.length=ds.length) (r:∀(i:Nat) u d,vs[i]?=some u->ds[i]?=some d->RH s.heap u d) (pl:∀d∈ds,Pl 40 d) (ca:CA 40 ds) (hk:Kd ds κ) (hu:A.units+64<cLine) (h64:vs.length<64)
  (fin:∀(γ:Array Nat)(h':Heap)(a:Addr)(n tk:Nat),γ.Perm (Array.range vs.length)->Sg (cD ds) γ 0 vs.length->(∀b o,s.heap.get? b=some o->h'.get? b=some o)->(∀b o,s.heap.get? b=some o->b≠a)->h'.get? a=some (seqObj "list" (dH vs γ) n)->Q (.ref a) { s with heap:=h',toks:=tk }) :
  wpAny (model prog w) A (call (.builtin "sorted") [x]) Q E s:=by
 refine Calls.call_function_entry kind_sorted plain_sorted entry_sorted (args_sorted1 _) ?_;refine Ab (m:=checkCount "sorted" 1 1 _) (Ae (Ab (coll _ _ _ hh fun h1 tk kp=>Ab (wpAny_newList ?_))));have mine:(h1.push (seqObj "list" vs.toArray 0)).get? h1.objs.size=some (seqObj "list" vs.toArray 0):=Aj _ rfl;show wpAny _ _ _ _ _ { s with heap:=h1.push (seqObj "list" vs.toArray 0),toks:=tk };refine Ab (AD (AB slot_list_sort ⟨_,mine,rfl⟩ entry_list_sort ?_ (args_list_sort _)));have old2:∀b o,s.heap.get? b=some o->b≠h1.objs.size:=fun b o e=>Qe (Ah (kp b o e));refine uv (s:={ s with heap:=h1.push (seqObj "list" vs.toArray 0),toks:=tk }) mine hz hn (fun i u d e1 e2=>(r i u d e1 e2).kept fun b o e=>?_) pl ca hk (by show A.units+1+1+40<cLine;lia) h64 fun γ p g=>?_
 ·exact Ac _ (Ac _ ((BU _ _ _ _ (old2 b o e)).trans (Ac _ (kp b o e))))
 ·obtain⟨n,hn'⟩:=sortedHeap_at (n:=0) (vs:=vs) (out:=dH vs γ) mine;refine⟨_,rfl,Ae ⟨_,rfl,fin γ _ _ n tk p g (fun b o e=>?_) old2 hn'⟩⟩;have hb:b<(h1.push (seqObj "list" vs.toArray 0)).objs.size:=by rw[size_push'];exact Bo (Ah (kp b o e))
  rw[sortedHeap_old (old2 b o e) hb];exact Ac _ (kp b o e)
end
end VF22
namespace VF22
open PySem PySem.Spec PyProof.Rows L2 VF
section
variable {X:Cx}{K:Aa}
def uz(lo:Int)(n:Nat):List V:=(List.range n).map fun i=>V.int (lo+(i:Nat))
theorem uA{acc:Array Value}{lo:Int}{n:Nat}(hi:ItemsOf (fun i v=>∃t,v=Value.int (lo+(i:Nat)*1) t) acc n):Vals (uz lo n) acc.toList:=by
 obtain⟨h1,h2⟩:=hi;have gen:∀(m k:Nat)(l:List Value),l.length=m->(∀(j:Nat) v,l[j]?=some v->∃t,v=Value.int (lo+((k+j:Nat):Int)) t)->Vals ((List.range m).map fun i=>V.int (lo+((k+i:Nat):Int))) l:=by
  intro m;induction m with
  | zero =>
   intro k l hl _;cases l with
   | nil=>exact .nil
   | cons _ _=>cases hl
  | succ m ih =>
   intro k l hl hv;cases l with
   | nil=>cases hl
   | cons v l =>
    rw[CH,Zd,Yi];refine .cons ?_ ?_
    ·obtain⟨t,e⟩:=hv 0 v rfl;exact⟨t,e⟩
    ·have:=ih (k+1) l (by simpa using hl) fun j u e=>by
      obtain⟨t,e'⟩:=hv (j+1) u (by simpa using e)
      exact⟨t,by rw[e',show k+1+j=k+(j+1) by lia]⟩
     refine(congrArg (fun z=>Vals z l) (Qg fun i _=>?_)).mp this;show V.int (lo+((k+1+i:Nat):Int))=V.int (lo+((k+(i+1):Nat):Int));rw[show k+1+i=k+(i+1) by lia]
 have:=gen n 0 acc.toList (by rw[Vc];exact h1) fun j v e=>by
  obtain⟨t,e'⟩:=h2 j v (by rw[← AW];exact e)
  exact⟨t,by rw[e',Int.mul_one,A7]⟩
 refine(congrArg (fun z=>Vals z acc.toList) (Qg fun i _=>?_)).mp this;rw[A7]
abbrev RB(lo hi:Int):Prop:=-(2 ^ 30)<=lo/\lo<2 ^ 30/\-(2 ^ 30)<=hi/\hi<2 ^ 30/\(hi-lo).toNat<=1000000
def wv(ta:TA):TE:=fun σ H Q=>ta σ H fun vs H1=>∃j:Int,vs=[.int j]/\(-(2 ^ 30)<=j/\j<2 ^ 30)/\∀p,H1 p=none->Q (.ref p) (upd H1 p (.rng 0 j))
def ww(ta:TA):TE:=fun σ H Q=>ta σ H fun vs H1=>∃i j:Int,vs=[.int i,.int j]/\(-(2 ^ 30)<=i/\i<2 ^ 30/\-(2 ^ 30)<=j/\j<2 ^ 30)/\∀p,H1 p=none->Q (.ref p) (upd H1 p (.rng i j))
theorem pL{s:Shared}{lo hi:Int}{t u v:Tok}{tk:Nat}{Q:VK}(I:L2.Inv X pins σ H s)(q:∀p,H p=none->Q (.ref p) (upd H p (.rng lo hi))) :
  EP X pins σ Q (.ref s.heap.objs.size) { s with heap:=s.heap.push { cls:=.type "range",data:=.fields #[.int lo t,.int hi u,.int 1 v] },toks:=tk } :=
 ⟨.ref _,_,I.laid (o:=.rng lo hi) (t':=tk) (fun b o e=>Ac _ e) (Wa _) ⟨t,u,v,Aj _ rfl⟩,rfl,q _ (I.hok.fresh (Wa _))⟩
theorem wx(hg:Gl X "range")(hm:X.mg "range"=none)(ha:PA X [a] ta)(hs:starEach [a] X.env=[(false,eval a X.env)]:=by rfl):PE X (.Call (.Name "range" p) [a] [] pos) (wv ta):=by
 intro pins s σ H Q I h;refine Call_ (fL I hg hm boot_range (Az (thn (ha pos pins s σ H _ I h) fun us s1 ⟨vs,H1,I1,r1,q1⟩=>?_) hs rfl));obtain⟨j,rfl,⟨h1,h2⟩,q⟩:=q1;cases r1 with
 | cons r rr =>
  cases rr;obtain⟨t,rfl⟩:=r;exact call_range_1 (pL I1 q)
theorem wy(hg:Gl X "range")(hm:X.mg "range"=none)(ha:PA X [a,b] ta)(hs:starEach [a,b] X.env=[(false,eval a X.env),(false,eval b X.env)]:=by rfl)(hs2:starEach [b] X.env=[(false,eval b X.env)]:=by rfl):PE X (.Call (.Name "range" p) [a,b] [] pos) (ww ta):=by
 intro pins s σ H Q I h;refine Call_ (fL I hg hm boot_range (Az (thn (ha pos pins s σ H _ I h) fun us s1 ⟨vs,H1,I1,r1,q1⟩=>?_) (by rw[hs,hs2]) (by rw[hs2];rfl)))
 obtain⟨i,j,rfl,⟨h1,h2,h3,h4⟩,q⟩:=q1;cases r1 with
 | cons r rr =>
  cases rr with
  | cons r' rr =>
   cases rr;obtain⟨t,rfl⟩:=r;obtain⟨t',rfl⟩:=r';exact call_range_2 (pL I1 q)
def on:List V->Hp->VK->Prop:=fun xs H Q=>∃(p:Addr)(lo hi:Int),xs=[.ref p]/\H p=some (.rng lo hi)/\RB lo hi/\∀l,H l=none->Q (.ref l) (upd H l (.lst (uz lo (hi-lo).toNat)))
theorem lB(hc:X.calm=true):CallR X (.type "list") on:=by
 intro pins s σ H xs us Q I rv h;obtain⟨p,lo,hi,rfl,hp,b,q⟩:=h;obtain⟨w,rfl,ru⟩:=vals1 rv;cases ru;obtain⟨t,u,v,ho⟩:=(show ObjOk X.prog X.w H s.heap p (.rng lo hi) from I.hok p _ hp);have hn:Builtin.Range.rangeSize lo hi 1=(((hi-lo).toNat:Nat):Int):=by rw[rangeSize_one];split<;>lia
 refine call_list_range (I.ok.hd hc) (show IsRange s.heap p lo hi 1 t u v from ho) (small_one (by lia) (by lia) (by lia) (by lia)) hn (by lia) fun h' tk' acc' c' kp hS hi'=>?_
 refine⟨.ref _,upd H _ (.lst (uz lo (hi-lo).toNat)),I.laid kp (Wa _) ⟨?_,acc'.toList,c',uA hi',by simpa using hS⟩,rfl,q _ (I.hok.fresh (Wa _))⟩
 unfold uz;rw[Ya,We];exact few b.2.2.2.2
theorem Fd(lo:Int)(n:Nat):El K Y H (uz lo n) (rng lo n):=by
 unfold uz rng;refine⟨by simp,fun i v d h1 h2=>?_⟩
 rw[Xb]at h1 h2;obtain⟨x,e1,rfl⟩:=Qd.mp h1;rw[e1]at h2;cases h2;exact .int _
theorem Fe(bs:BAs K Y H vs ds)(e3:qx ds=some j):vs=[.int j]:=by
 have ed:ds=[.int j]:=by
  unfold qx at e3;split at e3
  ·cases e3;rfl
  ·cases e3
 subst ed;cases bs with
 | cons b1 b2 =>
  cases b2;obtain rfl:=(show _=V.int j from b1);rfl
theorem Ff(bs:BAs K Y H vs ds)(e3:yq ds=some (i,j)):vs=[.int i,.int j]:=by
 have ed:ds=[.int i,.int j]:=by
  unfold yq at e3;split at e3
  ·cases e3;rfl
  ·cases e3
 subst ed;cases bs with
 | cons b1 b2 =>
  cases b2 with
  | cons b2 b3 =>
   cases b3;obtain rfl:=(show _=V.int i from b1);obtain rfl:=(show _=V.int j from b2);rfl
def fLR1(fa:FA):FE:=fun st=>(fa st).bind fun x=>(bG x.2 x.1).bind fun ds=>(qx ds).bind fun j=>if RB 0 j then some (.f (.lst (rng 0 (j-0).toNat)),x.2) else none
def fLR2(fa:FA):FE:=fun st=>(fa st).bind fun x=>(bG x.2 x.1).bind fun ds=>(yq ds).bind fun p=>if RB p.1 p.2 then some (.f (.lst (rng p.1 (p.2-p.1).toNat)),x.2) else none
theorem Dc{st:En}{lo hi:Int}{Q:VK}{r:Rs}{st':En}(E:ER K st' σ H1 O1 Z)(x1:Ext O H O1 H1)(k1:Kp st st')(b:RB lo hi)(he:r=.f (.lst (rng lo (hi-lo).toNat)))
  (q:∀v H' O',Ext O H O' H'->Kp st st'->ER K st' σ H' O' Z->RVal K Z st' σ H' O' v r->Fsh H v r->Q v H'):∀p,H1 p=none->on [.ref p] (upd H1 p (.rng lo hi)) Q:=fun p hp=>by
 subst he;refine⟨p,lo,hi,rfl,ay,b,fun l hl=>?_⟩;have s1:=aI hp (HO.rng lo hi);have E1:=E.same s1;obtain⟨E2,rv⟩:=E1.new hl (Fd lo (hi-lo).toNat);have x2:Ext O1 H1 O1 (upd H1 p (.rng lo hi)):=Same.ext s1;exact q _ _ O1 ((x1.trans x2).trans (Same.ext (aI hl _))) k1 E2 rv fun p' e=>by cases e;exact(x1.trans x2).dead hl
theorem Fg(h:RdA K ta fa):RdE K (tCB on (b8 (wv ta) hU)) (fLR1 fa):=by
 intro st σ H O Z Q E r st' e q;refine bsP e fun rs st1 e1 e=>?_;refine bsO e fun ds e2 e=>?_;refine bsO e fun j e3 e=>?_;obtain⟨c,e⟩:=aB e;cases e;refine h st σ H O Z _ E rs _ e1 fun vs H1 O1 x1 k1 E1 rvs=>?_;have hv:=Fe (rvs.bas E1 e2) e3;exact⟨j,hv,⟨c.2.2.1,c.2.2.2.1⟩,Dc E1 x1 k1 c rfl q⟩
theorem Fh(h:RdA K ta fa):RdE K (tCB on (b8 (ww ta) hU)) (fLR2 fa):=by
 intro st σ H O Z Q E r st' e q;refine bsP e fun rs st1 e1 e=>?_;refine bsO e fun ds e2 e=>?_;refine bsP e fun i j e3 e=>?_;obtain⟨c,e⟩:=aB e;cases e;refine h st σ H O Z _ E rs _ e1 fun vs H1 O1 x1 k1 E1 rvs=>?_;have hv:=Ff (rvs.bas E1 e2) e3;exact⟨i,j,hv,⟨c.1,c.2.1,c.2.2.1,c.2.2.2.1⟩,Dc E1 x1 k1 c rfl q⟩
end
end VF22
namespace VF22
open PySem PySem.Spec PyProof.Rows L2 VF
def Itw(K:Aa)(a:Addr)(xs:List V):It:=⟨fun i H=>SqL K H a xs/\i<xs.length,fun i H v H'=>H'=H/\xs.reverse[i]?=some v,fun i _=>xs.length<=i⟩
theorem yR{P:Program}{w:World}{K:Aa}{tg:Expr}(a it:Addr)(xs:List V):Turn P w K tg (Itw K a xs) [it] it (fun i h=>h.IsRevIter it a ((xs.length:Int)-1-(i:Nat))/\i<=xs.length) where
 mem:=by simp
 obj:=fun i h st b hb=>by
  have e:b=it:=by simpa using hb
  subst e;obtain⟨⟨o,e,c,d⟩,_⟩:=st;exact⟨o,e,fun v z=>by rw[d]at z;cases z⟩
 keep:=fun i h h' st k=>⟨st.1.at fun o e=>k it (by simp) o e,st.2⟩
 item:=by
  intro X hP hw hK hc i pins s σ H E I hf st hg;subst hP hw hK;obtain⟨f0,f1,f2,f3,f4,f5⟩:=hf it (by simp)
  obtain⟨hq,hi⟩:=hg;obtain⟨its,rv,p,hz⟩:=I.list hq;have hl:=rv.length;have e1:((xs.length:Int)-1-(i:Nat))=((xs.length-1-i:Nat):Int):=by lia
  have st:=st.1;rw[e1]at st;have hx:xs.reverse[i]?=some (xs[xs.length-1-i]'(by lia)):=by rw[BL hi,Za (by lia)]
  obtain⟨u,hu,ru⟩:=rv.get (Za (show xs.length-1-i<xs.length by lia))
  refine wpAny_pyNext_rev_item st p.isList (x:=u) (by simpa using hu) fun h' st' sb=>?_
  have I1:L2.Inv X pins σ H { s with heap:=h' }:=I.turned (t':=s.toks) (fun b o hb e=>sb.extBut b o hb e) f0 f1 f3 f4 f5;obtain⟨o,e,c,d⟩:=id st';have e2:(((xs.length-1-i:Nat):Int)-1)=((xs.length:Int)-1-((i+1:Nat):Int)):=by lia
  rw[e2]at st';exact⟨u,rfl,mM (s:={ s with heap:=h' }) e c d (by decide) ⟨_,H,I1,ru,⟨rfl,hx⟩,⟨st',hi⟩,fun b hb=>(hf b hb).1⟩⟩
 done:=by
  intro X hP hw hK hc i pins s σ H E I hf st hg;subst hP hw hK;obtain⟨f0,f1,f2,f3,f4,f5⟩:=hf it (by simp)
  have hg':xs.length<=i:=hg;obtain⟨st,hi⟩:=st;have e1:((xs.length:Int)-1-(i:Nat))=-1:=by lia
  rw[e1]at st;exact wpAny_pyNext_rev_end (I.ok.hd hc) st fun h' eb=>⟨rfl,I.turned (t':=s.toks) (fun b o hb e=>eb b o hb e) f0 f1 f3 f4 f5⟩
 self:=fun _ _ _ _ _ st h=>wpAny_pyIter_revIter st.1 h
section
variable {X:Cx}{K:Aa}
def Dd(K:Aa)(ta:TA):TI:=fun σ H R=>ta σ H fun vs H1=>∃a xs,vs=[.ref a]/\SqL K H1 a xs/\R (Itw K a xs) H1
theorem yS{tg a:Expr}{te:TE}{p pos:Pos}(h:X.K=K)(hg:Gl X "reversed")(hs:starEach [a] X.env=[(false,eval a X.env)])(hm:X.mg "reversed"=none)(ha:PE X a te):PI X tg (.Call (.Name "reversed" p) [a] [] pos) (Dd K (b8 te hU)):=by
 subst h;intro pins s σ H R I h;refine Call_ (fL I hg hm VF.boot_reversed (Az (thn (ky ha ag hs pos pins s σ H _ I h) fun us s1 ⟨vs,H1,I1,r1,q1⟩=>?_) hs rfl));obtain⟨b,xs,e,hq,q⟩:=q1;subst e;cases r1 with
 | cons r rr =>
  cases rr;cases r;obtain⟨its,rv,pt,hz⟩:=I1.list hq;have hl:=rv.length;refine call_reversed_list pt.isList ?_;have I2:L2.Inv X pins σ H1 { s1 with heap:=s1.heap.push (revObj b ((its.toArray.size:Int)-1)) }:=I1.kept (t':=s1.toks) fun c o e=>Ac _ e;have st:(s1.heap.push (revObj b ((its.toArray.size:Int)-1))).IsRevIter s1.heap.objs.size b ((xs.length:Int)-1-((0:Nat):Int)):=by
   refine⟨_,Aj _ rfl,rfl,?_⟩;show Data.fields #[.ref b,rawInt ((its.toArray.size:Int)-1)]=_;rw[Qa,← hl];simp
  refine wpAny_pyIter_revIter (s:={ s1 with heap:=s1.heap.push (revObj b ((its.toArray.size:Int)-1)) }) st ⟨s1.heap.objs.size,[s1.heap.objs.size],_,_,H1,rfl,I2,yR b _ xs,⟨st,Wm _⟩,fun c hc=>?_,q⟩;have e:c=s1.heap.objs.size:=by simpa using hc
  subst e;exact I1.fpOk (Wa _) (I1.hok.fresh (Wa _))
def lstD:D->Option (List D)
 | .lst ds=>some ds
 | _=>none
def fIRvL(fe:FE):FI:=fun st=>(fe st).bind fun x=>(esc x.1 x.2).bind fun y=>(lstD y.1).bind fun ds=>some (ds.reverse,y.2)
theorem yT(h:RdE K te fe):RdI K (Dd K (b8 te hU)) (fIRvL fe):=by
 intro st σ H O Z R E items st' e q;refine bsP e fun r st1 e1 e=>?_;refine bsP e fun d st2 e2 e=>?_;refine bsO e fun ds e3 e=>?_;cases e;refine h st σ H O Z _ E r st1 e1 fun v H1 O1 x1 k1 E1 rv w1=>?_;obtain⟨O2,x2,k2,E2,da⟩:=rv.esc E1 e2;cases d with
 | lst ds' =>
  cases e3;cases da with
  | @lst a vs _ h0 h1 h2 h3 =>
   refine⟨a,vs,rfl,.inl (.inl h1),q _ H1 O2 (x1.trans x2) (k1.trans k2) E2 fun H' O' ex _=>?_⟩;have g1:H' a=some (.lst vs):=ex.kp a _ h1 fun z=>h0 (.inl z);have el':El K (U O' Z) H' vs ds:=El.ext ⟨h2,h3⟩ ex;refine⟨fun i hi=>?_,fun i d hd=>?_⟩
   ·show vs.length<=i;rw[A2]at hi;lia
   ·have hi:i<vs.length:=by
     have:=(Va.mp hd).1;rw[A2]at this;lia
    refine⟨⟨.inl (.inl g1),hi⟩,fun x H'' hx=>?_⟩;obtain⟨rfl,hx⟩:=hx;exact⟨Same.refl _,el'.rev.2 i x d hx hd⟩
 | _=>cases e3
end
end VF22
namespace VF22
open PySem PySem.Spec PyProof.Rows L2 VF
section
variable {X:Cx}{K:Aa}
@[irreducible] def PAi(X:Cx)(es:List Expr)(t:TA):Prop:=PA X es t
theorem jd:PAi X [] hU:=by unfold PAi;exact ag
theorem dZ(ha:PE X e te)(hr:PAi X es t)(h:noStar e=true):PAi X (e::es) (b8 te t):=by
 unfold PAi at *;exact ao ha hr h
theorem kE(h:PAi X es t):PE X (.List es pos) (ya t):=by
 unfold PAi at h;exact bN h
@[irreducible] def PEi(X:Cx)(e:Expr)(t:TE):Prop:=PE X e t
theorem sR(h:PAi X es t):PEi X (.List es pos) (ya t):=by
 unfold PEi;exact kE h
theorem wz(hr:IxR X r)(ha:PEi X a ta)(hb:PE X b tb)(hs:nP b):PEi X (.Subscript a b pos) (tOp r ta tb):=by
 unfold PEi at *;exact zY hr ha hb hs
end
end VF22
namespace VF22
open PySem PySem.Spec PyProof.Rows L2 VF
section
variable {t:Bool}{P:Program}{w:World}{A:Around}{E:Value->Shared->Prop}{s:Shared}
abbrev eE(t:Bool)(h:Heap)(l:Addr):Heap:=(zA t h l).push { cls:=.type "enumerate",data:=.fields #[.none,.bool false,.ref h.objs.size,rawInt 0,.none,.none] }
theorem uB(t:Bool)(l:Addr)(xs:Array Value):Meets (Builtin.«enumerate.__new__» ⟨[.type "enumerate",.ref l],[]⟩) (fun _ R s=>So t s.heap l xs/\R (.ok (.ret (.ref (zA t s.heap l).objs.size))) { s with heap:=eE t s.heap l }) :=
 .of_wp fun prog w A R s h=>by
  obtain⟨hp,g,d,tk,os⟩:=s;obtain⟨v1,q⟩:=h;have hsub:=sub_enumerate;have L1:So t (Shared.heap ⟨hp,g,d,tk,os⟩) l xs:=v1;obtain⟨⟨c0,d0,dt0,sl0⟩,ho,hc0,n0,hd0⟩:=id v1;replace hc0:c0=.type (SqN t):=hc0;replace hd0:dt0=.seq xs n0:=hd0;subst hc0 hd0;cases t with
  | false =>
   wp_walk using Al ho
   refine BH fun z=>Ae ?_;split
   ·rename_i u _ _ _ _ _
    cases (u == Value.type "enumerate")<;>(wp_walk using Al ho,eO L1;exact⟨_,rfl,q⟩)
   ·wp_walk using Al ho,eO L1
    exact⟨_,rfl,q⟩
  | true =>
   wp_walk using Al ho
   refine BH fun z=>Ae ?_;split
   ·rename_i u _ _ _ _ _
    cases (u == Value.type "enumerate")<;>(wp_walk using Al ho,eO L1;exact⟨_,rfl,q⟩)
   ·wp_walk using Al ho,eO L1
    exact⟨_,rfl,q⟩
theorem uC(v1:So t s.heap l xs)
  (q:∀g,IsEnum g (s.heap.objs.size+1) s.heap.objs.size 0 .none->Io t g s.heap.objs.size l 0->(∀c o,s.heap.get? c=some o->g.get? c=some o)->Q (.ref (s.heap.objs.size+1)) { s with heap:=g }) :
  wpAny (model P w) A (call (.type "enumerate") [.ref l]) Q E s:=by
 refine callType_new F.called_enumerate (by decide) (F.typeCall_enumerate_1 _) (F.newCall_enumerate_1 _) (fun o=>F.args_object_init_2 o _) F.entry_enumerate_new (uB t l xs) ⟨v1,?_⟩
 have m1:(zA t s.heap l).objs.size=s.heap.objs.size+1:=AT ..;have g2:(eE t s.heap l).get? (zA t s.heap l).objs.size=some _:=Aj _ rfl;have g1:(eE t s.heap l).get? s.heap.objs.size=some (zI t l):=Ac _ (Aj _ rfl);show _/\_;rw[m1]at g2;rw[m1];exact⟨⟨_,g2,rfl⟩,q _ g2 ⟨_,g1,rfl,rfl⟩ fun c o e=>Ac _ (Ac _ e)⟩
theorem De(a:Io t h it l i)(b:So t h l xs):l≠it:=fun e=>by
 obtain⟨o,ho,hc,_⟩:=a;obtain⟨u,hu,hd,_⟩:=b;rw[e,ho]at hu;cases hu;rw[hc]at hd;cases t<;>(injection hd with z;exact absurd z (by decide))
theorem wA(hh:A.handled=none)(he:IsEnum s.heap e it k old)(a:Io t s.heap it l i)(b:So t s.heap l xs)(hx:xs[i]?=none)
  (q:∀g,Heap.ExtBut it s.heap g->Q none { s with heap:=g }):wpAny (model P w) A (pyNext (.ref e)) Q E s:=by
 have ty:s.TypeIs (.ref e) "enumerate":=⟨_,he,rfl⟩;unfold pyNext;refine Ab (BV (Ay (name:=Str.ofString "__next__") ty F.slot_enumerate_next (AB F.slot_enumerate_next ty F.entry_enumerate_next ?_ (F.args_enumerate_next_1 _))));show wpAny _ _ (field (.ref e) 2 >>= _) _ _ _;refine Ab (AE he rfl (x:=.ref it) rfl (Ab (wd (A:=A.in1) hh a b hx fun g y ex hy=>?_)));obtain⟨o,ho,hc⟩:=hy;exact Ab (wpAny_isInstance (T:="StopIteration") (b:=true) ⟨o,ho,hc⟩ isSubtype_stop (Ae (q _ ex)))
theorem drw{xs:Array Value}(hh:A.handled=none)(ne:l≠it):Draws P w A it [it,l] xs.size (fun i x=>xs[i]?=some x) (fun i h=>Io t h it l i/\So t h l xs) where
 live:=fun i h st=>by
  obtain⟨⟨o,ho,_⟩,_⟩:=st;exact⟨o,ho⟩
 frame:=fun i h h' st k=>⟨st.1.by fun o q=>k it (by simp) o q,st.2.by fun o q=>k l (by simp) o q⟩
 item:=fun i s Q E hi st hQ=>GJ st.1 st.2 (x:=xs[i]) (by simp[hi]) fun h1 i1 sb=>hQ _ h1 s.toks (by simp[hi]) ⟨i1,st.2.by fun o q=>(sb.2 l ne).trans q⟩ sb
 done:=fun s Q E st hE=>wd hh st.1 st.2 (by simp) hE
end
section
variable {X:Cx}{K:Aa}{t:Bool}{pins:List (Addr×Obj)}{σ:L2.St}{H:Hp}{s:Shared}{h':Heap}
def Ite(K : Aa)(t : Bool)(l : Addr) : It :=
  ⟨fun i H => ∃ xs x, Sq K t H l xs ∧ xs[i]? = some x,
   fun i H v H' => ∃ p x, v = .ref p ∧ H p = none ∧ H' = upd H p (.tup [.int (i : Int), x]) ∧ ∀ xs, Sq K t H l xs → xs[i]? = some x,
   fun i H => ∃ xs, Sq K t H l xs ∧ xs.length ≤ i⟩
def Es(t:Bool)(e it l:Addr)(i:Nat)(h:Heap):Prop:=(∃old,IsEnum h e it (i:Int) old)/\Io t h it l i
theorem uD{x1}(ne:e≠it):Turn P w K (.Tuple es x1 ps) (Ite K t l) [e,it] e (Es t e it l) where
 mem:=by simp
 obj:=fun i h st b hb=>by
  obtain⟨⟨old,a1⟩,⟨o2,a2,_,d2⟩⟩:=st;have:b=e∨b=it:=by simpa using hb
  rcases this with rfl|rfl
  ·exact⟨_,a1,fun v m=>by simp at m⟩
  ·exact⟨_,a2,fun v m=>by rw[d2]at m;cases m⟩
 keep:=fun i h h' st k=>by
  obtain⟨⟨old,a1⟩,a2⟩:=st;exact⟨⟨old,k e (by simp) _ a1⟩,a2.by fun o q=>k it (by simp) o q⟩
 item:=by
  intro X hP hw hK hc i pins s σ H E I hf st hg;subst hP hw hK;obtain⟨xs,x,q1,e1⟩:=hg;obtain⟨⟨old,a1⟩,a2⟩:=st;obtain⟨its,rv,p⟩:=q1.so I;obtain⟨u,hu,ru⟩:=rv.get e1;have hn:H s.heap.objs.size=none:=I.hok.fresh (Wa _);have lt:∀b∈[e,it],b≠s.heap.objs.size:=fun b hb=>Qe <| by
   have:b=e∨b=it:=by simpa using hb
   obtain⟨o2,b2,_⟩:=id a2;rcases this with rfl|rfl
   ·exact Ah a1
   ·exact Ah b2
  have nl:=De a2 p;have nel:e≠l:=fun z=>by
   obtain⟨o,ho,hd,_⟩:=p;rw[← z,a1]at ho;cases ho;cases t<;>(injection hd with y;exact absurd y (by decide))
  have hi:i<its.toArray.size:=by
   have:=(Va.mp hu).1;simpa using this
  refine wpAny_pyNext_enum_itemD (drw (A:=X.A.in1) (I.ok.hd hc) nl) a1 ⟨a2,p⟩ hi ne (by simp;exact⟨ne,nel⟩) fun u' g tk hu' z1 st1 pT _ kp=>?_
  have eu:u'=u:=by
   have e1:its.toArray[i]?=some u:=by simpa using hu
   rw[e1]at hu';exact(Option.some.inj hu').symm
  subst eu;refine⟨_,rfl,Cj (s:={ s with heap:=g,toks:=tk+1 }) z1 fun g2 z2 sb=>?_⟩;replace sb:Heap.SameBut e g g2:=sb;have kk:∀c o,c≠e->c≠it->s.heap.get? c=some o->g2.get? c=some o:=fun c o c1 c2 q=>sb.extBut _ _ c1 (kp c o c1 c2 q);have pT2:g2.get? s.heap.objs.size=some { cls:=.type "tuple",data:=.seq #[.int (i:Int) tk,u'] }:=sb.extBut _ _ (Ne.symm (lt e (by simp))) pT
  have I1:L2.Inv X pins σ (upd H s.heap.objs.size (.tup [.int (i:Int),x])) { s with heap:=s.heap.push { cls:=.type "tuple",data:=.seq #[.int (i:Int) tk,u'] },toks:=tk+1 } :=
   I.laid (fun b o e=>Ac _ e) (Wa _) ⟨show 2<=sizeLine by decide,[.int (i:Int) tk,u'],.cons ⟨_,rfl⟩ (.cons ru .nil),⟨_,Aj _ rfl,rfl,_,rfl⟩⟩
  have ff:∀b∈[e,it],jy X pins (upd H s.heap.objs.size (.tup [.int (i:Int),x])) b:=fun b hb=>by
   obtain⟨f0,f1,f2,f3,f4,f5⟩:=hf b hb;exact⟨by rw[am (lt b hb)];exact f0,f1,f2,f3,f4,f5⟩
  have I2:L2.Inv X pins σ (upd H s.heap.objs.size (.tup [.int (i:Int),x])) { s with heap:=g2,toks:=tk+1 }:=by
   refine kC (s:={ s with heap:=s.heap.push { cls:=.type "tuple",data:=.seq #[.int (i:Int) tk,u'] },toks:=tk+1 }) (t':=tk+1) I1 ff fun c o hc q=>?_;have hc':¬ (c=e∨c=it):=fun m=>hc (by simpa using m)
   rcases Heap.get?_push_cases q with⟨rfl,rfl⟩|q
   ·exact pT2
   ·exact kk c o (fun m=>hc' (.inl m)) (fun m=>hc' (.inr m)) q
  refine⟨.ref s.heap.objs.size,_,I2,rfl,⟨_,x,rfl,hn,rfl,fun zs hz=>by rw[hz.inj I q1];exact e1⟩,?_,fun b hb=>(ff b hb).1⟩
  exact⟨⟨_,by rw[Int.natCast_add];exact z2⟩,st1.1.by fun o q=>sb.extBut _ o (Ne.symm ne) q⟩
 done:=by
  intro X hP hw hK hc i pins s σ H E I hf st hg;subst hP hw hK;obtain⟨xs,q1,hl⟩:=hg;obtain⟨⟨old,a1⟩,a2⟩:=st;obtain⟨its,rv,p⟩:=q1.so I;have l1:=rv.length;refine wA (I.ok.hd hc) a1 a2 p (by simp;lia) fun g kp=>⟨rfl,kC (t':=s.toks) I hf fun c o hc q=>?_⟩
  have hc':¬ (c=e∨c=it):=fun m=>hc (by simpa using m)
  exact kp c o (fun m=>hc' (.inr m)) q
 self:=fun _ _ _ _ _ st h=>by
  obtain⟨⟨old,a1⟩,_⟩:=st;exact Bi a1 h
def Df(K:Aa)(ta:TA):TI:=fun σ H R=>ta σ H fun vs H1=>∃t l xs,vs=[.ref l]/\Sq K t H1 l xs/\R (Ite K t l) H1
theorem nB:bootBuiltins "enumerate"=some (.type "enumerate"):=by decide +kernel
theorem yU{x1}(h:X.K=K)(hg:Gl X "enumerate")(hm:X.mg "enumerate"=none)(ha:PE X a te)(hs:starEach [a] X.env=[(false,eval a X.env)]:=by rfl) :
  PI X (.Tuple es x1 ps) (.Call (.Name "enumerate" p) [a] [] pos) (Df K (b8 te hU)):=by
 subst h;intro pins s σ H R I h;have ha':PA X [a] (b8 te hU):=ky ha ag (hs.trans rfl);refine Call_ (fL I hg hm nB (Az (thn (ha' pos pins s σ H _ I h) fun us s1 ⟨vs,H1,I1,r1,q1⟩=>?_) (hs.trans rfl) rfl));obtain⟨t,l,xs,e,w1,q⟩:=q1;subst e;cases r1 with
 | cons r rr =>
  cases rr;cases r;obtain⟨its,rv,p⟩:=w1.so I1;refine uC p fun g z n1 kp=>?_;refine Bi (s:={ s1 with heap:=g }) z ⟨_,[s1.heap.objs.size+1,s1.heap.objs.size],_,_,H1,rfl,I1.kept (t':=s1.toks) kp,uD (Nat.succ_ne_self _),⟨⟨_,z⟩,n1⟩,fun b hb=>?_,q⟩;have hb':b=s1.heap.objs.size+1∨b=s1.heap.objs.size:=by simpa using hb
  have le:s1.heap.objs.size<=b:=by
   rcases hb' with m|m<;>(rw[m];first|exact Zl _ _|exact Wa _)
  exact I1.fpOk le (I1.hok.fresh le)
def pM:List D->Option (List D)
 | [a]=>sqD a
 | _=>none
def enD(ds:List D):List D:=ds.mapIdx fun i d=>.tup [.int (i:Int),d]
def yV(fa:FA):FI:=fun st=>(fa st).bind fun x=>(bz x.1 x.2).bind fun y=>(pM y.1).bind fun w=>some (enD w,y.2)
theorem yW(h:RdA K ta fa):RdI K (Df K ta) (yV fa):=by
 intro st σ H O Z R E items st' e q;refine bsP e fun rs st1 e1 e=>?_;refine bsP e fun ds st2 e2 e=>?_;refine bsO e fun as e3 e=>?_;cases e;refine h st σ H O Z _ E rs st1 e1 fun vs H1 O1 x1 k1 E1 rvs=>?_;obtain⟨O2,x2,k2,E2,el⟩:=rvs.esc E1 e2;have key:∃d,ds=[d]/\sqD d=some as:=by
  replace e3:pM ds=some as:=e3
  unfold pM at e3;split at e3
  ·exact⟨_,rfl,e3⟩
  ·cases e3
 obtain⟨d,rfl,hd⟩:=key;obtain⟨v1,r,rfl,da1,el⟩:=el.uncons;obtain rfl:=el.unnil;obtain⟨t,l,xs,rfl,k3⟩:=C6 da1 hd;refine⟨t,l,xs,rfl,(k3 H1 O2 (Ext.refl _ _)).1,q _ H1 O2 (x1.trans x2) (k1.trans k2) E2 fun H' O' ex liv=>?_⟩;obtain⟨s1,el1⟩:=k3 H' O' ex;have n1:=el1.1;refine⟨fun i hi=>⟨xs,s1,?_⟩,fun i d hd=>?_⟩
 ·replace hi:(enD as).length<=i:=hi
  unfold enD at hi;rw[List.length_mapIdx]at hi;lia
 ·replace hd:(enD as)[i]?=some d:=hd
  unfold enD at hd;rw[AZ]at hd;obtain⟨a,ha,rfl⟩:=Qd.mp hd;obtain⟨x,hx,dx⟩:=el1.at ha;refine⟨⟨xs,x,s1,hx⟩,?_⟩;rintro v H'' ⟨p,x',rfl,hn,rfl,f1⟩;have ex':=f1 xs s1;rw[hx]at ex';cases ex';have sm:=aI hn (.tup [.int (i:Int),x]);exact⟨sm,.tup ⟨ay,fun z=>(liv p z).1 hn⟩ rfl ((El.cons (.int _) (El.one dx)).same sm).2⟩
theorem GO{fa:FA}{st s1 s2:En}{rs:List Rs}{d:D}{ds:List D}(h1:fa st=some (rs,s1))(h2:bz rs s1=some ([d],s2))(h3:sqD d=some ds):yV fa st=some (enD ds,s2):=by
 simp only[yV,h1,h2,Xa,pM,h3]
end
end VF22
namespace VF22
open PySem L2 VF
section
variable {X:Cx}{K:Aa}
def GP:D->Bool
 | .dt _=>true
 | .dk _=>true
 | _=>false
def dOf:Rs->Option D
 | .d x=>some x
 | _=>none
def yX(fd fy fx:FE):FE:=fun st=>(fd st).bind fun x=>(cont x.2 x.1).bind fun d0=>if GP d0=true then(fy x.2).bind fun y=>(fx y.2).bind fun z=>(cont z.2 x.1).bind fun d1=>(cont z.2 y.1).bind fun d2=>(atD d1 d2).bind fun o=>(dOf z.1).bind fun dz=>some (.d (o.getD dz),z.2) else none
theorem wB(hd:RdE K td fd)(hy:RdE K ty fy)(hx:RdE K tx fx):RdE K (va td ty tx) (yX fd fy fx):=by
 intro st σ H O Z Q E r' st' h q;refine bsP h fun r1 st1 e1 h=>?_;refine bsO h fun d0 e0 h=>?_;obtain⟨c,h⟩:=aB h;refine bsP h fun r2 st2 e2 h=>?_;refine bsP h fun r3 st3 e3 h=>?_;refine bsO h fun d1 e4 h=>?_;refine bsO h fun d2 e5 h=>?_;refine bsO h fun o e6 h=>?_;refine bsO h fun dz e7 h=>?_;cases h;refine hd st σ H O Z _ E r1 st1 e1 fun v1 H1 O1 x1 k1 E1 rv1 w1=>?_;have b0:=rv1.ba E1 e0;have isd:∃a,v1=.ref a/\IsD H1 a:=by
  cases d0 with
  | dt kvs =>
   obtain⟨a,ep,kv,rfl,_,h1,_⟩:=b0;exact⟨a,rfl,.inr ⟨ep,kv,.inl h1⟩⟩
  | dk kvs =>
   obtain⟨a,kv,rfl,h1,_⟩:=b0;exact⟨a,rfl,.inl ⟨kv,.inl h1⟩⟩
  | _=>cases c
 obtain⟨a,rfl,isd⟩:=isd;refine⟨a,rfl,isd,hy st1 σ H1 O1 Z _ E1 r2 st2 e2 fun v2 H2 O2 x2 k2 E2 rv2 w2=>hx st2 σ H2 O2 Z _ E2 r3 st3 e3 fun v3 H3 O3 x3 k3 E3 rv3 w3=>?_⟩;have b1:=(rv1.nf.ext (x2.trans x3) (k2.trans k3)).ba E3 (by rw[eI];exact e4)
 have b2:=(rv2.nf.ext x3 k3).ba E3 (by rw[eI];exact e5)
 obtain⟨a',r,ea,g,hh⟩:=GN b1 b2 e6;cases ea;refine⟨r,g,?_⟩;rcases hh with⟨rfl,rfl⟩|⟨v,d,rfl,rfl,da⟩
 ·cases r3 with
  | d x =>
   cases e7;exact q v3 H3 O3 ((x1.trans x2).trans x3) ((k1.trans k2).trans k3) E3 rv3 True.intro
  | f x=>cases e7
  | s i=>cases e7
 ·exact q v H3 O3 ((x1.trans x2).trans x3) ((k1.trans k2).trans k3) E3 da True.intro
end
end VF22
namespace VF
open PySem L2 PySem.Spec PyProof.Rows
section
variable {X:Cx}{K:Aa}
def wC:V->List V->Hp->VK->Prop:=fun x vs H Q=>∃(a b:Str),x=.str a/\vs=[.str b]/\a.length<=1000000/\Q (.str (Txt.stripChars a b)) H
theorem wD:MtR X "str.strip" wC:=by
 intro pins s σ H x vs v us Q I rx rv h;obtain⟨a,b,rfl,rfl,hz,q⟩:=h;obtain⟨t,rfl⟩:=rx;obtain⟨u,rfl,ru⟩:=vals1 rv;obtain⟨t',rfl⟩:=ru;exact SC.stripChars (fun t' k=>⟨.str _,H,I.tok k,⟨t',rfl⟩,q⟩) (Qc hz (by decide))
def qN:D->List D->Option Rz
 | .str a,[.str b]=>if a.length<=1000000 then some (.str (Txt.stripChars a b),false) else none
 | _,_=>none
theorem wE:EA K wC qN:=by
 intro Y H x xs d ds z Q lv b1 bs e q;cases d with
 | str a =>
  cases bs with
  | nil=>cases e
  | @cons v vs d ds b2 bs =>
   cases bs with
   | cons _ _=>cases d<;>cases e
   | nil =>
    cases d with
    | str b =>
     obtain⟨c,e⟩:=aB e;cases e;exact⟨a,b,b1,by rw[show v=V.str b from b2],c,q _ H (Same.refl H) (.str _)⟩
    | _=>cases e
 | _=>cases e
def ltS(x y:Str):Bool:=decide (x.cps.toList<y.cps.toList)
def sS(ys:List Str):Nat:=argBest (fun i j=>ltS (ys.getD i Str.empty) (ys.getD j Str.empty)) (ys.length-1)
def f9(ys:List Str):Str:=ys.getD (sS ys) Str.empty
def Dg(K:Aa):List V->Hp->VK->Prop:=fun xs H Q=>∃(p:Addr)(ys:List Str),xs=[.ref p]/\SqL K H p (ys.map V.str)/\ys≠[]/\Q (.str (f9 ys)) H
theorem uE(h:X.K=K)(hc:X.calm=true):CallR X (.builtin "min") (Dg K):=by
 intro pins s σ H xs us Q I rv hh;obtain⟨p,ys,rfl,sq,hne,q⟩:=hh;subst h;obtain⟨u,rfl,ru⟩:=vals1 rv;cases ru;obtain⟨its,r,pl,hz⟩:=I.list sq;have hlen:its.length=ys.length:=by have:=r.length;simpa using this.symm
 obtain⟨op,np,ep,cp,dp,sp⟩:=id pl;have hpn:p≠s.heap.objs.size:=Qe (Ah ep);have hpos:=List.length_pos_iff.mpr hne;have itAt:∀(i:Nat) v,its.toArray[i]?=some v->∃t',v=.str (ys.getD i Str.empty) t':=fun i v hv=>by
  obtain⟨w,e1,rw'⟩:=eK r i v (by simpa using hv)
  rw[Xb]at e1;obtain⟨y,e2,rfl⟩:=Qd.mp e1;obtain⟨t',rfl⟩:=rw';exact⟨t',by rw[Xc,e2];rfl⟩
 refine call_min_walk (Bh pl.isList ?_);refine⟨s.heap.objs.size,_,_,_,_,_,fun i j=>ltS (ys.getD i Str.empty) (ys.getD j Str.empty),rfl,Walks.list (show X.A.in1.handled=none from I.ok.hd hc) s.heap.objs.size p hpn its.toArray,⟨⟨_,Aj _ rfl,rfl,rfl⟩,⟨op,Ac _ ep,cp,np,sp⟩⟩,fun b hb=>?_,by rw[Qa];lia,?_,fun v h' tk hv kp=>?_⟩
 ·show b<(s.heap.push _).objs.size;rw[AT];rcases Xd.mp hb with rfl|hb
  ·exact Nat.lt_succ_self _
  ·obtain rfl:=Vb.mp hb;exact Bo (Ah ep)
 ·intro i j vi vj s' Q' E' hi hj hq;obtain⟨t1,rfl⟩:=itAt i vi hi;obtain⟨t2,rfl⟩:=itAt j vj hj;exact BS hq
 ·obtain⟨t',rfl⟩:=itAt _ v hv;rw[Qa,hlen];refine⟨.str _,H,I.kept (t':=tk) fun b o e=>?_,⟨t',rfl⟩,q⟩;refine kp b o (fun hm=>?_) (Ac _ e);have:=Ah e;obtain rfl:=Vb.mp hm;exact Yh _ this
def wF:List D->Option Rz
 | [.lst ds]=>(gC ds).bind fun ys=>if ys=[] then none else some (.str (f9 ys),false)
 | _=>none
theorem yY:RdCB K (Dg K) wF:=by
 intro Y H xs ds z Q lv bs e q;cases bs with
 | nil=>cases e
 | @cons v vs d ds c1 bs =>
  cases bs with
  | cons _ _=>cases d<;>cases e
  | nil =>
   cases d with
   | lst es =>
    refine bsO e fun ys e1 e=>?_;by_cases c:ys=[]
    ·simp only[Ad c]at e;cases e
    ·simp only[Ag c]at e;cases e;obtain⟨p,ws,rfl,hp,el⟩:=c1;obtain rfl:=jF el e1;exact⟨p,ys,rfl,.inl (.inl hp),c,q _ H (Same.refl H) (.str _)⟩
   | _=>cases e
end
end VF
namespace VF
open PySem PySem.Spec PyProof.Rows L2
theorem fsc{N P:List Str}{sc:Scope}(h:N.Nodup/\(∀x∈P,sc.names.lookup x=some .local∨sc.names.lookup x=some .cell)/\∀y∈sc.names,y.2≠.free)(a:sc.kind=.function:=by rfl)(b:sc.isCoroutine=false:=by rfl)(c:sc.isGenerator=false:=by rfl)(d:N.take P.length=P:=by rfl):FnScope N P sc:=⟨a,b,c,h.1,d,h.2.1,h.2.2⟩
structure FH(K:Aa)(x:Str)(st:Stmt):Prop where
 ex:∃f fd,Fun K x x st f fd/\PySem.W.nsIn K mainGlobals x=some (some (.ref f))
theorem fh{K:Aa}{x:Str}{st:Stmt}{f:Addr}{oc:Value}{od an:Option Addr}{osl:Array (Option Value)}{kV doc pm cdv ct:Value}(a:PySem.W.nsIn K mainGlobals x=some (some (.ref f)))
  (l:K.lookup f=some ⟨oc,od,.func (PySem.W.fnOf x x (fO st) (cg st) (ar st) .none kV doc pm an cdv ct),osl⟩)(c:PySem.W.codeIn K cdv x=true)(k:PySem.W.keepIn K (.ref f)=true):FH K x st:=⟨f,_,D9 l c k,a⟩
def Bn(x:Str)(st:Stmt)(ps:List Str):Prop:=∀(kV doc pm:Value)(an:Option Addr)(cdv ct:Value)(us:List Value),us.length=ps.length->bindArgs (PySem.W.fnOf x x (fO st) (cg st) (ar st) .none kV doc pm an cdv ct) ⟨us,[]⟩=pure (ps.zip us)
theorem arS{n:Nat}{P:List Value->Prop}{us:List Value}(hl:us.length=n+1)(h:∀a r,r.length=n->P (a::r)):P us:=by
 cases us with
 | nil=>cases hl
 | cons a r=>exact h a r (Nat.succ.inj hl)
theorem ar1{P:List Value->Prop}(h:∀a,P [a])(us:List Value)(hl:us.length=1):P us:=arS hl fun a r hr=>by
 rw[Qk hr];exact h a
theorem ar2{P:List Value->Prop}(h:∀a b,P [a,b])(us:List Value)(hl:us.length=2):P us:=arS hl fun a r hr=>ar1 (P:=fun r=>P (a::r)) (h a) r hr
theorem ar3{P:List Value->Prop}(h:∀a b c,P [a,b,c])(us:List Value)(hl:us.length=3):P us:=arS hl fun a r hr=>ar2 (P:=fun r=>P (a::r)) (h a) r hr
section
variable {P:Program}{w:World}{K:Aa}{mg:Str->Option Value}{base h:Heap}{x:Str}{st:Stmt}{N ps:List Str}{k:Nat}{F:FS}
abbrev Bd'(P:Program)(w:World)(K:Aa)(mg:Str->Option Value)(base:Heap)(x:Str)(st:Stmt)(N:List Str)(k:Nat)(F:FS):Prop :=
 ∀{f:Addr}{cdv:Value}{A:Around}{outer:List Env}{s:Shared}{H:Hp}{E:XK},Room k (A.deeper (envOfC x (ar st) s.heap.objs.size f cdv))->∃t,PSs (b9 CX0 P w K mg base N x (ar st) f cdv A outer s H E).nox (cg st) t/\RdS K t F
theorem okV(F':Fun K x x st f fd)(S:FnScope N ps (ar st))(hB:Bd' P w K mg base x st N k F):FnOk P w K mg base CX0 (k+1) f fd ps (spV K (bq F N.length ps.length)):=by
 refine F'.ok S (fun vs H Q E h=>yr h) fun cdv A outer s H vs Q E hr h=>?_;obtain⟨t,h1,h2⟩:=hB hr;exact⟨t,h1,rX h2 h⟩
theorem FH.cal(h':FH K x st)(X:K.In h)(G:h.Ns mainGlobals mg)(S:FnScope N ps (ar st))(hb:Bn x st ps)(hB:Bd' P w K mg base x st N k F):Cal P w K mg base x (k+1) ps (spV K (bq F N.length ps.length)):=by
 obtain⟨f,fd,F',a⟩:=h'.ex;exact⟨f,fd,okV F' S hB,Au X G a,F'.kp,F'.binds hb⟩
theorem FH.calI(h':FH K x st)(X:K.In h)(G:h.Ns mainGlobals mg)(S:FnScope N ps (ar st))(hb:Bn x st ps)(hB:Bd' P w K mg base x st N k F):Cal P w K mg base x (k+1) ps (kX K (cE F N.length ps.length)):=by
 obtain⟨f,fd,F',a⟩:=h'.ex;refine⟨f,fd,F'.ok S (fun vs H Q E h=>Gp h) fun cdv A outer s H vs Q E hr h=>?_,Au X G a,F'.kp,F'.binds hb⟩;obtain⟨t,h1,h2⟩:=hB hr;exact⟨t,h1,uc h2 h⟩
theorem FH.law(h':FH K "law" st)(X:K.In h)(G:h.Ns mainGlobals mg)(hfa:mg "law"=some (.ref fa))(S:FnScope N ["_law_script"] (ar st))(hb:Bn "law" st ["_law_script"])(lv:∀ns:List Int,bq F N.length 1 [.fl (ns.map D.int)]=some (.bl true,false))
  (hB:∀base:Heap,Bd' P w K mg base "law" st N k F):∃fd:FuncData,(∀(s:Shared)(v:Value),BindsTo s fd ⟨[v],[]⟩ [("_law_script",v)])/\∀base:Heap,K.In base->base.Ns mainGlobals mg->FnOk P w K mg base CX0 (k+1) fa fd ["_law_script"] (ss K):=by
 obtain⟨f,fd,F',a⟩:=h'.ex;have e:=hfa.symm.trans (Au X G a);cases e;refine⟨fd,fun s v=>?_,fun base _ _=>(okV F' S (hB base)).imp fun vs H Q E h=>?_⟩
 ·obtain⟨oc,od,kV,doc,pm,an,cdv,ct,osl,rfl,lk,hcd⟩:=F'.ex;exact .of_eq (hb kV doc pm an cdv ct [v] rfl)
 ·obtain⟨a,ns,rfl,sq,_,q⟩:=h;refine⟨fun _=>False,[.fl (ns.map D.int)],(.bl true,false),El.one (.fl (vs:=ns.map V.int) ?_ (by simp) fun i v d h1 h2=>?_),fun p z=>z.elim,lv ns,fun v H' _ r=>?_⟩
  ·rcases sq with s|s
   ·exact .inl ⟨s,fun z=>z⟩
   ·exact .inr fun H'=>.inr s
  ·rw[Xb]at h1 h2;obtain⟨c,e1,rfl⟩:=Qd.mp h1;rw[e1]at h2;obtain rfl:=Option.some.inj h2;exact .int _
  ·obtain rfl:=(show v=V.bl true from DA.ba (show DA K (fun _=>False) H' v (.bl true) from r));exact q H'
end
theorem walkL{l:PySem.W.OpenLaw}{loose:List Str}{XP:(Str->Option Value)->Heap->Prop}{YP:World->Heap->Prop}{d:DefRec}{K:Params->Aa}{k:Nat}(hn:l.most=some 63)(hdf:d.params.defaults=[])(hr:Room k callerA)
  (hY:∀(w:World)(h:Heap),YP w h->(K w.params).In h)
  (F:∀(w:World)(mg:Str->Option Value)(fa:Addr)(h:Heap),(K w.params).In h->h.Ns mainGlobals mg->mg d.name=some (.ref fa) ->
   ∃fd:FuncData,(∀(s:Shared)(u:Value),BindsTo s fd ⟨[u],[]⟩ [("_law_script",u)])/\∀base:Heap,(K w.params).In base->base.Ns mainGlobals mg->FnOk l.prog w (K w.params) mg base CX0 k fa fd ["_law_script"] (ss (K w.params))) :
  PySem.W.WalkO q loose XP YP l.row.toRowW d [] (fun f vs=>PySem.call f vs) :=
 L2.walk_of (n:=63) (k:=k) (x:="_law_script") (CX:=fun _=>CX0) (sp:=fun w=>ss (K w.params)) hn (by decide) hdf hr hY F (fun _ _ a ns hl _ hS=>⟨a,ns,rfl,hS,hl,fun _=>rfl⟩) fun _ _ _ _ _ z=>z
end VF
namespace VF22
open PySem PySem.Spec PyProof.Rows L2 VF TS
section
variable {X:Cx}{K:Aa}{Y:AS}{H:Hp}{s:Shared}{pins:List (Addr×Obj)}{σ:L2.St}
theorem yZ(h:kK k v=true):RelV (kV k) v:=by
 rcases bn h with⟨i,t,rfl,rfl⟩|⟨x,t,rfl,rfl⟩
 ·exact⟨t,rfl⟩
 ·exact⟨t,rfl⟩
theorem wG:∀{es:List DictEntry}{vs:List (Key×Value)},Pairs (bp P w) es vs->Vals (vs.map fun kv=>kV kv.1) (es.map (·.key))
 | _,_,.nil=>.nil
 | _,_,.cons h _ r=>.cons (yZ h) (wG r)
theorem y3{kvs:List (Key×V)}{vs:List (Key×Value)}(h:KV kvs vs):vs.map (fun kv=>kV kv.1)=kvs.map fun kv=>kV kv.1:=by
 induction h with
 | nil=>rfl
 | cons h _ ih=>rw[Zd,Zd,ih,h.1]
def wH(K:Aa):List V->Hp->VK->Prop:=fun xs H Q=>∃(a:Addr)(kvs:List (Key×V))(κ:SortKind),xs=[.ref a]/\H a=some (.dK kvs)/\(∀x∈kvs.map (fun kv=>dm kv.1),Pl 40 x)/\CA 40 (kvs.map fun kv=>dm kv.1)/\Kd (kvs.map fun kv=>dm kv.1) κ/\(kvs.map fun kv=>dm kv.1).length<64 /\
 ∀(p:Addr)(ws:List V),H p=none->(∀Y:AS,El K Y H ws (j0 40 (kvs.map fun kv=>dm kv.1)))->Q (.ref p) (upd H p (.lst ws))
theorem pN(h:X.K=K)(hc:X.calm=true)(hr:Room n X.A):CallR X (.builtin "sorted") (wH K):=by
 intro pins s σ H xs us Q I rv hh;obtain⟨a,kvs,κ,rfl,ha,pl,ca,hk,h64,q⟩:=hh;obtain⟨u,rfl,ru⟩:=vals1 rv;cases ru;obtain⟨hz,lo,vs,rk,o,es,ep,e1,e2,e3,_,e5,_⟩:=zW I.hok ha;have vk:Vals (kvs.map fun kv=>kV kv.1) (es.toList.map (·.key)):=y3 rk ▸ wG e5;have esz:(es.toList.map (·.key)).length=kvs.length:=by rw[← vk.length,Ya]
 have esz':es.size=kvs.length:=by rw[Ya,Vc]at esz;exact esz
 have ln:(es.toList.map (·.key)).length=(kvs.map fun kv=>dm kv.1).length:=by rw[esz,Ya]
 refine ux (vs:=es.toList.map (·.key)) (ds:=kvs.map fun kv=>dm kv.1) (κ:=κ) (I.ok.hd hc) (fun A E Q hA q=>pK hA lo ⟨o,e1,e2,e3⟩ (by rw[esz'];exact hz) q) (by rw[esz];exact hz) ln (fun i u d g1 g2=>?_) pl ca hk hr.units (by rw[Ya]at h64;rw[esz];exact h64) fun γ h' p n tk pm g kp ge hat=>?_
 ·obtain⟨v,g3,rv⟩:=eK vk i u g1;have g2':=g2;rw[Xb]at g2 g3;obtain⟨kv,k1,k2⟩:=Qd.mp g2;rw[k1]at g3;cases g3;have da:DA K (fun _=>False) H (kV kv.1) (dm kv.1):=wu kv.1;subst k2;exact da.rh (pl _ (Yd g2')) I h rv
 ·rw[ln]at pm g;have hpn:H p=none:=by
   cases e:H p with
   | none=>rfl
   | some o =>
    obtain⟨ob,e'⟩:=(I.hok p o e).there;exact absurd rfl (ge p ob e')
  have eo:=Fc ca pm g;have hγ:∀g∈γ.toList,g<kvs.length:=fun g hg=>by
   have:=(Array.perm_iff_toList_perm.mp pm).mem_iff.mp hg;rw[Array.toList_range,Ya]at this;exact List.mem_range.mp this
  have e2:(dH (es.toList.map (·.key)) γ).toList=γ.toList.map fun g=>(es.toList.map (·.key)).getD g .none:=by unfold dH;simp
  have vw:Vals (γ.toList.map fun g=>(kvs.map fun kv=>kV kv.1).getD g .non) (dH (es.toList.map (·.key)) γ).toList:=by
   rw[e2];have:∀l:List Nat,(∀g∈l,g<kvs.length)->Vals (l.map fun g=>(kvs.map fun kv=>kV kv.1).getD g .non) (l.map fun g=>(es.toList.map (·.key)).getD g .none):=fun l=>by
    induction l with
    | nil=>exact fun _=>.nil
    | cons g l ih =>
     intro hl;have hg:g<kvs.length:=hl g Wc;have a1:(es.toList.map (·.key))[g]?=some ((es.toList.map (·.key))[g]'(by rw[esz];exact hg)):=Za _
     obtain⟨v,g3,rv⟩:=eK vk g _ a1;refine .cons ?_ (ih fun x hx=>hl x (Zc _ hx));show RelV ((kvs.map fun kv=>kV kv.1).getD g .non) ((es.toList.map (·.key)).getD g .none);rw[Xc,Xc,a1,g3,Option.getD_some,Option.getD_some];exact rv
   exact this _ hγ
  refine⟨.ref p,upd H p (.lst (γ.toList.map fun g=>(kvs.map fun kv=>kV kv.1).getD g .non)),I.laid2 kp ge hpn ⟨?_,(dH (es.toList.map (·.key)) γ).toList,n,vw,by simpa using hat⟩,rfl,q p _ hpn fun Y=>?_⟩
  ·rw[Ya,Vc,pm.size_eq,BC,Ya];exact hz
  ·rw[← eo];have:∀l:List Nat,(∀g∈l,g<kvs.length)->El K Y H (l.map fun g=>(kvs.map fun kv=>kV kv.1).getD g .non) (l.map (dk (kvs.map fun kv=>dm kv.1))):=fun l=>by
    induction l with
    | nil=>exact fun _=>El.nil
    | cons g l ih =>
     intro hl;have hg:g<kvs.length:=hl g Wc;rw[Zd,Zd];refine El.cons ?_ (ih fun x hx=>hl x (Zc _ hx));show DA K Y H ((kvs.map fun kv=>kV kv.1).getD g .non) _;rw[pH (d:=dm kvs[g].1) (by rw[Xb,Za hg];rfl),Xc,Xb,Za hg]
     exact wu _
   exact this _ hγ
open Classical in
noncomputable def gX:List D->Option Rz
 | [.dk kvs]=>if (∀x∈kvs.map (fun kv=>dm kv.1),Pl 40 x)/\CA 40 (kvs.map fun kv=>dm kv.1)/\(∃κ,Kd (kvs.map fun kv=>dm kv.1) κ)/\(kvs.map fun kv=>dm kv.1).length<64 then some (.lst (j0 40 (kvs.map fun kv=>dm kv.1)),true) else none
 | _=>none
theorem uF:RdCB K (wH K) gX:=by
 intro Y H xs ds z Q lv bs e q;cases bs with
 | nil=>cases e
 | @cons v vs d ds b1 bs =>
  cases bs with
  | cons _ _=>cases d<;>cases e
  | nil =>
   cases d with
   | dk kd =>
    dsimp only[gX]at e;obtain⟨a,kvs,rfl,h1,h2,h3⟩:=b1;have ek:(kd.map fun kv=>dm kv.1)=kvs.map fun kv=>dm kv.1:=by
     have:∀{α:Type}(l:List (Key×α)),(l.map fun kv=>dm kv.1)=(l.map (·.1)).map dm:=fun l=>by rw[Yi];rfl
     rw[this,this,h2]
    rw[ek]at e;obtain⟨c,e⟩:=aB e;cases e;obtain⟨c1,c2,⟨κ,c3⟩,c4⟩:=c;exact⟨a,kvs,κ,rfl,h1,c1,c2,c3,c4,fun p ws hp el=>q _ _ (aI hp _) (fV (el _) hp)⟩
   | _=>cases e
end
end VF22
namespace VF22
open PySem PySem.Spec PyProof.Rows L2 VF
section
variable {K:Aa}
variable {P:Program}{w:World}{mg:Str->Option Value}{base h:Heap}{x:Str}{st:Stmt}{N ps:List Str}{k:Nat}{F:FS}{ds:List Value}{dvs:List V}
def GQ(K:Aa)(ta:TE):TT:=fun σ H Q=>ta σ H fun x H'=>∃k,DP K x H' k/\Q k H'
theorem y4{X:Cx}{a:Expr}(h:X.K=K)(ha:PE X a ta)(he:∀whole,isTrue a X.env whole=(do let v ← whole;standAt a.pos;holding [v] (truthy v)):=by intro _;rfl):PT X a (GQ K ta):=h ▸ u6 ha he
def qO(fa:FE):FT:=fun st=>(fa st).bind fun x=>(cont x.2 x.1).bind fun d=>(d.seq).bind fun ds=>some (!ds.isEmpty,x.2)
theorem wI(ha:RdE K ta fa):RdT K (GQ K ta) (qO fa):=by
 intro st σ H O Z Q E c st' h q;refine bsP h fun r1 st1 e1 h=>bsO h fun d e2 h=>bsO h fun ds e3 h=>?_;cases h;refine ha st σ H O Z _ E r1 st1 e1 fun v1 H1 O1 x1 k1 E1 rv1 w1=>?_;obtain⟨a,vs,rfl,sq,el⟩:=n8 (rv1.ba E1 e2) e3;have e:(!ds.isEmpty)=!vs.isEmpty:=by
  have:=el.1;cases vs<;>cases ds<;>first|rfl|cases this
 refine⟨!ds.isEmpty,?_,q H1 O1 x1 k1 E1⟩;rcases sq with sq|sq
 ·exact .inl ⟨vs,sq,e⟩
 ·exact .inr (.inl ⟨vs,sq,e⟩)
theorem uG{kvs:List (Key×D)}(h1:∀x∈kvs.map (fun kv=>dm kv.1),Pl 40 x)(h2:CA 40 (kvs.map fun kv=>dm kv.1))(h3:∃κ,Kd (kvs.map fun kv=>dm kv.1) κ)(h4:(kvs.map fun kv=>dm kv.1).length<64):gX [.dk kvs]=some (.lst (j0 40 (kvs.map fun kv=>dm kv.1)),true):=by
 dsimp only[gX];exact Ad ⟨h1,h2,h3,h4⟩
end
end VF22
namespace VF22
open PySem PySem.Spec PyProof.Rows L2 VF
section
variable (K:Aa){X:Cx}{a b o:Expr}{ta tb to:TE}{p pos apos cpos:Pos}
theorem bj(ha:PE X a ta)(hb:PE X b tb)(h:X.K=K:=by rfl)(hs:nP b:=by exact fun _ _=>rfl):PE X (.Subscript a b pos) (tOp (rIx K) ta tb):=zY (nX h) ha hb hs
theorem bS(hm:X.mg "len"=none)(ha:PE X a ta)(h:X.K=K:=by rfl)(hg:Gl X "len":=by rfl)(n:noStar a=true:=by rfl):PE X (.Call (.Name "len" p) [a] [] pos) (tCB (vP K) (b8 ta hU)) :=
 aO (uk h) hg hm PySem.boot_len (ao ha ag n) (by decide) (by decide) (dU n) rfl
theorem sT(hm:X.mg "tuple"=none)(ha:PE X a ta)(h:X.K=K:=by rfl)(c:X.calm=true:=by rfl)(hg:Gl X "tuple":=by rfl)(n:noStar a=true:=by rfl):PE X (.Call (.Name "tuple" p) [a] [] pos) (tCB (oe K) (b8 ta hU)) :=
 cR (px h c) hg hm pb (ao ha ag n) (by decide) (by decide) (dU n) rfl
theorem kF(hm:X.mg "isinstance"=none)(ha:PE X a ta)(hb:PE X b tb)(h:X.K=K:=by rfl)(hg:Gl X "isinstance":=by rfl)(n:noStar a=true:=by rfl)(n':noStar b=true:=by rfl)(hpl:(backTo pos (starEach [b] X.env)).any (·.1)=false:=by rfl) :
  PE X (.Call (.Name "isinstance" p) [a,b] [] pos) (tCB (EK K) (b8 ta (b8 tb hU))) :=
 aO (of h) hg hm L2.boot_isinstance (ao ha (ao hb ag n') n) (by decide) (by decide) (dU n) hpl
theorem aN(ha:PE X a ta)(hb:PE X b tb)(h:X.K=K:=by rfl):PE X (.BinOp a .Add b pos) (tOp (r6 K) ta tb):=aM (r9 h) ha hb
theorem je(ho:OpR X (compareOp op) r)(ha:PE X a ta)(hb:PE X b tb)(h:op≠.In:=by decide)(h2:op≠.NotIn:=by decide):PE X (.Compare a [op] [b] pos) (tOp r ta tb):=x6 ho ha hb (u4 _ h h2)
theorem bL(ho:OpR X (compareOp op) r)(ha:PE X a ta)(hb:PE X b tb)(h:op≠.In:=by decide)(h2:op≠.NotIn:=by decide):PT X (.Compare a [op] [b] pos) (u5 (tOp r ta tb)):=kx ho ha hb (u4 _ h h2)
theorem eP(ho:PE X o to)(ha:PE X a ta)(n:noStar a=true:=by rfl)(hbase:attributeBase o "append" X.env (eval o X.env)=eval o X.env:=by rfl)
  (hfew:((backTo cpos (starEach [a] X.env)).all (fun x=>!x.1)&&(backToKw cpos (keywordEach [] X.env)).all (fun x=>x.1.isSome)
   && decide (([a]:List Expr).length+([]:List Keyword).length+(if ([]:List Keyword).isEmpty then 0 else 1)<30))=true:=by rfl)
  (hline:(apos.endLine == cpos.line)=true:=by rfl):PE X (.Call (.Attribute o "append" apos) [a] [] cpos) (tBM X.K "list" nW to (b8 ta hU)) :=
 jY AC PySem.F.slot_list_append PySem.F.type_list_append tS ho (ao ha ag n) hbase hfew hline (dU n) rfl
end
end VF22
namespace VF22
open PySem L2 VF
theorem wJ{X:Cx}{ON:List Str}{S:Scope}{env:Env}{N:List Str}{k:Nat}{caps:List Nat}{scope:Scope}(hs:X.env.scope=relabel S env)(hN:X.N=ON)(h:vo S ON N k caps scope=true):BlkScope X N k caps scope:=by
 have B:=fT (X:={ X with N:=ON,env:={ X.env with scope:=S } }) h rfl rfl;refine⟨B.kind,B.nocell,B.loc,fun y hy hf=>?_,B.len,fun j i hj=>?_⟩
 ·have q:S.names.lookup y.1=some .cell∨S.names.lookup y.1=some .free:=B.free y hy hf;show X.env.scope.names.lookup y.1=some .cell∨X.env.scope.names.lookup y.1=some .free;rw[hs];rcases cz (env:=env) (x:=y.1) S.names with⟨_,z⟩|⟨a,b,e1,e2,e3⟩
  ·rw[z]at q;rcases q with q|q<;>cases q
  ·have e4:(relabel S env).names.lookup y.1=some b:=e2;rw[e4];rw[e1]at q;rcases e3 with e3|e3
   ·rw[e3];exact q
   ·rw[e3.2];exact .inl rfl
 ·obtain⟨x,h1,h2,h3⟩:=B.cap j i hj;exact⟨x,h1,by rw[hN];exact h2,h3⟩
end VF22
namespace VX
open PySem PySem.Spec PyProof.Rows L2 VF
abbrev kn(C t:Addr)(dx:Option Addr):Obj:={ cls:=.ref C,dict:=dx,data:=.fields #[.ref t,.none,.none,.none,.bool false,.none] }
inductive XO(H:Heap)(C N:Addr)(mr:List Value)(hd:Bool)(id:String):Prop
 | mk (a b:Str) (bs:List Value) (sn:List Str) (su:List Value) (x:Bool) (y:Option Bool) (z:Option Addr) (p0 p1 p2 p3 p5:Option Value) (e:H.get? C=some (excClassObj a b C N bs mr hd sn su x y z p0 p1 p2 p3 p5 id))
def Fr0(Q:Shared->Prop)(X:Value->Shared->Prop)(r:Result)(s:Shared):Prop:=match r with
 | .ok (.ret v)=>v=.none/\Q s
 | .ok _=>False
 | .error x=>X x s
section
variable {P:Program}{W:World}{A:Around}{X:Value->Shared->Prop}{S:Shared}{C N:Addr}{mr mB:List Value}{hd:Bool}{B id ii:String}
theorem wK{us:List Value}{f:Addr}{o:Obj}{m:Str->Option Value}{Q:Fin->Shared->Prop}(c:XO S.heap C N mr hd id)(b:ExcBaseFacts B id ii mB)(tl:OwnTail S.heap mB mr)(n:S.heap.Ns N m)(i:m "__init__"=some (.ref f))(l:S.heap.get? f=some o)(fn:o.cls=.type "function")(few:us.length<=sizeLine)
  (q:∀H e t,(∀a u,S.heap.get? a=some u->H.get? a=some u)->S.heap.objs.size<=e->H.get? e=some (kn C t none)->codeAny (model P W) A (.call (.ref f) ⟨.ref e::us,[]⟩) (Fr0 (fun s=>Q (.done (.ret (.ref e))) s) X) { S with heap:=H }) :
  wpAny (model P W) A (Builtin.«type.__call__» ⟨.ref C::us,[]⟩) Q X S:=by
 obtain⟨_,_,_,_,_,_,_,_,_,_,_,_,_,e0⟩:=c;obtain⟨H,gs,dr,tk,os⟩:=S;have up:∀(x y:Obj) a u,H.get? a=some u->((H.push x).push y).get? a=some u:=fun x y a u z=>Ac y (Ac x z)
 wp_walk using At e0,wpAny_madeBy_exc e0
 refine codeAny_call_builtin_code (B1 _ b.quiet) (wpAny_check_new_subT b tl e0 (codeAny_exc_new_subT b tl e0 ?_ few));generalize hT:(H.push { cls:=.type "tuple",data:=.seq us.toArray }).push (kn C H.objs.size none)=H2;have kp:∀a u,H.get? a=some u->H2.get? a=some u:=fun a u z=>hT ▸ up _ _ a u z;have eg:H2.get? (H.objs.size+1)=some (kn C H.objs.size none):=by
  rw[← hT,← AT H { cls:=.type "tuple",data:=.seq us.toArray }];exact Aj _ rfl
 have sb:∀{M:Model}{A:Around}{E:Value->Shared->Prop}{g:Array GenState}{d:Drawn}{t:Nat}{o:OsState}{R:Bool->Shared->Prop},R true ⟨H2,g,d,t,o⟩->wpAny M A (isSubtype (.ref C) (.ref C)) R E ⟨H2,g,d,t,o⟩:=fun r=>AK (kp _ _ e0) (by rw[show(Value.ref C::mr).contains (.ref C)=true by simp];exact r)
 show wpAny _ _ _ _ _ _;unfold callSpecial? isInstance;unfold specialOf
 wp_walk using At eg,sb
 refine wpAny_typeLookup_tail (kp _ _ e0) (n.keeps kp) (tl.keeps kp) b.mroIs b.init.lookup ?_;rw[i];have ty:Shared.TypeIs ⟨H2,gs,dr,tk,os⟩ (.ref f) "function":=⟨o,kp _ _ l,fn⟩;dsimp only;unfold bindSpecial
 wp_walk
 refine AH (q H2 _ _ kp (BP _) eg) fun r s z=>?_;cases r with
 | error x=>exact z
 | ok fl =>
  cases fl with
  | ret v =>
   obtain⟨rfl,z⟩:=z
   wp_walk
   exact z
  | _=>exact z.elim
theorem uH{us:List Value}{f:Addr}{o:Obj}{m:Str->Option Value}{Q:Value->Shared->Prop}(c:XO S.heap C N mr hd id)(b:ExcBaseFacts B id ii mB)(tl:OwnTail S.heap mB mr)(n:S.heap.Ns N m)(i:m "__init__"=some (.ref f))(l:S.heap.get? f=some o)(fn:o.cls=.type "function")(few:us.length<=sizeLine)
  (q:∀H e t,(∀a u,S.heap.get? a=some u->H.get? a=some u)->S.heap.objs.size<=e->H.get? e=some (kn C t none)->codeAny (model P W) (A.under (.builtin "type.__call__" ⟨.ref C::us,[]⟩)) (.call (.ref f) ⟨.ref e::us,[]⟩) (Fr0 (fun s=>Q (.ref e) s) X) { S with heap:=H }) :
  wpAny (model P W) A (call (.ref C) us) Q X S:=by
 have c':=c;obtain⟨_,_,_,_,_,_,_,_,_,_,_,_,_,e0⟩:=c';obtain⟨H,gs,dr,tk,os⟩:=S;have look:=tc_lookup;have bnd:=tc_bind (.ref C);have ty:Shared.TypeIs ⟨H,gs,dr,tk,os⟩ (.ref C) "type":=⟨_,e0,rfl⟩
 wp_walk
 refine codeAny_of_tree ?_;change wpAny _ _ (callAny (.ref C) ⟨us,[]⟩) _ _ _
 wp_walk using At e0
 refine⟨rfl,codeAny_call_builtin_at (B1 _ (by decide +kernel)) entry_typeCall (wpAny_check_type_call_sub e0 ?_)⟩
 refine wK c b tl n i l fn few fun H1 e t k z ee=>?_;refine AH (q H1 e t k z ee) fun r s w=>?_;cases r with
 | error x=>exact w
 | ok fl =>
  cases fl with
  | ret v=>exact w
  | _=>exact w.elim
theorem y6{M:Model}{en:Env}{ex:Sem Value}{R:Flow->Shared->Prop}(hb:mr.contains (.type "BaseException")=true)(hh:A.handled=none)
  (q:wpAny M A ex (fun v s=>∃e t dx,v=.ref e/\XO s.heap C N mr hd id/\s.heap.get? e=some (kn C t dx)/\X (.ref e) s) X S):wpAny M A (raiseStmt en (some ex) none) R X S:=by
 unfold raiseStmt;refine Ab (Aq q (fun v s z=>?_) fun _ _ z=>z);obtain⟨e,t,dx,rfl,⟨_,_,_,_,_,_,_,_,_,_,_,_,_,e0⟩,e1,x⟩:=z;obtain⟨H,gs,dr,tk,os⟩:=s;have sb:∀{M:Model}{A:Around}{E:Value->Shared->Prop}{g:Array GenState}{d:Drawn}{t:Nat}{o:OsState}{R:Bool->Shared->Prop},R true ⟨H,g,d,t,o⟩->wpAny M A (isSubtype (.ref C) (.type "BaseException")) R E ⟨H,g,d,t,o⟩:=fun r=>AK e0 (by rw[show(Value.ref C::mr).contains (.type "BaseException")=true by rw[Wh,hb,Zk]];exact r)
 wp_walk using At e1,At e0,sb
 exact wpAny_raiseNew_none hh x
end
end VX
namespace VX
open PySem PySem.Spec PyProof.Rows L2 VF
section
variable {P:Program}{W:World}{A:Around}{X:Value->Shared->Prop}{S:Shared}{C N:Addr}{mr mB:List Value}{hd:Bool}{B id ii:String}
theorem uI{e t:Addr}{dx:Option Addr}{us:List Value}{Q:Value->Shared->Prop}(c:XO S.heap C N mr hd id)(b:ExcBaseFacts B id ii mB)(tl:OwnTail S.heap mB mr)(ee:S.heap.get? e=some (kn C t dx))(few:us.length<=sizeLine)
  (q:∀H t',(∀a u,a≠e->S.heap.get? a=some u->H.get? a=some u)->H.get? e=some (kn C t' dx)->Q .none { S with heap:=H }):wpAny (model P W) A (call (.builtin ii) (.ref e::us)) Q X S:=by
 obtain⟨_,_,_,_,_,_,_,_,_,_,_,_,_,e0⟩:=c;obtain⟨H,gs,dr,tk,os⟩:=S;have sb:∀{M:Model}{A:Around}{E:Value->Shared->Prop}{g:Array GenState}{d:Drawn}{t:Nat}{o:OsState}{R:Bool->Shared->Prop},R true ⟨H,g,d,t,o⟩->wpAny M A (isSubtype (.ref C) (.type B)) R E ⟨H,g,d,t,o⟩:=fun r=>AK e0 (by rw[show(Value.ref C::mr).contains (.type B)=true by rw[Wh,tl.hasType b.hasB,Zk]];exact r)
 have any:∀(x y:String)(n:Nat),Bind.check ⟨.positional,"*",B,.self,[⟨"args",.varPos,false⟩]⟩ x y n []=pure ():=fun x y n=>check_star_args ..;have ns:=b.noStar;refine Ck (AI b.init.plain b.initEntry ?_);simp only[checkBuiltinCall,b.initSplit,b.initRow,b.initKind]
 wp_walk using At ee,At e0,sb
 refine wpAny_onRaise ?_;change wpAny _ _ (Bind.check _ _ _ _ []) _ _ _;rw[any]
 wp_walk
 refine q _ H.objs.size (fun a u n z=>?_) ?_
 ·exact(An _ _ (Ne.symm n)).trans (Ac _ z)
 ·exact(Ax _ (Ac _ ee) rfl).trans rfl
end
theorem uJ{M:Model}{A:Around}{X:Value->Shared->Prop}{S:Shared}{d:Addr}{f:Str}{tt:Tok}{v:Value}{R:Fin->Shared->Prop}(n:S.heap.Ns1 d fun _=>none)(q:∀H t,H.Ns1 d (fun y=>if y=f then some v else none)->Heap.SameBut d S.heap H->R (.done (.ret .none)) { S with heap:=H,toks:=t }) :
  wpAny M A (Builtin.ObjectAttr.storeInDict d (.str f tt) f v) R X S:=by
 unfold Builtin.ObjectAttr.storeInDict;unfold Builtin.ObjectAttr.newKeyGuard;refine Ab (Ae (Ab (wpAny_nsSet1 n fun G m sm=>?_)));obtain⟨_,_,_,g1,g2,few⟩:=m.count (Within.cons f v Within.nil);refine Ab (wpAny_lookBehind g1 ?_ (Ae (q _ _ m sm)));rw[g2];exact pastItsLine_dict (Qc few (by rw[Bj];exact(by decide:1<=16777216+1)))
open PySem.W in
theorem qP{P:Program}{W:World}{A:Around}{X:Value->Shared->Prop}{S:Shared}{K:Frag}{C N T e:Addr}{mB:List Value}{B id sa ow:String}{f:Str}{v:Value}{t0:Addr}{Q:Unit->Shared->Prop}(kin:K.In S.heap)(c:XO S.heap C N (.ref T::mB) true id)(sf:StoreFacts B mB sa ow)
  (f1:findIn K (.ref C) "__setattr__"=some (some (.builtin sa)))(f2:findIn K (.ref C) f=some none)(eo:S.heap.get? e=some (kn C t0 none))
  (q:∀H t dx,H.get? e=some (kn C t0 (some dx))->S.heap.objs.size<=dx->dx≠e->H.Ns1 dx (fun y=>if y=f then some v else none)->(∀a u,a≠e->S.heap.get? a=some u->H.get? a=some u)->Q () { S with heap:=H,toks:=t }) :
  wpAny (model P W) A (setAttr (.ref e) f v) Q X S:=by
 obtain⟨_,_,_,_,_,_,_,_,_,_,_,_,_,e0⟩:=c;obtain⟨H,gs,dr,tk,os⟩:=S;have sb:∀{M:Model}{A:Around}{E:Value->Shared->Prop}{g:Array GenState}{d:Drawn}{t:Nat}{os:OsState}{R:Bool->Shared->Prop},R true ⟨H,g,d,t,os⟩->wpAny M A (isSubtype (.ref C) (.type ow)) R E ⟨H,g,d,t,os⟩:=fun r=>AK e0 (by rw[show(Value.ref C::.ref T::mB).contains (.type ow)=true by rw[Wh,Wh,sf.hasOwner,Zk,Zk]];exact r)
 have lp:∀{M:Model}{A:Around}{E:Value->Shared->Prop}{g:Array GenState}{d:Drawn}{t:Nat}{os:OsState}{pt}{R:Obj->Shared->Prop},R (kn C t0 none) ⟨H,g,d,t,os⟩->wpAny M A (loadPart e pt) R E ⟨H,g,d,t,os⟩:=fun r=>At eo r;have l1:=looks_findIn (M:=model P W) kin f1;have l2:=looks_findIn (M:=model P W) kin f2;have bd:=sf.slot.bind (.ref e);unfold setAttr callSpecial?;unfold specialOf
 wp_walk using lp
 refine Looks.here (s:=⟨H,gs,dr,tk+1,os⟩) l1 ?_;dsimp only
 wp_walk
 refine AI sf.slot.plain sf.entry ?_;have lk:Looks (model P W) H (isInstance (.ref e) (.type ow)) true:=fun A' Q' E' S' k z=>by
  obtain⟨H',gs',dr',tk',os'⟩:=S';unfold isInstance
  wp_walk using At (k _ _ eo)
  refine AK (k _ _ e0) ?_;rw[show(Value.ref C::.ref T::mB).contains (.type ow)=true by rw[Wh,Wh,sf.hasOwner,Zk,Zk]]
  exact z
 refine PySem.W.check_slot (s:=⟨H,gs,dr,tk+1,os⟩) sf.kind sf.split lk (sf.args (.ref e) (.str f tk) v) ?_;have ty:∀{M:Model}{A:Around}{E:Value->Shared->Prop}{g:Array GenState}{d:Drawn}{t:Nat}{os:OsState}{R:Value->Shared->Prop},R (.ref C) ⟨H,g,d,t,os⟩->wpAny M A (typeOf (.ref e)) R E ⟨H,g,d,t,os⟩:=fun r=>by
  unfold typeOf
  wp_walk using lp
  exact r
 have rl:refuseLoop (.ref e) "__setattr__" (.ref C::.ref T::mB)=pure ():=by
  rw[refuseLoop_ref,refuseLoop_ref];exact sf.passes _
 have l3:∀{A:Around}{E:Value->Shared->Prop}{g:Array GenState}{d:Drawn}{t:Nat}{os:OsState}{R:Option Value->Shared->Prop},R none ⟨H,g,d,t,os⟩->wpAny (model P W) A (typeLookup (.ref C) f) R E ⟨H,g,d,t,os⟩:=fun r=>Looks.here (s:=⟨H,_,_,_,_⟩) l2 r;have rf:∀{M:Model}{A:Around}{E:Value->Shared->Prop}{g:Array GenState}{d:Drawn}{t:Nat}{os:OsState}{R:Unit->Shared->Prop},R () ⟨H,g,d,t,os⟩->wpAny M A (Builtin.ObjectAttr.refuseIfOverridden (.ref e) "__setattr__") R E ⟨H,g,d,t,os⟩:=fun r=>by
  rw[refuse_eq];refine Ab (ty (Ab (wpAny_mroOf_exc e0 ?_)));rw[rl];exact Ae r
 delta Builtin.«object.__setattr__»
 have fin:∀{A:Around}{E:Value->Shared->Prop}{g:Array GenState}{d:Drawn}{t:Nat}{os:OsState}{R:Fin->Shared->Prop},(∀G t,G.get? e=some (kn C t0 (some H.objs.size))->G.Ns1 H.objs.size (fun y=>if y=f then some v else none)->(∀a u,a≠e->H.get? a=some u->G.get? a=some u)->R (.done (.ret .none)) ⟨G,g,d,t,os⟩) ->
   wpAny (model P W) A (Builtin.ObjectAttr.storeInDict H.objs.size (.str f tk) f v) R E ⟨(H.push { cls:=.type "dict",data:=.dict #[] }).update e fun o=>{ cls:=o.cls,dict:=some H.objs.size,data:=o.data,slots:=o.slots },g,d,t,os⟩:=fun {A E g d t os R} r=>by
  have ne:e≠H.objs.size:=Qe (Ah eo);have n0:=BU (H.push { cls:=.type "dict",data:=.dict #[] }) H.objs.size e (fun o=>{ cls:=o.cls,dict:=some H.objs.size,data:=o.data,slots:=o.slots }) ne.symm;have n1:=n0.trans (Aj H rfl);refine uJ (Heap.Ns1.of_empty ⟨_,_,_,n1,rfl,fun x hx=>absurd hx (by simp),fun _=>rfl⟩) fun G t' m sm=>r G t' ?_ m fun a u n z=>?_
  ·exact(sm.2 e ne).trans ((Ax _ (Ac _ eo) rfl).trans rfl)
  ·exact(sm.2 a (Qe (Ah z))).trans ((BU _ _ _ _ n).trans (Ac _ z))
 wp_walk using rf,ty,l3,lp,At e0,fin
 intro G t' g1 g2 g3;dsimp only
 wp_walk
 exact q G t' _ g1 (Wa _) (A8 (Ah eo)) g2 g3
end VX
namespace VX
open PySem PySem.Spec PySem.W PyProof.Rows L2 VF
def xφ(C e:Addr)(dx:Option Addr):Heap->Prop:=fun h=>∃t,h.get? e=some (kn C t dx)
theorem wL{P:Program}{w:World}{H:Hp}{h:Heap}{C e:Addr}{dx:Option Addr}(q:xφ C e dx h):ObjOk P w H h e (.ext (xφ C e dx)) :=
 ⟨q,let ⟨_,z⟩:=q;⟨_,z⟩,fun _ _ ⟨t,z⟩ k=>⟨t,k _ z⟩⟩
structure XC(K:Aa)(C T f:Addr)(id ii sa ow B:String)(mB:List Value):Prop where
 ob:∃N,(∃a b bs sn su x y z p0 p1 p2 p3 p5,K.lookup C=some (excClassObj a b C N bs (.ref T::mB) true sn su x y z p0 p1 p2 p3 p5 id))/\nsOkIn K N=true/\nsIn K N "__init__"=some (some (.ref f))
 tl:∃c0 dd cd sl,K.lookup T=some { cls:=c0,dict:=dd,data:=.cls cd,slots:=sl }/\nsOkIn K cd.ns=true/\nsIn K cd.ns "__init__"=some none
 bf:ExcBaseFacts B id ii mB
 sf:StoreFacts B mB sa ow
 st:findIn K (.ref C) "__setattr__"=some (some (.builtin sa))
 fo:∃o,K.lookup f=some o/\o.cls=.type "function"
 kp:keepIn K (.ref C)=true
section
variable {X:Cx}{K:Aa}{C T f:Addr}{id ii sa ow B:String}{mB:List Value}{pins:List (Addr×Obj)}{σ:L2.St}{H:Hp}{s:Shared}{h:Heap}
theorem XC.tail(x:XC K C T f id ii sa ow B mB)(kin:K.In h):OwnTail h mB (.ref T::mB):=by
 obtain⟨c0,dd,cd,sl,l,n,i⟩:=x.tl;exact .own (kin _ _ l) (.of_isNs (isNs_of_in kin n)) (nsMap_none_of_in kin n i) .base
theorem XC.cls(x:XC K C T f id ii sa ow B mB)(kin:K.In h):∃N,XO h C N (.ref T::mB) true id:=by
 obtain⟨N,⟨_,_,_,_,_,_,_,_,_,_,_,_,_,l⟩,_⟩:=x.ob;exact⟨N,.mk _ _ _ _ _ _ _ _ _ _ _ _ _ (kin _ _ l)⟩
def Dh(C:Addr)(ta:TA):TE:=fun σ H Q=>ta σ H fun vs H1=>∃e ws,vs=.ref e::ws/\ws.length<=10/\H1 e=some (.ext (xφ C e none))/\Q .non H1
theorem y7{pl:Sem Bool}{x m:Str}{p apos pos:Pos}{a:Expr}{as:List Expr}{ta:TA}{mc:Value}(hK:X.K=K)(xc:XC K C T f id ii sa ow B mB)(hg:Gl X x)(hm:X.mg x=some (.ref T))
  (hga:specialIn K (.ref T) "__getattribute__"=some (some (.builtin "type.__getattribute__")))(hrd:readsIn K T mc=true)(hf:findCls K (.ref T) mc m=some (.val (.builtin ii)))(ha:PA X (a::as) ta)
  (hh:handedIn (.builtin ii)=true:=by rfl) (hdb:(x == ("__debug__":Str))=false:=by decide) (hst:starEach (a::as) X.env=(false,eval a X.env)::starEach as X.env:=by rfl) (hpl:(backTo pos (starEach as X.env)).any (·.1)=false:=by rfl)
  (ht:eval (.Call (.Attribute (.Name x p) m apos) (a::as) [] pos) X.env=(do
   let ov ← eval (.Name x p) X.env
   standAt apos.atName
   let (f,first) ← holding [ov] (getMethod ov m pl)
   callWith pos f first (backTo pos (starEach (a::as) X.env)) (backToKw pos (keywordEach [] X.env))):=by rfl) :
  PE X (.Call (.Attribute (.Name x p) m apos) (a::as) [] pos) (Dh C ta):=by
 intro pins s σ H Q I h;subst hK;refine PySem.W.methodCall_KW (pl:=pl) (fK I hg hm ?_ hdb) ht;refine method_cls I.kIn hga (cls_value I.kIn hrd hf hh ?_);have hA:=ha pos pins _ σ H _ (I.tok (s.toks+1)) h;rw[hst]at hA ⊢;refine BG (by show(false||(backTo pos (starEach as X.env)).any (·.1))=false;rw[hpl]<;>rfl) (BR ?_)
 refine thn hA fun us s2 zz=>?_;obtain⟨vs,H2,I2,r2,e,ws,rfl,hl,ee,q⟩:=zz;cases r2 with
 | @cons _ u _ us' r rr =>
  obtain rfl:u=Value.ref e:=r;obtain⟨N,xo⟩:=xc.cls I2.kIn;obtain⟨t0,he⟩:=(I2.hok e _ ee).1;refine uI xo xc.bf (xc.tail I2.kIn) he (by rw[← rr.length];exact Qc hl (by decide)) fun h' t' k he'=>?_
  have I3:=I2.write (x:=e) (e:=e) (o:=.ext (xφ C e none)) (t':=s2.toks) (by rw[ee];exact True.intro) (.inl rfl) (fun b u hb z=>k b u hb z) ⟨_,he'⟩ (wL ⟨_,he'⟩)
  have eH:upd H2 e (.ext (xφ C e none))=H2:=by
   funext b
   by_cases hb:b=e
   ·subst hb;rw[ay,ee]
   ·rw[am hb]
  rw[eH]at I3;exact⟨.non,H2,I3,rfl,q⟩
def sXF(C:Addr)(n:Str)(ta tv:TE):TS:=fun D σ H=>tv σ H fun y H1=>ta σ H1 fun x H2=>∃e,x=.ref e/\H2 e=some (.ext (xφ C e none))/\∀dx,H2 dx=none->D.nx σ (upd (upd H2 e (.ext (xφ C e (some dx)))) dx (.xd [(n,y)]))
theorem y8{o value:Expr}{n:Str}{pos' pos:Pos}{ta tv:TE}(hK:X.K=K)(xc:XC K C T f id ii sa ow B mB)(fn:findIn K (.ref C) n=some none)(ha:PE X o ta)(hv:PE X value tv)
  (hs:swapsWith value (some (.Attribute o n pos')) pos.line X.env=pure false:=by rfl):PS X (.Assign [.Attribute o n pos'] value pos) (sXF C n ta tv):=by
 intro pins s σ H D I h;subst hK;refine plainObj_wpAny_Assign_Attribute (thn (hv pins s σ H _ I h) fun u s1 ⟨y,H1,I1,ry,q⟩=>thn (ha pins s1 σ H1 _ I1 q) fun ov s2 zz9=>?_) hs;obtain⟨x,H2,I2,rx,e,rfl,ee,q2⟩:=zz9;obtain rfl:ov=Value.ref e:=rx;obtain⟨N,xo⟩:=xc.cls I2.kIn;obtain⟨t0,he⟩:=(I2.hok e _ ee).1;refine qP I2.kIn xo xc.sf xc.st fn he fun h' tk' dx hx' hnew hne hns k=>?_;have nd:H2 dx=none:=I2.hok.fresh hnew;have hnew:s2.heap.get? dx=none:=BQ hnew;have ne1:∀b o,H2 b=some o->b≠dx:=fun b o z w=>by rw[w,nd]at z;cases z
 have old:∀b o,s2.heap.get? b=some o->b≠dx:=fun b o z w=>by rw[w,hnew]at z;cases z
 refine⟨σ,_,I2.un (h':=h') (t':=tk') ⟨fun b o z n _ _=>k b o (fun w=>by rw[w,ee]at n;cases n) z,fun b o z n _ _=>⟨o.slots,k b o (fun w=>by rw[w,ee]at n;cases n) z⟩,fun b o z n _=>?_,fun b o z _=>?_,fun b xs z=>?_,fun b o u z=>?_,fun b ps z=>?_⟩ fun b o z=>?_,q2 dx nd⟩
 ·rw[am (old b o z),am fun w=>by rw[w,ee]at n;cases n];exact n
 ·by_cases w:b=e
  ·rw[w];exact⟨_,hx'⟩
  ·exact⟨o,k b o w z⟩
 ·rw[am (ne1 b _ z),am (fun w=>by rw[w,ee]at z;cases z)];exact z
 ·rw[am (ne1 b _ z),am (fun w=>by rw[w,ee]at z;cases z)];exact z
 ·exact⟨#[],by rw[am (ne1 b _ z),am (fun w=>by rw[w,ee]at z;cases z),z];simp⟩
 ·by_cases w:b=dx
  ·subst w;rw[ay]at z;cases z;refine⟨_,hns,fun g=>?_⟩;by_cases hg:g=n
   ·subst hg;rw[Ad rfl,CQ];exact ry
   ·rw[Ag hg,List.lookup_cons,show(g == n)=false from by simpa using hg];exact True.intro
  ·rw[am w]at z;by_cases v:b=e
   ·subst v;rw[ay]at z;cases z;exact wL ⟨t0,hx'⟩
   ·rw[am v]at z;refine(I2.hok b o z).stay (fun c v' hc qq=>k c v' ?_ qq) (fun c qq=>?_) fun c ys qq=>?_
    ·rcases hc with hc|hc
     ·rw[hc];exact v
     ·exact fun w'=>by rw[w',ee]at hc;cases hc
    ·rw[am (ne1 c _ qq),am (fun w'=>by rw[w',ee]at qq;cases qq)];exact qq
    ·rw[am (ne1 c _ qq),am (fun w'=>by rw[w',ee]at qq;cases qq)];exact qq
end
end VX
namespace VX
open PySem PySem.Spec PySem.W PyProof.Rows L2 VF
theorem Fi{K:Frag}{h:Heap}{N:Addr}{m:Str->Option Value}{n:Str}{v:Value}(kin:K.In h)(g:h.Ns N m)(e:nsIn K N n=some (some v)):m n=some v:=by
 obtain⟨o,es,ep,g1,g2,_,g4⟩:=g;cases l:K.lookup N with
 | none=>unfold nsIn at e;rw[l]at e;cases e
 | some u =>
  obtain rfl:=Option.some.inj ((kin _ _ l).symm.trans g1);obtain⟨c,d,dt,sl⟩:=u;cases g2;unfold nsIn at e;rw[l]at e;dsimp only at e;cases w:es.toList.find? (·.key.isStr n) with
  | none=>rw[w]at e;dsimp only at e;split at e<;>cases e
  | some x =>
   rw[w]at e;cases e;rw[← g4 n];show nsFind es n=some x.val;unfold nsFind findBy;rw[← Array.find?_toList];exact congrArg (Option.map _) w
section
variable {X:Cx}{C T f:Addr}{id ii sa ow B:String}{mB:List Value}{pins:List (Addr×Obj)}{σ:L2.St}{H:Hp}{s:Shared}{k:Nat}{fd:FuncData}{ps:List Str}{sp:Sp}{dvs:List V}{ds:List Value}
theorem uK{Q:VK}{us:List Value}{vs:List V}(xc:XC X.K C T f id ii sa ow B mB)(F:FnOk X.prog X.w X.K X.mg X.base CX0 k f fd ps sp)(hr:Room (k+1) X.A)(hb:L2.Binds X.K fd ps ds)(hd:Vals dvs ds)
  (I:L2.Inv X pins σ H s)(r:Vals vs us)(hus:us.length<=sizeLine)(h:∀e,H e=none->sp (.ref e::(vs++dvs)) (upd H e (.ext (xφ C e none))) (fun v H2=>v=.non/\Q (.ref e) H2) E0) :
  wpAny (model X.prog X.w) X.A (call (.ref C) us) (EP X pins σ Q) X.xe s:=by
 obtain⟨N,⟨_,_,_,_,_,_,_,_,_,_,_,_,_,l⟩,hN,hi⟩:=xc.ob;obtain⟨oI,lI,cI⟩:=xc.fo;have hn:=Heap.Ns.of_isNs (isNs_of_in I.kIn hN);refine uH (.mk _ _ _ _ _ _ _ _ _ _ _ _ _ (I.kIn _ _ l)) xc.bf (xc.tail I.kIn) hn (Fi I.kIn hn hi) (I.kIn _ _ lI) cI hus fun h' e t kk hz ht=>?_;have hq:=h e (I.hok.fresh hz);have I2:=I.laid (a:=e) (o:=.ext (xφ C e none)) (t':=s.toks) kk hz (wL ⟨t,ht⟩);have r2:Vals (V.ref e::(vs++dvs)) (Value.ref e::(us++ds)):=.cons rfl (r.append hd);have hl:(Value.ref e::us++ds).length=ps.length:=by
  have e:=r2.length;rw[F.len _ _ _ _ hq]at e;exact e.symm
 refine AH (F.run _ X.stack _ _ ⟨Value.ref e::us,[]⟩ (Value.ref e::(us++ds)) _ _ E0 (hr.make C us []) (I2.env0.make C us []) (hb _ (Value.ref e::us) I2.kIn hl) r2 hq) fun r s' hq'=>?_;cases r with
 | error e=>exact hq'.elim
 | ok fl =>
  cases fl with
  | ret u =>
   obtain⟨v,H',I3,rv,ev,q3⟩:=I2.after hq';subst ev;exact⟨rv,⟨V.ref e,H',I3,rfl,q3⟩⟩
  | _=>exact hq'.elim
end
end VX
namespace VX
open PySem PySem.Spec PySem.W PyProof.Rows L2 VF
structure X1(h:Heap)(e C dx T:Addr)(fl:Value):Prop where
 ex:∃vs sl,h.get? e=some ⟨.ref C,some dx,.fields vs,sl⟩/\vs[1]?=some (.ref T)
 ne:T≠e
 tb:∃o ts,h.get? T=some o/\o.data=.fields ts/\ts[3]?=some fl
structure Kn(fs:List Addr)(ch:List Addr)(h h':Heap):Prop where
 keep:∀b o,b∉fs->b∉ch->h.get? b=some o->h'.get? b=some o
 slot:∀b o,b∈fs->b∉ch->h.get? b=some o->∃sl,h'.get? b=some { o with slots:=sl }
 size:h.objs.size<=h'.objs.size
theorem Kn.trans{fs ch ch':List Addr}{h h1 h2:Heap}(a:Kn fs ch h h1)(b:Kn fs ch' h1 h2):Kn fs (ch++ch') h h2 :=
 ⟨fun x o n m z=>b.keep x o n (fun w=>m (Xe _ w)) (a.keep x o n (fun w=>m (Qi _ w)) z),fun x o n m z=>by
  obtain⟨sl,z1⟩:=a.slot x o n (fun w=>m (Qi _ w)) z
  exact b.slot x { o with slots:=sl } n (fun w=>m (Xe _ w)) z1,Qc a.size b.size⟩
section
variable {M:Model}{A:Around}{X:Value->Shared->Prop}{S:Shared}{base:Heap}{en:Env}{outer:List Env}{L e C dx T:Addr}
theorem entry_at{vs:Array Value}{sl:Array (Option Value)}{hd:Value}{b:Bool}{Q:Unit->Shared->Prop}(fr:A.frames=some (en::outer))(ff:S.heap.FunFrames base (en::outer))(hf:en.frame=some L)(ee:S.heap.get? e=some ⟨.ref C,some dx,.fields vs,sl⟩)(v1:1<vs.size)
  (q:∀H T,Kn (frs (en::outer)) [e] S.heap H->S.heap.objs.size<=T->X1 H e C dx T (rawInt L)->Q () { S with heap:=H }) :
  wpAny M A (do let a ← frameOf en;let pl ← entryPlaceOf L b;let x ← EntryCells.newEntry hd a .none (rawInt L) .none pl;setField (.ref e) 1 x) Q X S:=by
 have nf:e∉frs (en::outer):=fun z=>by
  obtain⟨_,o,z1,z2⟩:=ff.mem z;rw[ee]at z1;cases z1;exact z2 vs rfl
 refine Ab (wpAny_frameOf_fun fr ff hf fun H1 so=>Ab (wpAny_entryPlaceOf fun pl hp=>?_));have e1:H1.get? e=some ⟨.ref C,some dx,.fields vs,sl⟩:=(so.2.1 e nf).trans ee
 delta EntryCells.newEntry newFields
 refine Ab (As ?_ (hp.sizeOk5 _ _ _ _ _));generalize hO:({ cls:=.type "traceback",dict:=none,data:=.fields ([hd,.ref L,.none,rawInt L,.none]++(if pl.isEmpty=true then List.replicate 6 Value.none else pl)).toArray }:Obj)=O;have e2:(H1.push O).get? e=some ⟨.ref C,some dx,.fields vs,sl⟩:=Ac _ e1;have ne:H1.objs.size≠e:=A8 (Ah e1);refine AN e2 rfl v1 (q _ H1.objs.size ⟨fun b o n1 n2 z=>?_,fun b o n1 n2 z=>?_,?_⟩ (Nat.le_of_eq so.1.symm) ⟨⟨vs.setIfInBounds 1 (.ref H1.objs.size),sl,?_,by simp[v1]⟩,ne,O,?_⟩)
 ·exact(An _ _ fun w:e=b=>n2 (w ▸ .head _)).trans (Ac _ ((so.2.1 b n1).trans z))
 ·obtain⟨sl',z1⟩:=so.2.2 b o z;exact⟨sl',(An _ _ fun w:e=b=>n2 (w ▸ .head _)).trans (Ac _ z1)⟩
 ·rw[Cd,AT,so.1];exact BP _
 ·exact(Ax _ e2 rfl).trans rfl
 ·subst hO;exact⟨_,(An _ _ ne.symm).trans (Aj _ rfl),rfl,by rcases hp with rfl|⟨_,_,_,_,_,_,_,rfl⟩<;>simp⟩
theorem land{fl:Value}{Q:Unit->Shared->Prop}{fs:List Addr}(x:X1 S.heap e C dx T fl)(q:∀H,Kn fs [T] S.heap H->X1 H e C dx T .none->Q () { S with heap:=H }):wpAny M A (setFlight (.ref e) none) Q X S:=by
 obtain⟨⟨vs,sl,e1,v1⟩,ne,o,ts,t1,t2,t3⟩:=x;unfold setFlight;refine Ab (AE e1 rfl v1 ?_);rw[Ad (show(Value.ref T != Value.none)=true by simp)]
 have v3:=(Vg.mp t3).1;refine AN t1 t2 v3 (q _ ⟨fun b o n1 n2 z=>?_,fun b o n1 n2 z=>⟨o.slots,?_⟩,?_⟩ ⟨⟨vs,sl,?_,v1⟩,ne,?_⟩)
 ·exact(An _ _ fun w:T=b=>n2 (w ▸ .head _)).trans z
 ·exact(An _ _ fun w:T=b=>n2 (w ▸ .head _)).trans z
 ·rw[Cd];exact Wa _
 ·exact(An _ _ ne).trans e1
 ·have d:=AM t2 (·.setIfInBounds 3 ((none:Option Addr).elim Value.none fun f=>rawInt f));exact⟨_,_,Ax _ t1 (AV d),d,by simp[v3]⟩
theorem GR{vs:Array Value}{sl:Array (Option Value)}{Q:Unit->Shared->Prop}(fr:A.frames=some (en::outer))(ff:S.heap.FunFrames base (en::outer))(hf:en.frame=some L)(ee:S.heap.get? e=some ⟨.ref C,some dx,.fields vs,sl⟩)(v1:vs[1]?=some .none)
  (q:∀H T,Kn (frs (en::outer)) [e] S.heap H->S.heap.objs.size<=T->X1 H e C dx T (rawInt L)->Q () { S with heap:=H }):wpAny M A (noteFrame (.ref e) en) Q X S:=by
 unfold noteFrame;rw[hf];refine Ab (AE ee rfl v1 ?_);rw[Ag (by decide)]
 exact entry_at fr ff hf ee (Vg.mp v1).1 q
theorem Dj{Q:Unit->Shared->Prop}(fr:A.frames=some (en::outer))(ff:S.heap.FunFrames base (en::outer))(hf:en.frame=some L)(x:X1 S.heap e C dx T .none)(hT:T∉frs (en::outer))
  (q:∀H T',Kn (frs (en::outer)) ([T]++[e]) S.heap H->S.heap.objs.size<=T'->X1 H e C dx T' (rawInt L)->(∃o ts,H.get? T=some o/\o.data=.fields ts/\ts[3]?=some .none)->Q () { S with heap:=H }):wpAny M A (noteFrame (.ref e) en) Q X S:=by
 obtain⟨⟨vs,sl,e1,v1⟩,ne,o,ts,t1,t2,t3⟩:=x;unfold noteFrame;rw[hf];refine Ab (AE e1 rfl v1 ?_);rw[Ad (show(Value.ref T != Value.none)=true by simp)]
 refine Ab (AE t1 t2 t3 ?_);rw[Ag (show ¬ (Value.none == rawInt L)=true by simp[rawInt])]
 refine Ab (AN t1 t2 (Vg.mp t3).1 ?_);have ot:∀b,b≠T->(S.heap.update T (Obj.mapFields (·.setIfInBounds 3 Value.none))).get? b=S.heap.get? b:=fun b n=>An _ _ (Ne.symm n);have k1:Kn (frs (en::outer)) [T] S.heap (S.heap.update T (Obj.mapFields (·.setIfInBounds 3 Value.none))):=⟨fun b o _ n z=>(ot b fun w=>n (w ▸ .head _)).trans z,fun b o _ n z=>⟨o.slots,(ot b fun w=>n (w ▸ .head _)).trans z⟩,by rw[Cd];exact Wa _⟩
 have td:=AM t2 (·.setIfInBounds 3 Value.none);refine entry_at (S:={ S with heap:=S.heap.update T (Obj.mapFields (·.setIfInBounds 3 Value.none)) }) fr (ff.of_keeps fun b o z nn=>⟨o,(ot b fun w=>?_).trans z,rfl⟩) hf ((ot e (Ne.symm ne)).trans e1) (Vg.mp v1).1 fun H T' k z x=>q H T' (k1.trans k) (Qc k1.size z) x ⟨_,_,k.keep T _ hT (fun m=>ne (Vb.mp m)) (Ax _ t1 (AV td)),td,by simp[(Vg.mp t3).1]⟩
 rw[w,t1]at z;cases z;exact nn ts t2
theorem Fj{vs:Array Value}{sl:Array (Option Value)}{Q:Unit->Shared->Prop}(fr:A.frames=some (en::outer))(ff:S.heap.FunFrames base (en::outer))(hf:en.frame=some L)(ee:S.heap.get? e=some ⟨.ref C,some dx,.fields vs,sl⟩)(v1:vs[1]?=some .none)
  (q:∀H T,Kn (frs (en::outer)) [e] S.heap H->S.heap.objs.size<=T->X1 H e C dx T .none->Q () { S with heap:=H }):wpAny M A (leaving en (.ref e)) Q X S:=by
 unfold leaving;refine Ab (GR fr ff hf ee v1 fun H T k z x=>?_);refine land (S:={ S with heap:=H }) (fs:=frs (en::outer)) x fun H2 k2 x2=>q H2 T ?_ z x2;refine⟨fun b o n1 n2 w=>k2.keep b o n1 (fun m=>?_) (k.keep b o n1 n2 w),fun b o n1 n2 w=>?_,Qc k.size k2.size⟩
 ·rw[Vb.mp m]at w;exact absurd (Ah w) (Bv z)
 ·obtain⟨sl',w1⟩:=k.slot b o n1 n2 w;refine k2.slot b { o with slots:=sl' } n1 (fun m=>?_) w1;rw[Vb.mp m]at w;exact absurd (Ah w) (Bv z)
end
end VX
namespace VX
open PySem PySem.Spec PySem.W PyProof.Rows L2 VF
section
variable {P:Program}{w:World}{H:Hp}{h:Heap}{C e dx T:Addr}{fl:Value}
theorem GS(q:yφ C e dx T h):ObjOk P w H h e (.ext (yφ C e dx T)) :=
 ⟨q,let ⟨_,_,z,_⟩:=q;⟨_,z⟩,fun _ _ ⟨vs,sl,z,v⟩ k=>⟨vs,sl,k _ z,v⟩⟩
theorem GT(q:tφ T fl h):ObjOk P w H h T (.ext (tφ T fl)) :=
 ⟨q,let ⟨_,_,z,_⟩:=q;⟨_,z⟩,fun _ _ ⟨o,ts,z,v⟩ k=>⟨o,ts,k _ z,v⟩⟩
end
def CXF(P:Program)(w:World):CXT:=fun outer H s E e s'=>∃a H',e=.ref a/\s'.os=s.os/\AllBare s'.gens/\Un (frs outer) [] H H' s.heap s'.heap/\HOk P w H' s'.heap/\E (.ref a) none H'
abbrev two(H:Hp)(C e dx T:Addr)(fl:Value):Hp:=upd (upd H e (.ext (yφ C e dx T))) T (.ext (tφ T fl))
section
variable {X:Cx}{pins:List (Addr×Obj)}{σ:L2.St}{H:Hp}{s:Shared}{h':Heap}{ch:List Addr}{C e dx T:Addr}{fl:Value}
theorem pO(I:L2.Inv X pins σ H s)(k:Kn (frs X.stack) ch s.heap h')(he:∃φ,H e=some (.ext φ))(hT:(∃φ,H T=some (.ext φ))∨s.heap.objs.size<=T)
  (hc:∀b∈ch,b=e∨b=T∨∃φ,H b=some (.ext φ)/\φ h'/\∃o,h'.get? b=some o)(x:X1 h' e C dx T fl):L2.Inv X pins σ (two H C e dx T fl) { s with heap:=h' }:=by
 obtain⟨φe,he⟩:=he;obtain⟨ex,ne,tb⟩:=x;have hT':(∃φ,H T=some (.ext φ))∨(H T=none/\s.heap.get? T=none):=hT.imp id fun z=>⟨I.hok.fresh z,BQ z⟩;have nT:∀b o,H b=some o->(∀φ,o≠.ext φ)->b≠T:=fun b o z n w=>by
  rw[w]at z;rcases hT' with⟨φ,q⟩|⟨q,_⟩
  ·rw[q]at z;cases z;exact n φ rfl
  ·rw[q]at z;cases z
 have nE:∀b o,H b=some o->(∀φ,o≠.ext φ)->b≠e:=fun b o z n w=>by
  rw[w,he]at z;cases z;exact n φe rfl
 have same:∀b o,H b=some o->(∀φ,o≠.ext φ)->two H C e dx T fl b=some o:=fun b o z n=>by
  unfold two;rw[am (nT b o z n),am (nE b o z n)];exact z
 have out:∀b,H b=none->b∈ch->∀o,s.heap.get? b≠some o:=fun b n m o z=>by
  rcases hc b m with w|w|⟨φ,w,_⟩
  ·rw[w,he]at n;cases n
  ·rw[w]at n z;rcases hT' with⟨φ,q⟩|⟨_,q⟩
   ·rw[q]at n;cases n
   ·rw[q]at z;cases z
  ·rw[w]at n;cases n
 have oc:∀c o,H c=some o->(∀φ,o≠.ext φ)->c∉ch:=fun c o z n m=>by
  rcases hc c m with w|w|⟨φ,w,_⟩
  ·exact nE c o z n w
  ·exact nT c o z n w
  ·rw[w]at z;cases z;exact n φ rfl
 refine I.call (ch:=[]) (g':=s.gens) (d':=s.drawn) (t':=s.toks) ⟨fun b o z n nf _=>k.keep b o nf (fun m=>out b n m o z) z,fun b o z n nf _=>k.slot b o nf (fun m=>out b n m o z) z,fun b o z n _=>?_,fun b o z _=>?_,fun b xs z=>same b _ z nofun,fun b o u z=>same b _ z nofun,fun b ps z=>⟨#[],by rw[Array.append_empty];exact same b _ z nofun⟩⟩ (fun b o z=>?_) I.bare nofun
 ·unfold two;rw[am,am]
  ·exact n
  ·intro w;rw[w,he]at n;cases n
  ·intro w;rw[w]at n z;rcases hT' with⟨φ,q⟩|⟨_,q⟩
   ·rw[q]at n;cases n
   ·rw[q]at z;cases z
 ·by_cases m:b∈ch
  ·rcases hc b m with w|w|⟨φ,_,_,w⟩
   ·rw[w];obtain⟨_,_,q,_⟩:=ex;exact⟨_,q⟩
   ·rw[w];obtain⟨_,_,q,_⟩:=tb;exact⟨_,q⟩
   ·exact w
  ·by_cases f:b∈frs X.stack
   ·obtain⟨_,q⟩:=k.slot b o f m z;exact⟨_,q⟩
   ·exact⟨_,k.keep b o f m z⟩
 ·unfold two at z;by_cases w:b=T
  ·subst w;rw[ay]at z;cases z;exact GT tb
  ·rw[am w]at z;by_cases v:b=e
   ·subst v;rw[ay]at z;cases z;exact GS ex
   ·rw[am v]at z;have nf:∀c u,H c=some u->c∉frs X.stack:=fun c u q m=>by rw[I.stkFree c m]at q;cases q
    by_cases m:b∈ch
    ·rcases hc b m with q|q|⟨φ,q,f,th⟩
     ·exact absurd q v
     ·exact absurd q w
     ·rw[q]at z;cases z;exact⟨f,th,(show ObjOk X.prog X.w H s.heap b (.ext φ) from I.hok b _ q).2.2⟩
    ·refine(I.hok b o z).stay (fun c u hc' q=>?_) (fun c q=>same c _ q nofun) fun c ys q=>same c _ q nofun;rcases hc' with rfl|hc'
     ·exact k.keep c u (nf c o z) m q
     ·exact k.keep c u (nf c _ hc') (oc c _ hc' nofun) q
end
section
variable {P:Program}{w:World}{K:Frag}{mg:Str->Option Value}{base:Heap}{N:List Str}{qual:Str}{scope:Scope}{f:Addr}{cd:Value}{A:Around}{outer:List Env}{s0 s:Shared}{H0 H:Hp}{E:XK}{pins:List (Addr×Obj)}{σ:L2.St}{C e dx:Addr}
theorem y9(I:L2.Inv (b9 (CXF P w) P w K mg base N qual scope f cd A outer s0 H0 E) pins σ H s)(he:H e=some (.ext (xφ C e (some dx))))(q:∀T,H T=none->E (.ref e) none (two H C e dx T .none)) :
  (b9 (CXF P w) P w K mg base N qual scope f cd A outer s0 H0 E).xe (.ref e) s:=by
 obtain⟨t,ee⟩:=(I.hok e _ he).1;refine Fj I.ok.frames I.stack rfl ee rfl fun h' T k z x=>?_;have J:=pO I k ⟨_,he⟩ (.inr z) (fun b m=>.inl (Vb.mp m)) x;exact⟨e,_,rfl,J.os,J.bare,J.base,J.hok,q T (I.hok.fresh z)⟩
end
end VX
namespace VX
open PySem PySem.Spec PySem.W PyProof.Rows L2 VF
def spI(C:Addr)(n:Str):Sp:=fun vs H Q _=>∃e v,vs=[.ref e,v]/\H e=some (.ext (xφ C e none))/\∀dx,H dx=none->Q .non (upd (upd H e (.ext (xφ C e (some dx)))) dx (.xd [(n,v)]))
structure Rsd(C:Addr)(n:Str)(v:V)(H H':Hp)(e:Addr):Prop where
 new:H e=none
 obj:∃dx T,T≠e/\H dx=none/\H T=none/\H' e=some (.ext (yφ C e dx T))/\H' dx=some (.xd [(n,v)])/\H' T=some (.ext (tφ T .none))
 old:∀b o,H b=some o->H' b=some o
structure CalG(P:Program)(w:World)(K:Frag)(mg:Str->Option Value)(base:Heap)(x:Str)(k:Nat)(ps:List Str)(sp:Sp):Prop where
 ex:∃f fd,FnOk P w K mg base (CXF P w) k f fd ps sp/\mg x=some (.ref f)/\keepIn K (.ref f)=true/\L2.Binds K fd ps []
end VX
namespace VX
open PySem PySem.Spec PySem.W PyProof.Rows L2 VF
section
variable {P:Program}{w:World}{K:Frag}{mg:Str->Option Value}{base:Heap}{x qual n:Str}{st:Stmt}{ds:List Value}{N ps:List Str}{k:Nat}{C f:Addr}{fd:FuncData}
def GU(C:Addr)(n:Str):TS:=xW (uV (Dh C (b8 (kM 0) (b8 (kM 1) hU)))) (sXF C n (kM 0) (kM 1))
end
end VX
namespace VX
open PySem PySem.Spec PySem.W PyProof.Rows L2 VF
abbrev mkd(X:Cx)(v:Value):Cx:={ X with A:=X.A.mark (some v),calm:=false,xe:=fun _ _=>False }
section
variable {X:Cx}{pins:List (Addr×Obj)}{σ:L2.St}{H:Hp}{s:Shared}{v:Value}
theorem wM(I:L2.Inv X pins σ H s):L2.Inv (mkd X v) pins σ H s :=
 ⟨⟨I.ok.mod,I.ok.kind,I.ok.glob,I.ok.blt,I.ok.above,I.ok.inj,I.ok.has,I.ok.cab,nofun,I.ok.frames,I.ok.stk,I.ok.exf,I.ok.bs,I.ok.bsz,I.ok.noex,I.ok.exfs,I.ok.funs,I.ok.frf⟩,I.os,I.bare,I.base,I.loc,I.cell,I.free,I.freeC,I.pin,I.hok,I.len⟩
theorem za(ok:X.Ok)(I:L2.Inv (mkd X v) pins σ H s):L2.Inv X pins σ H s:=⟨ok,I.os,I.bare,I.base,I.loc,I.cell,I.free,I.freeC,I.pin,I.hok,I.len⟩
theorem gone{M:Model}{A:Around}{E:Value->Shared->Prop}{i:Nat}{x:Str}{pos:Pos}{Q:Unit->Shared->Prop}(I:L2.Inv X pins σ H s)(hN:X.N.Nodup)(hi:X.N[i]?=some x)(hk:X.env.scope.names.lookup x=some .local)
  (q:∀s',L2.Inv X pins (σ.set i none) H s'->Q () s'):wpAny M A (do bindName X.env x .none;unbindBehindTheSuite X.env x pos) Q E s:=by
 obtain⟨m,hn,hl⟩:=id I.loc;obtain⟨oL,_,_,hoL,_⟩:=id hn;have hiσ:i<σ.length:=by rw[I.len];exact(Va.mp hi).1
 refine wpAny_nameGoes_keeps hk hn (by rw[I.ok.kind];rfl) fun h' u hn' hs=>q _ ?_
 have lt:∀b o,X.s₀.heap.get? b=some o->b≠X.env.locals:=fun b o e=>Qe (Wb (Ah e) I.ok.above);refine⟨I.ok,I.os,I.bare,⟨fun b o e n hb hx=>(hs.2 b (lt b o e)).trans (I.base.keep b o e n hb hx),fun b o e n hb hx=>?_,I.base.free,fun b o e hx=>?_,I.base.tups,I.base.frzs,I.base.tbls⟩,⟨_,hn',fun j y v' e1 e2 e3=>?_⟩,fun y c e=>?_,I.free,I.freeC,fun p hp=>?_,fun b o e=>?_,by simpa using I.len⟩
 ·obtain⟨sl,e1⟩:=I.base.slot b o e n hb hx;exact⟨sl,(hs.2 b (lt b o e)).trans e1⟩
 ·obtain⟨o',e1⟩:=I.base.there b o e hx;exact⟨o',(hs.2 b (lt b o e)).trans e1⟩
 ·by_cases hj:j=i
  ·subst hj;rw[Yl hiσ]at e2;cases e2
  ·rw[Zj (Ne.symm hj)]at e2;obtain⟨u',r',z⟩:=hl j y v' e1 e2 e3;refine⟨u',r',?_⟩;rcases z with⟨k,e⟩|⟨k,c,e,z⟩
   ·have ny:y≠x:=fun e=>hj (kL hN e1 (e ▸ hi));exact .inl ⟨k,(Ag ny).trans e⟩
   ·exact .inr ⟨k,c,e,z.sameBut hs (I.cne y c e)⟩
 ·obtain⟨w',z⟩:=I.cell y c e;exact⟨w',z.sameBut hs (I.cne y c e)⟩
 ·obtain⟨e,n,ne,nf,d⟩:=I.pin p hp;exact⟨(hs.2 p.1 ne).trans e,n,ne,nf,d⟩
 ·refine(I.hok b o e).stay (fun c w' hc z=>(hs.2 c fun w=>?_).trans z) (fun _ z=>z) fun _ _ z=>z;rw[w]at hc;rcases hc with hc|hc
  ·rw[← hc,I.free]at e;cases e
  ·rw[I.free]at hc;cases hc
end
def PSx(X:Cx)(sts:List Stmt)(t:(Addr->Hp->Prop)->TS):Prop:=∀(pins:List (Addr×Obj))(s:Shared)(σ:L2.St)(H:Hp)(D:Ends)(Ex:Addr->Hp->Prop),L2.Inv X pins σ H s->t Ex D σ H ->
 wpAny (model X.prog X.w) X.A (execs sts X.env) (SP X pins D) (fun e s'=>∃a H',e=.ref a/\L2.Inv X pins σ H' s'/\Ex a H') s
section
variable {X:Cx}{pins:List (Addr×Obj)}{σ:L2.St}{H:Hp}{s:Shared}
theorem Dk{k:Nat}{f:Addr}{fd:FuncData}{ps:List Str}{sp:Sp}{Q:VK}{E:XK}{us:List Value}{vs:List V}(F:FnOk X.prog X.w X.K X.mg X.base (CXF X.prog X.w) k f fd ps sp)(hr:Room k X.A)(hb:L2.Binds X.K fd ps [])
  (I:L2.Inv X pins σ H s)(r:Vals vs us)(h:sp vs H Q E):wpAny (model X.prog X.w) X.A (call (.ref f) us) (EP X pins σ Q) (fun e s'=>∃a H',e=.ref a/\L2.Inv X pins σ H' s'/\E (.ref a) none H') s:=by
 have hl:us.length=ps.length:=r.length.symm.trans (F.len _ _ _ _ h);have hb':=hb s us I.kIn (by rw[Qf];exact hl)
 rw[Qf]at hb';refine Ck (AH (F.run _ _ _ _ ⟨us,[]⟩ us vs _ E hr I.env0 hb' r h) fun r s' z=>?_);cases r with
 | error e =>
  obtain⟨a,H',rfl,os,bare,un,hok,q⟩:=z;exact⟨a,H',rfl,I.call' os un hok bare nofun,q⟩
 | ok fl =>
  cases fl with
  | ret u=>exact I.after z
  | _=>exact z.elim
end
end VX
namespace VX
open PySem PySem.Spec PySem.W PyProof.Rows L2 VF
theorem sU{H:Hp}{C e dx T:Addr}{a b:Value}:two (two H C e dx T a) C e dx T b=two H C e dx T b:=by
 funext x
 unfold two;by_cases h:x=T
 ·rw[h,ay,ay]
 ·rw[am h,am h];by_cases g:x=e
  ·rw[g,ay,ay]
  ·rw[am g,am h,am g]
def GV(C:Addr)(i:Nat)(tb:(Addr->Hp->Prop)->TS)(th:Addr->TS):TS:=fun D σ H=>tb (fun a H'=>∃dx T,T≠a/\H' a=some (.ext (yφ C a dx T))/\H' T=some (.ext (tφ T .none)) /\
 ∀T',H' T'=none->th a { nx:=fun σ' H2=>D.nx (σ'.set i none) H2,rt:=fun _ _=>False } (σ.set i (some (.ref a))) (two H' C a dx T' .none)) D σ H
theorem wN{M:Model}{A:Around}{E:Value->Shared->Prop}{S:Shared}{C N a:Addr}{mr:List Value}{hd:Bool}{id:String}{o:Obj}{nv:Value}{Q:Unit->Shared->Prop}(c:XO S.heap C N mr hd id)(hb:mr.contains (.type "BaseException")=true)(ha:S.heap.get? a=some o)(hc:o.cls=.ref C)(q:Q () S) :
  wpAny M A (checkBuiltinCall "BaseException.__getattribute__" ⟨[.ref a,nv],[]⟩) Q E S:=by
 obtain⟨_,_,_,_,_,_,_,_,_,_,_,_,_,e0⟩:=c;obtain⟨H,gs,dr,tk,os⟩:=S;have k1:builtinKind "BaseException.__getattribute__"=some .slot:=by decide +kernel
 have k2:splitId "BaseException.__getattribute__"=some ("BaseException","__getattribute__"):=by decide +kernel
 have k3:=F.args_bexc_ga (.ref a) nv;have sb:∀{M:Model}{A:Around}{E:Value->Shared->Prop}{g:Array GenState}{d:Drawn}{t:Nat}{o:OsState}{R:Bool->Shared->Prop},R true ⟨H,g,d,t,o⟩->wpAny M A (isSubtype (.ref C) (.type "BaseException")) R E ⟨H,g,d,t,o⟩:=fun r=>AK e0 (by rw[show(Value.ref C::mr).contains (.type "BaseException")=true by rw[Wh,hb,Zk]];exact r)
 have ld:∀{M:Model}{A:Around}{E:Value->Shared->Prop}{g:Array GenState}{d:Drawn}{t:Nat}{os:OsState}{R:Value->Shared->Prop},R (.ref C) ⟨H,g,d,t,os⟩->wpAny M A (typeOf (.ref a)) R E ⟨H,g,d,t,os⟩:=fun r=>by
  unfold typeOf
  wp_walk using At ha
  rw[hc];exact r
 unfold checkBuiltinCall;rw[k1];dsimp only;rw[k2];unfold isInstance
 wp_walk using ld,sb
 exact q
theorem HB{P:Program}{W:World}{A:Around}{E:Value->Shared->Prop}{S:Shared}{K:Frag}{C N a:Addr}{mr:List Value}{hd ep:Bool}{id B:String}{o:Obj}{od:Option Obj}{n:Str}{v:Value}{Q:Value->Shared->Prop}(kin:K.In S.heap)(c:XO S.heap C N mr hd id)(hb:mr.contains (.type "BaseException")=true)(J:PySem.W.InstAt S.heap a o C od)
  (fb:ExcAttrFacts B)(ga:findIn K (.ref C) "__getattribute__"=some (some (.builtin "BaseException.__getattribute__")))(gt:findIn K (.ref C) "__getattr__"=some none)(fo:findObj K C od n=some (.value v))(hv:handedIn v=true)(q:Q v { S with toks:=S.toks+1 }) :
  wpAny (model P W) A (getAttr (.ref a) n ep) Q E S:=by
 obtain⟨H,gs,dr,tk,os⟩:=S;have ty:=J.type (M:=model P W);have l1:=looks_findIn (M:=model P W) kin ga;have l2:=looks_findIn (M:=model P W) kin gt;have l3:=looks_find (M:=model P W) kin J fo;have x0:(ep&&onTheHeap (Value.builtin "BaseException.__getattribute__"))=false:=by cases ep<;>rfl
 have x2:(Value.builtin "BaseException.__getattribute__" == Value.builtin "object.__getattribute__")=false:=by decide +kernel
 have x1:(onTheHeap (Value.ref C)&&Value.builtin "BaseException.__getattribute__" == Value.builtin "object.__getattribute__")=false:=by rw[x2];rfl
 have bd:=fb.ga.bind (.ref a);have ho:=handedOut_of hv;unfold getAttr getAttrBy
 wp_walk using ty.at,l1.at,l2.at
 refine AI fb.ga.plain F.entry_bexc_ga (wN (S:=⟨H,gs,dr,tk+1,os⟩) c hb J.at_ J.cls ?_)
 wp_walk using ty.at,l3.at
 exact q
end VX
namespace VX
open PySem PySem.Spec PySem.W PyProof.Rows L2 VF
structure XH(K:Frag)(C:Addr)(B:String):Prop where
 fb:ExcAttrFacts B
 ga:findIn K (.ref C) "__getattribute__"=some (some (.builtin "BaseException.__getattribute__"))
 gt:findIn K (.ref C) "__getattr__"=some none
 hd:hasDictIn K C=true
 ca:findIn K (.ref C) "__class__"=some (some (.builtin "object.__class__"))
 cn:specialIn K (.builtin "object.__class__") "__get__"=some (some (.builtin "getset_descriptor.__get__"))
 ck:takesIn K (.builtin "object.__class__")=some true
 cm:mroIn K C (.type "object")=some true
section
variable {K:Frag}{C T f a:Addr}{id ii sa ow B:String}{mB:List Value}{o od:Obj}
theorem Fk{P:Program}{W:World}{A:Around}{E:Value->Shared->Prop}{S:Shared}{Q:Option Value->Shared->Prop}(xc:XC K C T f id ii sa ow B mB)(hbe:mB.contains (.type "BaseException")=true)(xh:XH K C B)(kin:K.In S.heap)(J:PySem.W.InstAt S.heap a o C (some od))(q:Q (some (.ref C)) { S with toks:=S.toks+1 }) :
  wpAny (model P W) A (getAttr? (.ref a) "__class__") Q E S:=by
 obtain⟨N,c⟩:=xc.cls kin;have fo:findObj K C (some od) "__class__"=some (.bind (.builtin "getset_descriptor.__get__") (.builtin "object.__class__")):=findObj_data (by obtain⟨cd,hc,_⟩:=any_some xh.hd;rw[hc];rfl) xh.ca xh.cn xh.ck
 obtain⟨H,gs,dr,tk,os⟩:=S;have ty:=J.type (M:=model P W);have l1:=looks_findIn (M:=model P W) kin xh.ga;have l2:=looks_findIn (M:=model P W) kin xh.gt;have l3:=looks_find (M:=model P W) kin J fo;have x0:(false&&onTheHeap (Value.builtin "BaseException.__getattribute__"))=false:=rfl;have x2:(Value.builtin "BaseException.__getattribute__" == Value.builtin "object.__getattribute__")=false:=by decide +kernel
 have x1:(onTheHeap (Value.ref C)&&Value.builtin "BaseException.__getattribute__" == Value.builtin "object.__getattribute__")=false:=by rw[x2];rfl
 have bd:=xh.fb.ga.bind (.ref a);unfold getAttr?;unfold getAttrBy? getAttrBy
 wp_walk using ty.at,l1.at,l2.at
 refine AI xh.fb.ga.plain F.entry_bexc_ga (wN (S:=⟨H,gs,dr,tk+1,os⟩) c (by rw[Wh,hbe,Zk]) J.at_ J.cls ?_)
 wp_walk using ty.at,l3.at
 have ho:handedOut (.ref C)=pure (.ref C):=handedOut_of rfl;refine class_get (s:=⟨H,gs,dr,tk+1,os⟩) (ox:=o) (od:=some od) kin J xh.cm ?_
 wp_walk
 exact q
theorem wO(xc:XC K C T f id ii sa ow B mB)(hbe:mB.contains (.type "BaseException")=true)(xh:XH K C B):KitX K (.ref a) (.ref C) (fun h=>PySem.W.InstAt h a o C (some od)) where
 ty:=fun _ _ _ J=>J.type
 it:=fun M h kin _ A' Q' E' s' k q=>by
  obtain⟨N,⟨_,_,_,_,_,_,_,_,_,_,_,_,_,l⟩,_⟩:=xc.ob;unfold isType loadHead;exact Ab (wpAny_loadPart (k C _ (kin C _ l)) (Ae q))
 ne:=fun h tp dd its n sl kin ht=>by
  obtain⟨N,⟨_,_,_,_,_,_,_,_,_,_,_,_,_,l⟩,_⟩:=xc.ob;by_cases w:C=tp
  ·rw[← w,kin C _ l]at ht;exact absurd (congrArg Obj.data (Option.some.inj ht)) nofun
  ·simpa using w
 ca:=fun kin J q=>Fk xc hbe xh kin J q
end
theorem sV:∀{cs:List Addr}{us:List Value},Vals (cs.map V.ref) us->us=cs.map Value.ref
 | [],_,.nil=>rfl
 | c::cs,_,.cons r rr=>by
  cases (show _=Value.ref c from r);rw[sV rr];rfl
def Dm(K:Frag)(C:Addr):List V->Hp->VK->Prop:=fun vs H Q=>∃a dx T fs b cv,vs=[.ref a,.ref cv]/\H a=some (.ext (yφ C a dx T))/\H dx=some (.xd fs)/\(kitOne K (.ref C) (.ref cv)=some b∨∃cs:List Addr,H cv=some (.tup (cs.map V.ref))/\kitAny K (.ref C) (cs.map Value.ref)=some b)/\Q (.bl b) H
def tXA(C:Addr)(n:Str)(te:TE):TE:=fun σ H Q=>te σ H fun x H1=>∃a dx T fs v,x=.ref a/\H1 a=some (.ext (yφ C a dx T))/\H1 dx=some (.xd fs)/\fs.lookup n=some v/\Q v H1
section
variable {X:Cx}{K:Frag}{C T f a dx:Addr}{id ii sa ow B:String}{mB:List Value}{pins:List (Addr×Obj)}{σ:L2.St}{H:Hp}{s:Shared}{fs:List (Str×V)}
theorem x_at(I:L2.Inv X pins σ H s){T':Addr}(ea:H a=some (.ext (yφ C a dx T')))(ex:H dx=some (.xd fs)):∃(o od:Obj)(mA:Str->Option Value),PySem.W.InstAt s.heap a o C (some od)/\(∀n,lookIn n od=some (mA n))/\∀n,RelO (fs.lookup n) (mA n):=by
 obtain⟨vs,sl,z,_⟩:=(I.hok a _ ea).1;obtain⟨mA,ns,r⟩:=(show ObjOk X.prog X.w H s.heap dx (.xd fs) from I.hok dx _ ex);obtain⟨od,z2,l⟩:=mN ns;exact⟨_,od,mA,⟨z,rfl,rfl,z2⟩,l,r⟩
theorem bA(h:X.K=K)(xc:XC K C T f id ii sa ow B mB)(hbe:mB.contains (.type "BaseException")=true)(xh:XH K C B):CallR X (.builtin "isinstance") (Dm K C):=by
 intro pins s σ H vs us Q I r q;subst h;obtain⟨a,dx,T',fs,b,cv,rfl,ea,ex,hc,q⟩:=q;obtain⟨o,od,mA,J,_⟩:=x_at I ea ex;cases r with
 | cons r1 r2 =>
  cases r2 with
  | cons r2 r3 =>
   cases r3;cases (show _=Value.ref a from r1);cases (show _=Value.ref cv from r2);have en:∀tk,EP X pins σ Q (.bool b) { s with toks:=tk }:=fun tk=>⟨.bl b,H,I.tok tk,rfl,q⟩;rcases hc with hc|⟨cs,ec,hc⟩
   ·exact kia_one (wO xc hbe xh) I.kIn J hc nofun en
   ·obtain⟨_,us,rv,p⟩:=(show ObjOk X.prog X.w H s.heap cv (.tup (cs.map V.ref)) from I.hok cv _ ec);have eu:=sV rv;subst eu;obtain⟨o',p1,p2,n,p3⟩:=p;obtain⟨c1,c2,c3,c4⟩:=o';cases p2;cases p3;exact kia_tup (wO xc hbe xh) I.kIn J p1 hc nofun en
theorem Fm{e:Expr}{n:Str}{pos:Pos}{te:TE}(h:X.K=K)(xc:XC K C T f id ii sa ow B mB)(hbe:mB.contains (.type "BaseException")=true)(xh:XH K C B)(fn:findIn K (.ref C) n=some none)(he:PE X e te)(hb:attributeBase e n X.env (eval e X.env)=eval e X.env:=by rfl):PE X (.Attribute e n pos) (tXA C n te):=by
 intro pins s σ H Q I q;subst h;refine x9 hb (thn (he pins s σ H _ I q) fun u s1 zz=>?_);obtain⟨x,H1,I1,rx,a,dx,T',fs,v,rfl,ea,ex,l,q⟩:=zz;cases (show u=Value.ref a from rx);obtain⟨o,od,mA,J,lk,rl⟩:=x_at I1 ea ex;obtain⟨u,hu,ru⟩:=RelO.some_of (v:=v) (o:=mA n) (by rw[← l];exact rl n)
 obtain⟨N,c⟩:=xc.cls I1.kIn;exact HB I1.kIn c (by rw[Wh,hbe,Zk]) J xh.fb xh.ga xh.gt (findObj_own xh.hd fn rfl (by rw[lk,hu])) (tM ru) ⟨v,H1,I1.tok _,ru,q⟩
end
end VX
namespace VX
open PySem PySem.Spec PySem.W PyProof.Rows L2 VF
def GW(s:Stmt)(i:Nat):Stmt:=match s with
 | .ClassDef _ _ _ b _ _ _ _ _ _ _=>b.getD i (.Pass ⟨0,0,0,0⟩)
 | _=>.Pass ⟨0,0,0,0⟩
def HD(es:Array DictEntry):Bool:=es.toList.all fun e=>match e.key with|.str _ _=>true|_=>false
theorem nsOk_of{K:Frag}{N:Addr}{nc:Value}{nd:Option Addr}{es:Array DictEntry}{ep:Nat}{ns:Array (Option Value)}(l:K.lookup N=some ⟨nc,nd,.dict es ep,ns⟩)(t:HD es=true):nsOkIn K N=true:=by
 unfold nsOkIn;rw[l];exact Array.all_toList.symm.trans t
abbrev mVE:List Value:=[.type "ValueError",.type "Exception",.type "BaseException",.type "object"]
theorem xc_mk{K:Frag}{C S f N:Addr}{a b:Str}{bs:List Value}{sn:List Str}{su:List Value}{x:Bool}{y:Option Bool}{z:Option Addr}{p0 p1 p2 p3 p5:Option Value}{c0:Value}{dd:Option Addr}{cd:ClassData}{sl:Array (Option Value)}{o:Obj}
  (l:K.lookup C=some (excClassObj a b C N bs (.ref S::mVE) true sn su x y z p0 p1 p2 p3 p5 "ValueError.__new__"))(n:nsOkIn K N=true)(i:nsIn K N "__init__"=some (some (.ref f)))(l2:K.lookup S=some { cls:=c0,dict:=dd,data:=.cls cd,slots:=sl })(n2:nsOkIn K cd.ns=true)(i2:nsIn K cd.ns "__init__"=some none)
  (st:findIn K (.ref C) "__setattr__"=some (some (.builtin "object.__setattr__"))) (lf:K.lookup f=some o) (fc:o.cls=.type "function") (kp:keepIn K (.ref C)=true):XC K C S f "ValueError.__new__" "ValueError.__init__" "object.__setattr__" "object" "ValueError" mVE :=
 ⟨⟨N,⟨a,b,bs,sn,su,x,y,z,p0,p1,p2,p3,p5,l⟩,n,i⟩,⟨c0,dd,cd,sl,l2,n2,i2⟩,PySem.F.excBase_ValueError,PySem.F.store_ValueError,st,⟨o,lf,fc⟩,kp⟩
abbrev BdI(P:Program)(w:World)(K:Frag)(mg:Str->Option Value)(base:Heap)(qual n:Str)(C f:Addr)(st:Stmt)(N:List Str)(k:Nat):Prop :=
 ∀{cdv:Value}{A:Around}{outer:List Env}{s:Shared}{H:Hp}{E:XK},Room k (A.deeper (envOfC qual (ar st) s.heap.objs.size f cdv))->PSs (b9 CX0 P w K mg base N qual (ar st) f cdv A outer s H E).nox (cg st) (GU C n)
end VX
namespace VX
open PySem PySem.Spec PySem.W PyProof.Rows L2 VF
def tR1(C:Addr)(n:Str)(te:TE)(E:XK):TS:=fun _ σ H=>te σ H fun v H1=>∀e H',Rsd C n v H1 H' e->E (.ref e) none H'
section
variable {P:Program}{w:World}{K:Frag}{mg:Str->Option Value}{base:Heap}{N:List Str}{qual:Str}{scope:Scope}{g:Addr}{cd:Value}{A:Around}{outer:List Env}{s0:Shared}{H0:Hp}{E:XK}{C T f:Addr}{id ii sa ow B:String}{mB:List Value}
theorem uL{k:Nat}{fd:FuncData}{x n:Str}{e0:Expr}{te:TE}{p cp pos:Pos}{ps:List Str}(xc:XC K C T f id ii sa ow B mB)(hbe:mB.contains (.type "BaseException")=true)(F:FnOk P w K mg base CX0 k f fd ps (spI C n))(hr:Room (k+1) (A.deeper (envOfC qual scope s0.heap.objs.size g cd)))(hb:L2.Binds K fd ps [])
  (hg:Gl (b9 (CXF P w) P w K mg base N qual scope g cd A outer s0 H0 E) x)(hm:mg x=some (.ref C))(ha:PE (b9 (CXF P w) P w K mg base N qual scope g cd A outer s0 H0 E) e0 te)(hst:noStar e0=true:=by rfl)(hdb:(x == ("__debug__":Str))=false:=by decide)
  (he:starEach [e0] (b9 (CXF P w) P w K mg base N qual scope g cd A outer s0 H0 E).env=(false,eval e0 (b9 (CXF P w) P w K mg base N qual scope g cd A outer s0 H0 E).env)::[]:=by rfl) :
  PS (b9 (CXF P w) P w K mg base N qual scope g cd A outer s0 H0 E) (.Raise (some (.Call (.Name x p) [e0] [] cp)) none pos) (tR1 C n te E):=by
 intro pins s σ H D I h;obtain⟨M,⟨_,_,_,_,_,_,_,_,_,_,_,_,_,l⟩,_⟩:=xc.ob;rw[arm_exec_Raise];refine Ab (AX (y6 (C:=C) (N:=M) (mr:=.ref T::mB) (hd:=true) (id:=id) (ex:=do let v ← eval (.Call (.Name x p) [e0] [] cp) (envOfC qual scope s0.heap.objs.size g cd);standAt pos;pure v) (by rw[Wh,hbe,Zk]) (I.ok.hd rfl) ?_))
 refine Ab (thn ?_ fun v s1 z=>Ab (AX (Ae z)));refine AF (fK I hg hm ?_ hdb);refine Ba (h₀:=base) I.ok.mod.kin xc.kp (thn (ao ha ag hst cp pins s σ H (fun vs H1=>match vs with|[v]=>∀e H',Rsd C n v H1 H' e->E (.ref e) none H'|_=>False) I h) fun us s1 zz=>?_) he rfl
 obtain⟨vs,H,I,r,h⟩:=zz;split at h
 rotate_left
 ·exact h.elim
 rename_i v
 refine⟨I.kIn,thn (uK (Q:=fun u H2=>∃e dx,u=.ref e/\H e=none/\upd H e (.ext (xφ C e none)) dx=none/\H2=upd (upd (upd H e (.ext (xφ C e none))) e (.ext (xφ C e (some dx)))) dx (.xd [(n,v)])) (dvs:=[]) (ds:=[]) xc F hr hb .nil I r (by show us.length<=_;rw[← r.length];exact CO rfl) fun e he=>⟨e,v,rfl,ay,fun dx hx=>⟨rfl,e,dx,rfl,he,hx,rfl⟩⟩) fun u s2 zz=>?_⟩
 obtain⟨w',H2,I2,rv,e,dx,rfl,he,hx,rfl⟩:=zz;obtain rfl:u=Value.ref e:=rv;have ne:e≠dx:=fun z=>by rw[← z,ay]at hx;cases hx
 have nx:H dx=none:=by rw[am (Ne.symm ne)]at hx;exact hx
 have e2:upd (upd (upd H e (.ext (xφ C e none))) e (.ext (xφ C e (some dx)))) dx (.xd [(n,v)]) e=some (.ext (xφ C e (some dx))):=by rw[am ne,ay]
 obtain⟨t,ee⟩:=(I2.hok e _ e2).1;refine⟨e,t,some dx,rfl,.mk _ _ _ _ _ _ _ _ _ _ _ _ _ (I2.kIn _ _ l),ee,y9 I2 e2 fun T' hT=>?_⟩;have a1:T'≠dx:=fun z=>by rw[z,ay]at hT;cases hT
 have a2:T'≠e:=fun z=>by rw[z,e2]at hT;cases hT
 have nT:H T'=none:=by rw[am a1,am a2,am a2]at hT;exact hT
 refine h e _ ⟨he,⟨dx,T',a2,nx,nT,?_,?_,?_⟩,fun b o z=>?_⟩
 ·unfold two;rw[am (Ne.symm a2),ay]
 ·unfold two;rw[am (Ne.symm a1),am (Ne.symm ne),ay]
 ·unfold two;rw[ay]
 ·have n1:b≠e:=fun q=>by rw[q,he]at z;cases z
  have n2:b≠dx:=fun q=>by rw[q,nx]at z;cases z
  have n3:b≠T':=fun q=>by rw[q,nT]at z;cases z
  unfold two;rw[am n3,am n1,am n2,am n1,am n1];exact z
end
section
variable {M:Model}{A:Around}{X:Value->Shared->Prop}{S:Shared}{base:Heap}{en:Env}{outer:List Env}{L e C dx T:Addr}
theorem Fn{Q:Unit->Shared->Prop}(fr:A.frames=some (en::outer))(ff:S.heap.FunFrames base (en::outer))(hf:en.frame=some L)(x:X1 S.heap e C dx T .none)(hT:T∉frs (en::outer))
  (q:∀H T',Kn (frs (en::outer)) ([T]++[e]) S.heap H->S.heap.objs.size<=T'->X1 H e C dx T' .none->(∃o ts,H.get? T=some o/\o.data=.fields ts/\ts[3]?=some .none)->Q () { S with heap:=H }):wpAny M A (leaving en (.ref e)) Q X S:=by
 unfold leaving;refine Ab (Dj fr ff hf x hT fun H T' k z x' old=>?_);obtain⟨o,ts,t1,t2,t3⟩:=x.tb;have lT:=Ah t1;have nT:T≠T':=Qe (Wb lT z);refine land (S:={ S with heap:=H }) (fs:=frs (en::outer)) x' fun H2 k2 x2=>q H2 T' ⟨fun b o n1 n2 w=>?_,fun b o n1 n2 w=>?_,Qc k.size k2.size⟩ z x2 ?_
 ·refine k2.keep b o n1 (fun m=>?_) (k.keep b o n1 n2 w);rw[Vb.mp m]at w;exact absurd (Ah w) (Bv z)
 ·obtain⟨sl',w1⟩:=k.slot b o n1 n2 w;refine k2.slot b { o with slots:=sl' } n1 (fun m=>?_) w1;rw[Vb.mp m]at w;exact absurd (Ah w) (Bv z)
 ·obtain⟨o',ts',w1,w2,w3⟩:=old;exact⟨o',ts',k2.keep T o' hT (fun m=>nT (Vb.mp m)) w1,w2,w3⟩
end
section
variable {P:Program}{w:World}{K:Frag}{mg:Str->Option Value}{base:Heap}{N:List Str}{qual:Str}{scope:Scope}{f:Addr}{cd:Value}{A:Around}{outer:List Env}{s0 s:Shared}{H0 H:Hp}{E:XK}{pins:List (Addr×Obj)}{σ:L2.St}{C e dx T:Addr}
theorem zb(I:L2.Inv (b9 (CXF P w) P w K mg base N qual scope f cd A outer s0 H0 E) pins σ H s)(ea:H e=some (.ext (yφ C e dx T)))(eT:H T=some (.ext (tφ T .none)))(ne:T≠e)(q:∀T',H T'=none->E (.ref e) none (two H C e dx T' .none)) :
  (b9 (CXF P w) P w K mg base N qual scope f cd A outer s0 H0 E).xe (.ref e) s:=by
 refine Fn I.ok.frames I.stack rfl ⟨(I.hok e _ ea).1,ne,(I.hok T _ eT).1⟩ (fun m=>by rw[I.stkFree T m]at eT;cases eT) fun h' T' k z x old=>?_
 have J:=pO I k ⟨_,ea⟩ (.inr z) (fun b m=>?_) x
 ·exact⟨e,_,rfl,J.os,J.bare,J.base,J.hok,q T' (I.hok.fresh z)⟩
 ·rcases Vf.mp m with m|m
  ·rw[Vb.mp m];exact .inr (.inr ⟨_,eT,old,let ⟨o,_,z,_⟩:=old;⟨o,z⟩⟩)
  ·exact .inl (Vb.mp m)
def tXD(sp:Sp)(ta:TA)(E:XK):TS:=fun D σ H=>ta σ H fun vs H1=>sp vs H1 (fun _ H2=>D.nx σ H2) fun u _ H2=>∃a C dx T,u=.ref a/\T≠a/\H2 a=some (.ext (yφ C a dx T))/\H2 T=some (.ext (tφ T .none))/\∀T',H2 T'=none->E (.ref a) none (two H2 C a dx T' .none)
theorem wP{x:Str}{k k':Nat}{ps:List Str}{sp:Sp}{e0:Expr}{es:List Expr}{t:TA}{p cp pos:Pos}(Cg:CalG P w K mg base x k ps sp)(hr:Room k' (A.deeper (envOfC qual scope s0.heap.objs.size f cd)))(hg:Gl (b9 (CXF P w) P w K mg base N qual scope f cd A outer s0 H0 E) x)(ha:PA (b9 (CXF P w) P w K mg base N qual scope f cd A outer s0 H0 E) (e0::es) t)
  (hk:k<=k':=by decide)(hdb:(x == ("__debug__":Str))=false:=by decide)(he:starEach (e0::es) (b9 (CXF P w) P w K mg base N qual scope f cd A outer s0 H0 E).env=(false,eval e0 (b9 (CXF P w) P w K mg base N qual scope f cd A outer s0 H0 E).env)::starEach es (b9 (CXF P w) P w K mg base N qual scope f cd A outer s0 H0 E).env:=by rfl)(hpl:(backTo cp (starEach es (b9 (CXF P w) P w K mg base N qual scope f cd A outer s0 H0 E).env)).any (·.1)=false:=by rfl)
  (hs:swapsWith (.Call (.Name x p) (e0::es) [] cp) none pos.line (b9 (CXF P w) P w K mg base N qual scope f cd A outer s0 H0 E).env=pure false:=by rfl) :
  PS (b9 (CXF P w) P w K mg base N qual scope f cd A outer s0 H0 E) (.Expr (.Call (.Name x p) (e0::es) [] cp) pos) (tXD sp t E):=by
 intro pins s σ H D I h;obtain⟨f',fd,F,hm,hkp,hb⟩:=Cg.ex;refine Cn (AF (fK I hg hm ?_ hdb)) I.quiet hs;refine Ba (h₀:=base) I.ok.mod.kin hkp (thn (ha cp pins s σ H _ I h) fun us s1 zz=>?_) he hpl;obtain⟨vs,H1,I1,r,q⟩:=zz;refine⟨I1.kIn,Aq (Dk F (hr.mono hk) hb I1 r q) (fun u s2 zz=>?_) fun u s2 zz=>?_⟩
 ·obtain⟨v,H2,I2,rv,q2⟩:=zz;exact⟨σ,H2,I2,q2⟩
 ·obtain⟨a,H2,rfl,I2,b,C',dx',T',w',ne,ea,eT,q2⟩:=zz;cases w';exact zb I2 ea eT ne q2
end
end VX
namespace VX
open PySem PySem.Spec PySem.W PyProof.Rows L2 VF
inductive Oy where
 | o (x:Ot)|x (v:Option Str)
abbrev FY:=En->Option Oy
def OutY(K:Frag)(C:Addr)(n:Str)(E:XK)(Z O:AS)(H:Hp)(st:En)(σ:L2.St)(Dn:Ends):Oy->Prop
 | .o o=>Out K Z O H st σ Dn o
 | .x v=>∀H1 O1 e H',Ext O H O1 H1->Rsd C n (oV v) H1 H' e->E (.ref e) none H'
def RdY(K:Frag)(C:Addr)(n:Str)(E:XK)(t:TS)(F:FY):Prop:=∀(st:En)(σ:L2.St)(H:Hp)(O Z:AS)(Dn:Ends),ER K st σ H O Z->∀r,F st=some r->OutY K C n E Z O H st σ Dn r->t Dn σ H
def spH(K:Frag)(c n:Str)(R:List D->Option (Option Str))(g:List D->Option Rz):Sp:=fun vs H Q E=>spV K g vs H Q E∨∃Z ds x C,El K Z H vs ds/\(∀p,Z p->Lv H p)/\R ds=some x/\nsIn K mainGlobals c=some (some (.ref C))/\∀e H',Rsd C n (oV x) H H' e->E (.ref e) none H'
def yOf(F:FS):FY:=fun st=>(F st).bind fun o=>some (.o o)
def lC(F G:FY):FY:=fun st=>(F st).bind fun r=>match r with
 | .o (.nx s)=>G s
 | r=>some r
def yIf(f:FT)(F G:FY):FY:=fun st=>(f st).bind fun x=>if x.1=true then F x.2 else G x.2
def unS:D->Option (Option Str)
 | .str x=>some (some x)
 | .non=>some none
 | _=>none
def lD(fe:FE):FY:=fun st=>(fe st).bind fun x=>(cont x.2 x.1).bind fun d=>(unS d).bind fun v=>some (.x v)
def nC(R:List D->Option (Option Str))(g:List D->Option Rz)(fa:FA):FY:=fun st=>(fa st).bind fun x=>(bz x.1 x.2).bind fun y=>match R y.1 with
 | some v=>some (.x v)
 | none=>(cP (cO g fa) st).bind fun o=>some (.o o)
def unY(F:FY):FS:=fun st=>(F st).bind fun r=>match r with
 | .o o=>some o
 | .x _=>none
def gn(F:FY)(n m:Nat):List D->Option (Option Str):=fun ds=>if ds.length=m then(F (eZ n ds)).bind fun r=>match r with
 | .o _=>none
 | .x v=>some v else none
section
variable {K:Frag}{C:Addr}{c n:Str}{E:XK}{t u:TS}{F G:FY}
theorem OutY.trans{Z O O1:AS}{H H1:Hp}{st st1:En}{σ σ1:L2.St}{Dn:Ends}{r:Oy}(h:OutY K C n E Z O H st σ Dn r)(x:Ext O H O1 H1)(k:Kq st σ st1 σ1):OutY K C n E Z O1 H1 st1 σ1 Dn r:=by
 cases r with
 | o o=>exact Out.trans (show Out K Z O H st σ Dn o from h) x k
 | x v=>exact fun H2 O2 e H' x2=>h H2 O2 e H' (x.trans x2)
theorem lE{F:FS}(h:RdS K t F):RdY K C n E t (yOf F):=by
 intro st σ H O Z Dn E' r e q;refine bsO e fun o e1 e=>?_;cases e;exact h st σ H O Z Dn E' o e1 q
theorem jM(h1:RdY K C n E t F)(h2:RdY K C n E u G):RdY K C n E (xW t u) (lC F G):=by
 intro st σ H O Z Dn E' r e q;refine bsO e fun o1 e1 e=>?_;refine h1 st σ H O Z _ E' o1 e1 ?_;cases o1 with
 | x v=>cases e;exact q
 | o o =>
  cases o with
  | nx s=>exact fun σ1 H1 O1 x1 k1 E1=>h2 s σ1 H1 O1 Z Dn E1 r e (q.trans x1 k1)
  | bk s=>cases e;exact q
  | ct s=>cases e;exact q
  | rt r s=>cases e;exact q
theorem GX{tc:TT}{f:FT}(hc:RdT K tc f)(h1:RdY K C n E t F)(h2:RdY K C n E u G):RdY K C n E (DG tc t u) (yIf f F G):=by
 intro st σ H O Z Dn E' r e q;refine bsP e fun b st1 e1 e=>hc st σ H O Z _ E' b st1 e1 fun H1 O1 x1 k1 E1=>?_;cases b with
 | true=>exact h1 st1 σ H1 O1 Z Dn E1 r e (q.trans x1 k1.kq)
 | false=>exact h2 st1 σ H1 O1 Z Dn E1 r e (q.trans x1 k1.kq)
theorem Fo{Y:AS}{H:Hp}{w:V}{d:D}{v:Option Str}(h:BA K Y H w d)(e:unS d=some v):w=oV v:=by
 cases d with
 | str x=>cases e;exact h
 | non=>cases e;exact h
 | _=>cases e
theorem wQ{te:TE}{fe:FE}(h:RdE K te fe):RdY K C n E (tR1 C n te E) (lD fe):=by
 intro st σ H O Z Dn E' r e q;refine bsP e fun r1 st1 e1 e=>bsO e fun d e2 e=>bsO e fun v e3 e=>?_;cases e;refine h st σ H O Z _ E' r1 st1 e1 fun w H1 O1 x1 k1 E1 rv _ a H' z=>?_;have ew:=Fo (rv.ba E1 e2) e3;subst ew;exact q H1 O1 a H' x1 z
theorem Rsd.back{v:V}{O O1:AS}{H H1 H':Hp}{e:Addr}(z:Rsd C n v H1 H' e)(x:Same H H1):Rsd C n v H H' e:=by
 have no:∀b,H1 b=none->H b=none:=fun b h=>by
  cases w:H b with
  | none=>rfl
  | some o=>rw[x b o w]at h;cases h
 obtain⟨dx,T,a1,a2,a3,a4,a5,a6⟩:=z.obj;exact⟨no _ z.new,⟨dx,T,a1,no _ a2,no _ a3,a4,a5,a6⟩,fun b o w=>z.old b o (x b o w)⟩
theorem pP{R:List D->Option (Option Str)}{g:List D->Option Rz}{ta:TA}{fa:FA}{E':Hp->XK}(ha:RdA K ta fa):RdE K (fun σ H Q=>ta σ H fun vs H1=>spH K c n R g vs H1 Q (E' H1)) (cO g fa):=by
 intro st σ H O Z Q E r0 st' h q;refine bsP h fun rs st1 e1 h=>bsP h fun ds st2 e2 h=>bsO h fun z e3 h=>?_;cases h;refine ha st σ H O Z _ E rs st1 e1 fun vs H1 O1 x1 k1 E1 rvs=>?_;obtain⟨O2,x2,k2,E2,el⟩:=rvs.esc E1 e2;refine .inl ⟨U O2 Z,ds,z,el,E2.liv,e3,fun v H3 s hres=>?_⟩;obtain⟨E3,rv3⟩:=hres.rv E2 s;exact q v H3 O2 ((x1.trans x2).trans (Same.ext s)) (k1.trans k2) E3 rv3 (hres.fsh.back (x1.trans x2))
theorem zc{R:List D->Option (Option Str)}{g:List D->Option Rz}{ta:TA}{fa:FA}(hC:nsIn K mainGlobals c=some (some (.ref C)))(ha:RdA K ta fa):RdY K C n E (tXD (spH K c n R g) ta E) (nC R g fa):=by
 intro st σ H O Z D E' r h q;refine bsP h fun rs st1 e1 h=>bsP h fun ds st2 e2 h=>?_;dsimp only at h;cases w:R ds with
 | some v =>
  rw[w]at h;cases h;refine ha st σ H O Z _ E' rs st1 e1 fun vs H1 O1 x1 k1 E1 rvs=>?_;obtain⟨O2,x2,k2,E2,el⟩:=rvs.esc E1 e2;refine .inr ⟨U O2 Z,ds,v,C,el,E2.liv,w,hC,fun e H' z=>?_⟩;obtain⟨dx,T,a1,a2,a3,a4,a5,a6⟩:=z.obj;refine⟨e,C,dx,T,rfl,a1,a4,a6,fun T' nT=>q H1 O2 e _ (x1.trans x2) ?_⟩;have n1:T'≠e:=fun w=>by rw[w,a4]at nT;cases nT
  have n2:T'≠dx:=fun w=>by rw[w,a5]at nT;cases nT
  have n3:e≠dx:=fun w=>by rw[w,a5]at a4;cases a4
  have old:∀b o,H1 b=some o->two H' C e dx T' .none b=some o:=fun b o w=>by
   have w1:b≠e:=fun w'=>by rw[w',z.new]at w;cases w
   have w2:b≠T':=fun w'=>by rw[w']at w;rw[z.old _ _ w]at nT;cases nT
   unfold two;rw[am w2,am w1];exact z.old b o w
  refine⟨z.new,⟨dx,T',n1,a2,?_,?_,?_,?_⟩,old⟩
  ·cases w':H1 T' with
   | none=>rfl
   | some o=>rw[z.old _ _ w']at nT;cases nT
  ·unfold two;rw[am (Ne.symm n1),ay]
  ·unfold two;rw[am (Ne.symm n2),am (Ne.symm n3)];exact a5
  ·unfold two;rw[ay]
 | none =>
  rw[w]at h;refine bsO h fun o e3 h=>?_;cases h;exact bX (pP (R:=R) ha) st σ H O Z D E' o e3 q
theorem GY(h:RdY K C n E t F):RdS K t (unY F):=by
 intro st σ H O Z Dn E' o e q;refine bsO e fun r e1 e=>?_;cases r with
 | o o'=>cases e;exact h st σ H O Z Dn E' _ e1 q
 | x v=>cases e
theorem wR{N:List Str}{m:Nat}{vs:List V}{H:Hp}{Q:VK}(hC:nsIn K mainGlobals c=some (some (.ref C)))(h:RdY K C n E t F)(sp:spH K c n (gn F N.length m) (bq (unY F) N.length m) vs H Q E):t { nx:=fun _ H'=>Q .non H',rt:=Q } (L2.start N vs) H:=by
 rcases sp with sp|⟨Z,ds,x,C',el,lv,e,hC',q⟩
 ·exact rX (GY h) sp
 ·have hm:ds.length=m:=by
   by_cases hm:ds.length=m
   ·exact hm
   ·simp only[gn,Ag hm]at e;cases e
  simp only[gn,Ad hm]at e;refine bsO e fun r e1 e=>?_;cases r with
  | o o=>cases e
  | x v =>
   cases e;rw[hC]at hC';cases hC';exact h _ _ H _ Z _ (pi el lv) _ e1 fun H1 O1 e H' x1 z=>q e H' (z.back (O:=fun _=>False) (O1:=O1) fun b o w=>x1.kp b o w fun z=>z)
end
section
variable {P:Program}{w:World}{K:Frag}{mg:Str->Option Value}{base h:Heap}{x c n:Str}{st:Stmt}{N ps:List Str}{k:Nat}{F:FY}{C:Addr}
abbrev BdY(P:Program)(w:World)(K:Frag)(mg:Str->Option Value)(base:Heap)(x n:Str)(C:Addr)(st:Stmt)(N:List Str)(k:Nat)(F:FY):Prop :=
 ∀{f:Addr}{cdv:Value}{A:Around}{outer:List Env}{s:Shared}{H:Hp}{E:XK},Room k (A.deeper (envOfC x (ar st) s.heap.objs.size f cdv))->∃t,PSs (b9 (CXF P w) P w K mg base N x (ar st) f cdv A outer s H E) (cg st) t/\RdY K C n E t F
theorem GZ{m a:Nat}{vs:List V}{H:Hp}{Q:VK}{E:XK}(sp:spH K c n (gn F a m) (bq (unY F) a m) vs H Q E):vs.length=m:=by
 rcases sp with sp|⟨Z,ds,x,C',el,_,e,_⟩
 ·exact yr sp
 ·by_cases hm:ds.length=m
  ·exact el.1.trans hm
  ·simp only[gn,Ag hm]at e;cases e
theorem Do(hC:nsIn K mainGlobals c=some (some (.ref C)))(h':FH K x st)(X:K.In h)(G:h.Ns mainGlobals mg)(S:FnScope N ps (ar st))(hb:Bn x st ps)(hB:BdY P w K mg base x n C st N k F):CalG P w K mg base x (k+1) ps (spH K c n (gn F N.length ps.length) (bq (unY F) N.length ps.length)):=by
 obtain⟨f,fd,F',a⟩:=h'.ex;refine⟨f,fd,?_,Au X G a,F'.kp,F'.binds hb⟩;obtain⟨oc,od,kV,doc,pm,an,cdv,ct,osl,rfl,lk,hcd⟩:=F'.ex;refine zU lk hcd S (fun vs H Q E h=>GZ h) fun A outer s H vs Q E hr hsp=>?_;obtain⟨t,h1,h2⟩:=hB hr;exact⟨_,h1,wR hC h2 hsp⟩
theorem CalG.plain{R:List D->Option (Option Str)}{g:List D->Option Rz}(h:CalG P w K mg base x k ps (spH K c n R g)):Cal P w K mg base x k ps (spV K g):=by
 obtain⟨f,fd,F,a,b,d⟩:=h.ex;refine⟨f,fd,⟨fun vs H Q E h=>F.len vs H Q E (.inl h),fun A outer s H args us vs Q E hr he hb hv hs=>AH (F.run A outer s H args us vs Q (fun _ _ _=>False) hr he hb hv (.inl hs)) fun r s' z=>?_⟩,a,b,d⟩;cases r with
 | error e=>obtain⟨_,_,_,_,_,_,_,z⟩:=z;exact z.elim
 | ok fl=>cases fl<;>exact z
end
end VX
namespace VX
open PySem PySem.Spec PySem.W PyProof.Rows L2 VF
section
variable {X:Cx}{C T f:Addr}{id ii sa ow B:String}{mB:List Value}
theorem wS{x:Str}{k k':Nat}{ps:List Str}{sp:Sp}{e:Expr}{es:List Expr}{t:TA}{p cp pos:Pos}(Cg:CalG X.prog X.w X.K X.mg X.base x k ps sp)(hr:Room k' X.A)(hg:Gl X x)(ha:PA X.nox (e::es) t)
  (hk:k<=k':=by decide)(hdb:(x == ("__debug__":Str))=false:=by decide)(he:starEach (e::es) X.env=(false,eval e X.env)::starEach es X.env:=by rfl)(hpl:(backTo cp (starEach es X.env)).any (·.1)=false:=by rfl)
  (hs:swapsWith (.Call (.Name x p) (e::es) [] cp) none pos.line X.env=pure false:=by rfl) :
  PSx X [.Expr (.Call (.Name x p) (e::es) [] cp) pos] fun Ex D σ H=>t σ H fun vs H1=>sp vs H1 (fun _ H2=>D.nx σ H2) fun u _ H2=>∃a,u=.ref a/\Ex a H2:=by
 intro pins s σ H D Ex I h;obtain⟨f,fd,F,hm,hkp,hb⟩:=Cg.ex;refine Ca (Cn (AF (fK I hg hm ?_ hdb)) I.quiet hs);refine Ba (h₀:=X.base) I.ok.mod.kin hkp (Aq (ha cp pins s σ H _ (I.wish _) h) (fun us s1 zz=>?_) fun _ _ z=>False.elim z) he hpl;obtain⟨vs,H1,I1,r,q⟩:=zz;refine⟨I1.unwish.kIn,Aq (Dk F (hr.mono hk) hb I1.unwish r q) (fun u s2 zz=>?_) fun u s2 zz=>?_⟩
 ·obtain⟨v,H2,I2,rv,q2⟩:=zz;exact A1 ⟨_,H2,I2,q2⟩
 ·obtain⟨a,H2,rfl,I2,b,w,q2⟩:=zz;cases w;exact⟨a,H2,rfl,I2,q2⟩
theorem zd(i:Nat){body bs:List Stmt}{b0:Stmt}{x n:Str}{cS:Addr}{p hp pos:Pos}{tb:(Addr->Hp->Prop)->TS}{th:Addr->TS}(hx:exmOne X.K (.ref C) (.ref cS)=some true)(hst:X.stack=X.env::X.outer)(hfr:X.env.frame=some X.env.locals)
  (hb:PSx X body tb)(hg:Gl X x)(hm:X.mg x=some (.ref cS))(hN:X.N.Nodup)(hh:∀a,PSs (mkd X (.ref a)) (b0::bs) (th a))(hi:X.N[i]?=some n:=by rfl)(hl:X.env.scope.names.lookup n=some .local:=by rfl)(hdb:(x == ("__debug__":Str))=false:=by decide) :
  PS X (.Try body [.ExceptHandler (some (.Name x p)) (some n) (b0::bs) hp] [] [] pos) (GV C i tb th):=by
 intro pins s σ H D I h;refine wpAny_Try_except (Aq (hb pins s σ H D _ I h) (fun f s1 q=>?_) fun v s1 z=>?_)
 ·cases f with
  | next=>exact A1 q
  | _=>exact q
 obtain⟨a,H',rfl,I1,dx,T,ne,ea,eT,q⟩:=z;have fr:=I1.ok.frames;have sk:=I1.stack;have sf:=I1.stkFree;rw[hst]at fr sk sf;refine Dj fr sk hfr ⟨(I1.hok a _ ea).1,ne,(I1.hok T _ eT).1⟩ (fun m=>by rw[sf T m]at eT;cases eT) fun h1 T' k1 z1 x1 old=>?_
 rw[← hst]at k1;have J1:=pO I1 k1 ⟨_,ea⟩ (.inr z1) (fun b m=>?_) x1
 ·have nT:H' T'=none:=I1.hok.fresh z1;have eA:∀fl,two H' C a dx T' fl a=some (.ext (yφ C a dx T')):=fun fl=>by unfold two;rw[am (Ne.symm x1.ne),ay]
  refine land (S:={ s1 with heap:=h1 }) (fs:=frs X.stack) x1 fun h2 k2 x2=>?_;have J2:=pO J1 k2 ⟨_,eA _⟩ (.inl ⟨_,ay⟩) (fun b m=>.inr (.inl (Vb.mp m))) x2;rw[sU]at J2;refine wpAny_handleBy_cons (codeAny_handlers_test (fK (X:=mkd X (.ref a)) (wM J2) hg hm ?_ hdb)) (by intro q;cases q)
  obtain⟨vs,sl,ee,_⟩:=x2.ex;refine(exm_one J2.kIn ((Looks.ld ee).andThen .now) hx).here (codeAny_handlers_suite_as ?_);refine land (S:={ s1 with heap:=h2 }) (fs:=frs X.stack) x2 fun h3 k3 x3=>?_;have J3:=pO J2 k3 ⟨_,eA _⟩ (.inl ⟨_,ay⟩) (fun b m=>.inr (.inl (Vb.mp m))) x3;rw[sU]at J3;refine oW (X:=mkd X (.ref a)) (v:=.ref a) (wM J3) hN hi (.inl hl) rfl (fun s4 I4=>?_) (.inr hl);refine Aq (hh a pins s4 _ _ _ I4 (q T' nT)) (fun f s5 z=>?_) fun _ _ z=>z.elim;cases f with
  | next =>
   obtain⟨σ',H2,I5,q5⟩:=z;exact gone (za I.ok I5) hN hi hl fun s6 I6=>⟨_,H2,I6,q5⟩
  | ret u=>obtain⟨_,_,_,_,_,z⟩:=z;exact z.elim
  | brk=>obtain⟨_,_,_,z⟩:=z;exact z.elim
  | cont=>obtain⟨_,_,_,z⟩:=z;exact z.elim
 ·rcases Vf.mp m with m|m
  ·rw[Vb.mp m];exact .inr (.inr ⟨_,eT,old,let ⟨o,_,z,_⟩:=old;⟨o,z⟩⟩)
  ·exact .inl (Vb.mp m)
theorem d4{u:Str}{c:Addr}{pos:Pos}(hg:Gl X u)(hm:X.mg u=some (.ref c))(hd:(u == ("__debug__":Str))=false:=by decide):PE X (.Name u pos) (tC (.ref c)):=xU hg hm rfl hd
end
def sW(R:List D->Option (Option Str))(g:List D->Option Rz)(fa:FA)(i j:Nat)(c n:Str):FS:=fun st=>(fa st).bind fun x=>(bz x.1 x.2).bind fun y=>match R y.1 with
 | some v=>match y.2[i]? with
  | some .e=>if i=j then none else(iT j (.v (.xc c n v)) y.2).bind fun s'=>some (.nx s')
  | _=>none
 | none=>cP (cO g fa) st
section
variable {K:Frag}{C:Addr}{c n:Str}{R:List D->Option (Option Str)}{g:List D->Option Rz}{ta:TA}{fa:FA}{i j:Nat}
theorem wT{st:En}{σ:L2.St}{H:Hp}{O Z:AS}{v:Option V}(E:ER K st σ H O Z)(e:st[i]?=some Sl.e):ER K st (σ.set i v) H O Z:=by
 have ne:∀(k:Nat)(s:Sl),st[k]?=some s->s≠Sl.e->(σ.set i v)[k]?=σ[k]?:=fun k s h hs=>Zj fun w=>by
  rw[← w,e]at h;cases h;exact hs rfl
 have no:∀(s:Sl) d,s.ow=some d->s≠Sl.e:=fun s d h w=>by rw[w]at h;cases h
 refine⟨by simpa using E.len,fun k d h=>?_,fun k s d h o=>?_,fun k l s t d d' p h1 o1 h2 o2 z1 z2=>?_,E.dis,E.liv⟩
 ·rw[ne k _ h nofun];exact E.val k d h
 ·rw[ne k s h (no s d o)];exact E.own k s d h o
 ·rw[ne k s h1 (no s d o1)]at z1;rw[ne l t h2 (no t d' o2)]at z2;exact E.uni k l s t d d' p h1 o1 h2 o2 z1 z2
theorem ze(hC:nsIn K mainGlobals c=some (some (.ref C)))(ha:RdA K ta fa):RdS K (GV C i (fun Ex D σ H=>ta σ H fun vs H1=>spH K c n R g vs H1 (fun _ H2=>D.nx σ H2) fun u _ H2=>∃a,u=.ref a/\Ex a H2) fun _=>qg (kM i) (jV j)) (sW R g fa i j c n):=by
 intro st σ H O Z D E o e q;refine bsP e fun rs st1 e1 e=>bsP e fun ds st2 e2 e=>?_;dsimp only at e;cases w:R ds with
 | none =>
  rw[w]at e;exact bX (pP (R:=R) ha) st σ H O Z D E o e q
 | some v =>
  rw[w]at e;dsimp only at e;refine ha st σ H O Z _ E rs st1 e1 fun vs H1 O1 x1 k1 E1 rvs=>?_;obtain⟨O2,x2,k2,E2,el⟩:=rvs.esc E1 e2;refine .inr ⟨U O2 Z,ds,v,C,el,E2.liv,w,hC,fun a H' z=>⟨a,rfl,?_⟩⟩;obtain⟨dx,T,ne,nx,nT0,ea,ex,eT⟩:=z.obj;refine⟨dx,T,ne,ea,eT,fun T' nT=>?_⟩;split at e
  ·rename_i ei
   by_cases ij:i=j
   ·rw[Ad ij]at e;cases e
   rw[Ag ij]at e;refine bsO e fun s' e3 e=>?_;cases e;obtain⟨t,f1,f2,rfl⟩:=iU e3;have li:i<σ.length:=by rw[← E2.len];exact(Va.mp ei).1
   have n1:T'≠a:=fun w=>by rw[w,ea]at nT;cases nT
   have n2:dx≠a:=fun w=>by rw[w,ea]at ex;cases ex
   have n3:dx≠T':=fun w=>by rw[w,nT]at ex;cases ex
   have nT1:H1 T'=none:=by
    cases w':H1 T' with
    | none=>rfl
    | some o=>rw[z.old _ _ w']at nT;cases nT
   have sm2:Same H1 (two H' C a dx T' .none):=fun b o w=>by
    have w1:b≠a:=fun w'=>by rw[w',z.new]at w;cases w
    have w2:b≠T':=fun w'=>by rw[w',nT1]at w;cases w
    unfold two;rw[am w2,am w1];exact z.old b o w
   refine⟨.ref a,Yl li,?_⟩;show D.nx (((σ.set i (some (.ref a))).set j (some (.ref a))).set i none) _;have es:((σ.set i (some (V.ref a))).set j (some (.ref a))).set i none=(σ.set j (some (.ref a))).set i none:=by
    rw[List.set_comm _ _ ij,List.set_set]
   rw[es];have dead:∀b,H1 b=none->¬ U O2 Z b:=fun b hb m=>(E2.liv b m).1 hb;have da:DA K (U O2 Z) (two H' C a dx T' .none) (.ref a) (.xc c n v):=by
    refine .xc ⟨C,dx,T',hC,n1,fun b hb=>?_,?_,?_,?_⟩
    ·rcases hb with rfl|rfl|rfl
     ·exact dead _ z.new
     ·exact dead _ nx
     ·exact dead _ nT1
    ·unfold two;rw[am (Ne.symm n1),ay]
    ·unfold two;rw[am n3,am n2];exact ex
    ·unfold two;rw[ay]
   have E3:=(E2.same sm2).asg (d:=.xc c n v) (v:=.ref a) f1 da;have e4:(st2.set j (.v (.xc c n v)))[i]?=some Sl.e:=by rw[Zj (Ne.symm ij)];exact ei
   refine q _ _ O2 ((x1.trans x2).trans (Same.ext sm2)) (((k1.trans k2).kq.trans (kY f1 f2)).trans ⟨rfl,fun k d h=>⟨Zj fun w=>?_,d,h⟩⟩) (wT E3 e4);rw[← w,e4]at h;cases h
  ·cases e
def gq(b:Bool)(c:Str)(fe:FE):FE:=fun st=>(fe st).bind fun x=>match cont x.2 x.1 with
 | some (.xc c' _ _)=>if c'=c then some (.d (.bl b),x.2) else none
 | _=>none
def zf(n c:Str)(fe:FE):FE:=fun st=>(fe st).bind fun x=>match cont x.2 x.1 with
 | some (.xc c' n' (some y))=>if c'=c/\n'=n then some (.d (.str y),x.2) else none
 | _=>none
theorem d5{te:TE}{fe:FE}{b:Bool}{cv:Addr}(hC:nsIn K mainGlobals c=some (some (.ref C)))(hk:kitOne K (.ref C) (.ref cv)=some b)(h:RdE K te fe):RdE K (tCB (Dm K C) (b8 te (b8 (tC (.ref cv)) hU))) (gq b c fe):=by
 intro st σ H O Z Q E r st' e q;refine bsP e fun r1 st1 e1 e=>h st σ H O Z _ E r1 st1 e1 fun v H1 O1 x1 k1 E1 rv fs=>?_;dsimp only at e;split at e
 ·rename_i e2
  obtain⟨hc,e3⟩:=aB e;subst hc;cases e3;obtain⟨a,rfl,C',dx,T,h1,h2,h3,h4,h5,h6⟩:=rv.ba E1 e2;rw[hC]at h1;cases h1;exact⟨a,dx,T,_,b,cv,rfl,h4,h5,.inl hk,q _ H1 O1 x1 k1 E1 (.bl b) trivial⟩
 ·cases e
theorem Fp{te:TE}{fe:FE}(hC:nsIn K mainGlobals c=some (some (.ref C)))(h:RdE K te fe):RdE K (tXA C n te) (zf n c fe):=by
 intro st σ H O Z Q E r st' e q;refine bsP e fun r1 st1 e1 e=>h st σ H O Z _ E r1 st1 e1 fun v H1 O1 x1 k1 E1 rv fs=>?_;dsimp only at e;split at e
 ·rename_i e2
  obtain⟨⟨hc,hn⟩,e3⟩:=aB e;subst hc hn;cases e3;obtain⟨a,rfl,C',dx,T,h1,h2,h3,h4,h5,h6⟩:=rv.ba E1 e2;rw[hC]at h1;cases h1;exact⟨a,dx,T,_,_,rfl,h4,h5,CQ,q _ H1 O1 x1 k1 E1 (.str _) trivial⟩
 ·cases e
end
end VX
namespace VX
open PySem PySem.Spec PySem.W PyProof.Rows L2 VF
structure CalJ(P:Program)(w:World)(K:Frag)(mg:Str->Option Value)(base:Heap)(C f:Addr)(n:Str)(k:Nat):Prop where
 ex:∃fd ps,FnOk P w K mg base CX0 k f fd ps (spI C n)/\L2.Binds K fd ps []
abbrev xN:String:="ValueError.__new__"
structure Xk(K:Frag)(mg:Str->Option Value)(x n sx:Str)(C S f:Addr):Prop where
 xc:XC K C S f xN "ValueError.__init__" "object.__setattr__" "object" "ValueError" mVE
 xh:XH K C "ValueError"
 fn:findIn K (.ref C) n=some none
 aC:nsIn K mainGlobals x=some (some (.ref C))
 mC:mg x=some (.ref C)
 mS:mg sx=some (.ref S)
 hx:exmOne K (.ref C) (.ref S)=some true
theorem gY{X:Cx}{st:Stmt}{t:TS}(h:PS X.nox st t):PS X st t:=fun pins s σ H D I hw=>Aq (h pins s σ H D (I.wish _) hw) (fun _ _ q=>q.unwish) fun _ _ z=>False.elim z
theorem hVE:mVE.contains (.type "BaseException")=true:=by decide
section
variable {P:Program}{w:World}{K:Frag}{mg:Str->Option Value}{base h:Heap}{N:List Str}{qual:Str}{scope:Scope}{g:Addr}{cd:Value}{A:Around}{outer:List Env}{s0:Shared}{H0:Hp}{E:XK}{C S f:Addr}{x n sx:Str}
theorem Fq{k k':Nat}{e0:Expr}{te:TE}{p cp pos:Pos}(Y:Xk K mg x n sx C S f)(i:CalJ P w K mg base C f n k)(hr:Room k' (A.deeper (envOfC qual scope s0.heap.objs.size g cd)))(hg:Gl (b9 (CXF P w) P w K mg base N qual scope g cd A outer s0 H0 E) x)(ha:PE (b9 (CXF P w) P w K mg base N qual scope g cd A outer s0 H0 E) e0 te)(hk:k+1<=k':=by decide)(hst:noStar e0=true:=by rfl)(hdb:(x == ("__debug__":Str))=false:=by decide)
  (he:starEach [e0] (b9 (CXF P w) P w K mg base N qual scope g cd A outer s0 H0 E).env=(false,eval e0 (b9 (CXF P w) P w K mg base N qual scope g cd A outer s0 H0 E).env)::[]:=by rfl) :
  PS (b9 (CXF P w) P w K mg base N qual scope g cd A outer s0 H0 E) (.Raise (some (.Call (.Name x p) [e0] [] cp)) none pos) (tR1 C n te E):=by
 obtain⟨fd,ps,F,hb⟩:=i.ex;exact uL Y.xc hVE F (hr.mono hk) hb hg Y.mC ha hst hdb he
theorem wU{x qual n:Str}{st:Stmt}{N ps:List Str}{k:Nat}{fd:FuncData}(F:Fun K x qual st f fd)(S:FnScope N ps (ar st))(h2:ps.length=2)
  (hB:∀{cdv:Value}{A:Around}{outer:List Env}{s:Shared}{H:Hp}{E:XK},Room k (A.deeper (envOfC qual (ar st) s.heap.objs.size f cdv))->PSs (b9 CX0 P w K mg base N qual (ar st) f cdv A outer s H E).nox (cg st) (GU C n)):FnOk P w K mg base CX0 (k+1) f fd ps (spI C n):=by
 refine F.ok S (fun vs H Q E h=>?_) fun cdv A outer s H vs Q E hr h=>⟨_,hB hr,?_⟩
 ·obtain⟨e,v,rfl,_⟩:=h;exact h2.symm
 ·obtain⟨e,v,rfl,he,q⟩:=h;exact⟨.ref e,rfl,v,rfl,e,[v],rfl,CO rfl,he,v,rfl,.ref e,rfl,e,rfl,he,q⟩
theorem G0(X:K.In h)(G:h.Ns mainGlobals mg)(xc:XC K C S f xN "ValueError.__init__" "object.__setattr__" "object" "ValueError" mVE)(aC:nsIn K mainGlobals x=some (some (.ref C)))(aS:nsIn K mainGlobals sx=some (some (.ref S)))
  (ga:findIn K (.ref C) "__getattribute__"=some (some (.builtin "BaseException.__getattribute__")))(gt:findIn K (.ref C) "__getattr__"=some none)(hd:hasDictIn K C=true)(ca:findIn K (.ref C) "__class__"=some (some (.builtin "object.__class__")))
  (cn:specialIn K (.builtin "object.__class__") "__get__"=some (some (.builtin "getset_descriptor.__get__"))) (ck:takesIn K (.builtin "object.__class__")=some true) (cm:mroIn K C (.type "object")=some true) (fn:findIn K (.ref C) n=some none) (hx:exmOne K (.ref C) (.ref S)=some true):Xk K mg x n sx C S f :=
 ⟨xc,⟨PySem.F.attr_ValueError,ga,gt,hd,ca,cn,ck,cm⟩,fn,aC,mg_of X G aC,mg_of X G aS,hx⟩
end
end VX
namespace VF22
open PySem PySem.Spec PyProof.Rows L2 VF
section
variable {t:Bool}{P:Program}{w:World}{A:Around}{E:Value->Shared->Prop}{s:Shared}
theorem wV{T newId:String}{self a:Value}{rest:List Value}{kw:List (Str×Value)}(hl:typeLookup (.type T) "__init__"=pure (some (.builtin "object.__init__")))(hm:Bind.madeBy (.type T)=pure (some newId))(hne:(some newId != some "object.__new__")=true) :
  Meets (Builtin.«object.__init__» ⟨self::a::rest,kw⟩) (fun _ R s=>s.TypeIs self T/\R (.ok (.ret .none)) s):=by
 refine .of_wp fun prog w A R s hs=>?_;obtain⟨hT,hq⟩:=hs
 repeat (any_goals (first|assumption|wp_step))
 exact⟨_,rfl,hq⟩
theorem wW{T newId:String}{Bn:Builtin}{a:Value}{rest:List Value}{kw:List (Str×Value)}{S:PySem.Spec}{Q:Value->Shared->Prop}(ft:TypeCalled T newId "object.__init__")(hne:(some newId != some "object.__new__")=true)(hct:checkTypeCall T ⟨a::rest,kw⟩=pure ())(hcn:checkBuiltinCall newId ⟨.type T::a::rest,kw⟩=pure ())
  (hok:∀obj,argsOk "object.__init__" ⟨obj::a::rest,kw⟩)(en:entryFor table newId=some Bn)(g:Meets (Bn ⟨.type T::a::rest,kw⟩) S)(h:S A.in1 (wants (fun obj s₁=>s₁.TypeIs obj T/\Q obj s₁) E) s):wpAny (model P w) A (call (.type T) (a::rest) kw) Q E s:=by
 obtain⟨c,tl,hmro⟩:=ft.mro;have hmade:=ft.made;have hsub:=ft.sub;have h1:=ft.notType;have h2:=ft.canCreate;refine Ck (codeAny_of_tree ?_);show wpAny _ _ (callAny (.type T) _) _ _ _;refine Ae ⟨B1 _ (by decide +kernel),codeAny_builtin F.entry_type_call ?_⟩
 rw[Around.under_plain (weight_type_call_type T (a::rest) kw) (units_type_call_type T (a::rest) kw)]
 repeat (any_goals (first|assumption|wp_step))
 refine AH (AI ft.plain en (wpAny_of_eq hcn (g P w A.in1 _ s h))) fun r s₁ hr=>?_;cases r with
 | error e=>exact hr
 | ok fl =>
  cases fl with
  | ret obj =>
   obtain⟨hT,hq⟩:=hr;have hli:=ft.init.lookup;have hbi:=ft.init.bind obj
   repeat (any_goals (first|assumption|wp_step))
   refine AH (AI ft.init.plain F.entry_object_init (ft.init.check _ _ _ _ _ _ _ _ hT (hok obj) (wV ft.init.lookup ft.made hne P w A.in1 (wants (fun r s₂=>r=.none/\Q obj s₂) E) s₁ ⟨hT,rfl,hq⟩))) fun r₂ s₂ hr₂=>?_;cases r₂ with
   | error e=>exact hr₂
   | ok fl₂ =>
    cases fl₂ with
    | ret r =>
     obtain⟨rfl,hq⟩:=hr₂
     repeat (any_goals (first|assumption|wp_step))
    | _=>exact hr₂.elim
  | _=>exact hr.elim
abbrev eE1(t:Bool)(h:Heap)(l:Addr):Heap:=(zA t h l).push { cls:=.type "enumerate",data:=.fields #[.none,.bool false,.ref h.objs.size,rawInt 1,.none,.none] }
theorem qQ(t:Bool)(l:Addr)(xs:Array Value)(tk:Nat):Meets (Builtin.«enumerate.__new__» ⟨[.type "enumerate",.ref l],[(Str.ofString "start",.int 1 tk)]⟩) (fun _ R s=>So t s.heap l xs/\R (.ok (.ret (.ref (zA t s.heap l).objs.size))) { s with heap:=eE1 t s.heap l }) :=
 .of_wp fun prog w A R s h=>by
  obtain⟨hp,g,d,tk,os⟩:=s;obtain⟨v1,q⟩:=h;have hsub:=sub_enumerate;have L1:So t (Shared.heap ⟨hp,g,d,tk,os⟩) l xs:=v1;obtain⟨⟨c0,d0,dt0,sl0⟩,ho,hc0,n0,hd0⟩:=id v1;replace hc0:c0=.type (SqN t):=hc0;replace hd0:dt0=.seq xs n0:=hd0;subst hc0 hd0;cases t with
  | false =>
   wp_walk using Al ho
   refine BH fun z=>Ae ?_;split
   ·rename_i u _ _ _ _ _
    cases (u == Value.type "enumerate")<;>(wp_walk using Al ho,eO L1;exact⟨_,rfl,q⟩)
   ·wp_walk using Al ho,eO L1
    exact⟨_,rfl,q⟩
  | true =>
   wp_walk using Al ho
   refine BH fun z=>Ae ?_;split
   ·rename_i u _ _ _ _ _
    cases (u == Value.type "enumerate")<;>(wp_walk using Al ho,eO L1;exact⟨_,rfl,q⟩)
   ·wp_walk using Al ho,eO L1
    exact⟨_,rfl,q⟩
end
end VF22
namespace VF22
open PySem PySem.Spec PyProof.Rows L2 VF
section
variable {M:Model}{t:Bool}{P:Program}{w:World}{A:Around}{E:Value->Shared->Prop}{s:Shared}{env:Env}
theorem G1{pos:Pos}{T:String}{e:Expr}{kws:List Keyword}{Q:Value->Shared->Prop}
  (h:wpAny M A (spliced (backTo pos (starEach [e] env))) (fun vs s₁=>wpAny M A (evalAll ((backToKw pos (keywordEach kws env)).map (·.2))) (fun kvs s₂=>wpAny M A (call (.type T) vs (((backToKw pos (keywordEach kws env)).filterMap (·.1)).zip kvs)) Q E s₂) E s₁) E s)
  (he:backTo pos (starEach [e] env)=[(false,eval e env)]) (hall:(backToKw pos (keywordEach kws env)).all (·.1.isSome)=true) (hkw:(backToKw pos (keywordEach kws env)).any (·.1.isNone)=false) :
  wpAny M A (callWith pos (.type T) [] (backTo pos (starEach [e] env)) (backToKw pos (keywordEach kws env))) Q E s:=by
 rw[he]at h ⊢;unfold callWith;refine Ab (AD (Aq (evalArgs_kwB (Q:=fun a s₁=>wpAny M A (call (.type T) a.pos a.kw) Q E s₁) hall h) (fun a s₁ h₁=>Ab (AX ?_)) fun _ _ x=>x));simp only[Ql,List.any_nil,hkw,Bool.or_false];exact Ab (Ae (Ab (Aq h₁ (fun r s₂ hr=>Ab (AD (wpAny_point (Ae hr)))) fun _ _ x=>x)))
theorem qR{tk:Nat}(v1:So t s.heap l xs)
  (q:∀g,IsEnum g (s.heap.objs.size+1) s.heap.objs.size 1 .none->Io t g s.heap.objs.size l 0->(∀c o,s.heap.get? c=some o->g.get? c=some o)->Q (.ref (s.heap.objs.size+1)) { s with heap:=g }) :
  wpAny (model P w) A (call (.type "enumerate") [.ref l] [(Str.ofString "start",.int 1 tk)]) Q E s:=by
 refine wW F.called_enumerate (by decide) (by kernel_rfl) (by kernel_rfl) (fun o=>by kernel_rfl) F.entry_enumerate_new (qQ t l xs tk) ⟨v1,?_⟩
 have m1:(zA t s.heap l).objs.size=s.heap.objs.size+1:=AT ..;have g2:(eE1 t s.heap l).get? (zA t s.heap l).objs.size=some _:=Aj _ rfl;have g1:(eE1 t s.heap l).get? s.heap.objs.size=some (zI t l):=Ac _ (Aj _ rfl);show _/\_;rw[m1]at g2;rw[m1];exact⟨⟨_,g2,rfl⟩,q _ g2 ⟨_,g1,rfl,rfl⟩ fun c o e=>Ac _ (Ac _ e)⟩
end
section
variable {t:Bool}{P:Program}{w:World}{A:Around}
theorem HE{xs:Array Value}(hh:A.handled=none)(ne:l≠it):Draws P w A it [it,l] (xs.size+1) (fun j x=>∃i,j=i+1/\xs[i]?=some x) (fun j h=>∃i,j=i+1/\Io t h it l i/\So t h l xs) where
 live:=fun _ h ⟨i,_,st⟩=>(drw (P:=P) (w:=w) hh ne).live i h st
 frame:=fun _ h h' ⟨i,e,st⟩ k=>⟨i,e,(drw (P:=P) (w:=w) hh ne).frame i h h' st k⟩
 item:=fun _ s Q E hj ⟨i,e,st⟩ hQ=>(drw (P:=P) (w:=w) hh ne).item i s Q E (by lia) st fun x h1 tk hP st1 sb=>hQ x h1 tk ⟨i,e,hP⟩ ⟨i+1,by lia,st1⟩ sb
 done:=fun s Q E ⟨i,e,st⟩ hE=>(drw (P:=P) (w:=w) hh ne).done s Q E ((show i=xs.size by lia) ▸ st) hE
end
section
variable {X:Cx}{K:Aa}{t:Bool}{pins:List (Addr×Obj)}{σ:L2.St}{H:Hp}{s:Shared}{h':Heap}
def It1(K : Aa)(t : Bool)(l : Addr) : It :=
  ⟨fun i H => ∃ xs x, Sq K t H l xs ∧ xs[i]? = some x,
   fun i H v H' => ∃ p x, v = .ref p ∧ H p = none ∧ H' = upd H p (.tup [.int ((i : Int) + 1), x]) ∧ ∀ xs, Sq K t H l xs → xs[i]? = some x,
   fun i H => ∃ xs, Sq K t H l xs ∧ xs.length ≤ i⟩
def Es1(t:Bool)(e it l:Addr)(i:Nat)(h:Heap):Prop:=(∃old,IsEnum h e it ((i:Int)+1) old)/\Io t h it l i
theorem qS{x1}(ne:e≠it):Turn P w K (.Tuple es x1 ps) (It1 K t l) [e,it] e (Es1 t e it l) where
 mem:=by simp
 obj:=fun i h st b hb=>by
  obtain⟨⟨old,a1⟩,⟨o2,a2,_,d2⟩⟩:=st;have:b=e∨b=it:=by simpa using hb
  rcases this with rfl|rfl
  ·exact⟨_,a1,fun v m=>by simp at m⟩
  ·exact⟨_,a2,fun v m=>by rw[d2]at m;cases m⟩
 keep:=fun i h h' st k=>by
  obtain⟨⟨old,a1⟩,a2⟩:=st;exact⟨⟨old,k e (by simp) _ a1⟩,a2.by fun o q=>k it (by simp) o q⟩
 item:=by
  intro X hP hw hK hc i pins s σ H E I hf st hg;subst hP hw hK;obtain⟨xs,x,q1,e1⟩:=hg;obtain⟨⟨old,a1⟩,a2⟩:=st;obtain⟨its,rv,p⟩:=q1.so I;obtain⟨u,hu,ru⟩:=rv.get e1;have hn:H s.heap.objs.size=none:=I.hok.fresh (Wa _);have lt:∀b∈[e,it],b≠s.heap.objs.size:=fun b hb=>Qe <| by
   have:b=e∨b=it:=by simpa using hb
   obtain⟨o2,b2,_⟩:=id a2;rcases this with rfl|rfl
   ·exact Ah a1
   ·exact Ah b2
  have nl:=De a2 p;have nel:e≠l:=fun z=>by
   obtain⟨o,ho,hd,_⟩:=p;rw[← z,a1]at ho;cases ho;cases t<;>(injection hd with y;exact absurd y (by decide))
  have hi:i<its.toArray.size:=by
   have:=(Va.mp hu).1;simpa using this
  refine wpAny_pyNext_enum_itemD (i:=i+1) (HE (A:=X.A.in1) (I.ok.hd hc) nl) a1 ⟨i,rfl,a2,p⟩ (by lia) ne (by simp;exact⟨ne,nel⟩) fun u' g tk ⟨i',ei,hu'⟩ z1 ⟨i'',ei',st1⟩ pT _ kp=>?_
  obtain rfl:i=i':=by lia
  obtain rfl:i+1=i'':=by lia
  have eu:u'=u:=by
   have e1:its.toArray[i]?=some u:=by simpa using hu
   rw[e1]at hu';exact(Option.some.inj hu').symm
  subst eu;refine⟨_,rfl,Cj (s:={ s with heap:=g,toks:=tk+1 }) z1 fun g2 z2 sb=>?_⟩;replace sb:Heap.SameBut e g g2:=sb;have kk:∀c o,c≠e->c≠it->s.heap.get? c=some o->g2.get? c=some o:=fun c o c1 c2 q=>sb.extBut _ _ c1 (kp c o c1 c2 q);have pT2:g2.get? s.heap.objs.size=some { cls:=.type "tuple",data:=.seq #[.int ((i:Int)+1) tk,u'] }:=sb.extBut _ _ (Ne.symm (lt e (by simp))) pT
  have I1:L2.Inv X pins σ (upd H s.heap.objs.size (.tup [.int ((i:Int)+1),x])) { s with heap:=s.heap.push { cls:=.type "tuple",data:=.seq #[.int ((i:Int)+1) tk,u'] },toks:=tk+1 } :=
   I.laid (fun b o e=>Ac _ e) (Wa _) ⟨show 2<=sizeLine by decide,[.int ((i:Int)+1) tk,u'],.cons ⟨_,rfl⟩ (.cons ru .nil),⟨_,Aj _ rfl,rfl,_,rfl⟩⟩
  have ff:∀b∈[e,it],jy X pins (upd H s.heap.objs.size (.tup [.int ((i:Int)+1),x])) b:=fun b hb=>by
   obtain⟨f0,f1,f2,f3,f4,f5⟩:=hf b hb;exact⟨by rw[am (lt b hb)];exact f0,f1,f2,f3,f4,f5⟩
  have I2:L2.Inv X pins σ (upd H s.heap.objs.size (.tup [.int ((i:Int)+1),x])) { s with heap:=g2,toks:=tk+1 }:=by
   refine kC (s:={ s with heap:=s.heap.push { cls:=.type "tuple",data:=.seq #[.int ((i:Int)+1) tk,u'] },toks:=tk+1 }) (t':=tk+1) I1 ff fun c o hc q=>?_;have hc':¬ (c=e∨c=it):=fun m=>hc (by simpa using m)
   rcases Heap.get?_push_cases q with⟨rfl,rfl⟩|q
   ·exact pT2
   ·exact kk c o (fun m=>hc' (.inl m)) (fun m=>hc' (.inr m)) q
  refine⟨.ref s.heap.objs.size,_,I2,rfl,⟨_,x,rfl,hn,rfl,fun zs hz=>by rw[hz.inj I q1];exact e1⟩,?_,fun b hb=>(ff b hb).1⟩
  exact⟨⟨_,by rw[Int.natCast_add];exact z2⟩,st1.1.by fun o q=>sb.extBut _ o (Ne.symm ne) q⟩
 done:=by
  intro X hP hw hK hc i pins s σ H E I hf st hg;subst hP hw hK;obtain⟨xs,q1,hl⟩:=hg;obtain⟨⟨old,a1⟩,a2⟩:=st;obtain⟨its,rv,p⟩:=q1.so I;have l1:=rv.length;refine wA (I.ok.hd hc) a1 a2 p (by simp;lia) fun g kp=>⟨rfl,kC (t':=s.toks) I hf fun c o hc q=>?_⟩
  have hc':¬ (c=e∨c=it):=fun m=>hc (by simpa using m)
  exact kp c o (fun m=>hc' (.inr m)) q
 self:=fun _ _ _ _ _ st h=>by
  obtain⟨⟨old,a1⟩,_⟩:=st;exact Bi a1 h
def wX(K:Aa)(ta:TA):TI:=fun σ H R=>ta σ H fun vs H1=>∃t l xs,vs=[.ref l]/\Sq K t H1 l xs/\R (It1 K t l) H1
theorem wY{x1 j kq kp}(h:X.K=K)(hg:Gl X "enumerate")(hm:X.mg "enumerate"=none)(ha:PE X a te)(n:noStar a=true:=by rfl)(hs:backTo pos (starEach [a] X.env)=[(false,eval a X.env)]:=by rfl) :
  PI X (.Tuple es x1 ps) (.Call (.Name "enumerate" p) [a] [⟨some "start",.Constant (.int 1) j kq,kp⟩] pos) (wX K (b8 te hU)):=by
 subst h;intro pins s σ H R I h;refine AF (fL I hg hm nB (G1 (thn (ao ha ag n pos pins s σ H _ I h) fun us s1 ⟨vs,H1,I1,r1,q1⟩=>?_) hs rfl rfl));obtain⟨t,l,xs,e,w1,q⟩:=q1;subst e;cases r1 with
 | cons r rr =>
  cases rr;cases r;refine PyProof.Rows.kws_cons (wpAny_Constant_int (PyProof.Rows.kws_nil ?_));have I1:=I1.tok (s1.toks+1);generalize hs2:({ s1 with toks:=s1.toks+1 }:Shared)=s2 at I1;obtain⟨its,rv,p⟩:=w1.so I1;refine qR p fun g z n1 kp=>?_;refine Bi (s:={ s2 with heap:=g }) z ⟨_,[s2.heap.objs.size+1,s2.heap.objs.size],_,_,H1,rfl,I1.kept (t':=s2.toks) kp,qS (Nat.succ_ne_self _),⟨⟨_,z⟩,n1⟩,fun b hb=>?_,q⟩;have hb':b=s2.heap.objs.size+1∨b=s2.heap.objs.size:=by simpa using hb
  have le:s2.heap.objs.size<=b:=by
   rcases hb' with m|m<;>(rw[m];first|exact Zl _ _|exact Wa _)
  exact I1.fpOk le (I1.hok.fresh le)
def pQ(ds:List D):List D:=ds.mapIdx fun i d=>.tup [.int ((i:Int)+1),d]
def sX(fa:FA):FI:=fun st=>(fa st).bind fun x=>(bz x.1 x.2).bind fun y=>(pM y.1).bind fun w=>some (pQ w,y.2)
theorem wZ(h:RdA K ta fa):RdI K (wX K ta) (sX fa):=by
 intro st σ H O Z R E items st' e q;refine bsP e fun rs st1 e1 e=>?_;refine bsP e fun ds st2 e2 e=>?_;refine bsO e fun as e3 e=>?_;cases e;refine h st σ H O Z _ E rs st1 e1 fun vs H1 O1 x1 k1 E1 rvs=>?_;obtain⟨O2,x2,k2,E2,el⟩:=rvs.esc E1 e2;have key:∃d,ds=[d]/\sqD d=some as:=by
  replace e3:pM ds=some as:=e3
  unfold pM at e3;split at e3
  ·exact⟨_,rfl,e3⟩
  ·cases e3
 obtain⟨d,rfl,hd⟩:=key;obtain⟨v1,r,rfl,da1,el⟩:=el.uncons;obtain rfl:=el.unnil;obtain⟨t,l,xs,rfl,k3⟩:=C6 da1 hd;refine⟨t,l,xs,rfl,(k3 H1 O2 (Ext.refl _ _)).1,q _ H1 O2 (x1.trans x2) (k1.trans k2) E2 fun H' O' ex liv=>?_⟩;obtain⟨s1,el1⟩:=k3 H' O' ex;have n1:=el1.1;refine⟨fun i hi=>⟨xs,s1,?_⟩,fun i d hd=>?_⟩
 ·replace hi:(pQ as).length<=i:=hi
  unfold pQ at hi;rw[List.length_mapIdx]at hi;lia
 ·replace hd:(pQ as)[i]?=some d:=hd
  unfold pQ at hd;rw[AZ]at hd;obtain⟨a,ha,rfl⟩:=Qd.mp hd;obtain⟨x,hx,dx⟩:=el1.at ha;refine⟨⟨xs,x,s1,hx⟩,?_⟩;rintro v H'' ⟨p,x',rfl,hn,rfl,f1⟩;have ex':=f1 xs s1;rw[hx]at ex';cases ex';have sm:=aI hn (.tup [.int ((i:Int)+1),x]);exact⟨sm,.tup ⟨ay,fun z=>(liv p z).1 hn⟩ rfl ((El.cons (.int _) (El.one dx)).same sm).2⟩
theorem Fr{fa:FA}{st s1 s2:En}{rs:List Rs}{d:D}{ds:List D}(h1:fa st=some (rs,s1))(h2:bz rs s1=some ([d],s2))(h3:sqD d=some ds):sX fa st=some (pQ ds,s2):=by
 simp only[sX,h1,h2,Xa,pM,h3]
end
end VF22
namespace VF22
open PySem L2 VF
theorem w4{X:Cx}{e:Expr}{t:TE}(h:PEi X e t):PE X e t:=by
 unfold PEi at h;exact h
end VF22
namespace VL
open PySem L2 VF
def Lw(x:Str):Prop:=∀c∈x.cps.toList,97<=c/\c<=122
abbrev letS:Str:=Str.ofString "abcdefghijklmnopqrstuvwxyz"
theorem w5:letS.cps.toList=List.range' 97 26:=by decide +kernel
def Nm(x:Str):Prop:=1<=x.length/\x.length<=6/\Lw x
theorem Fs(s:Nat):atI letS.cps.toList (((s:Nat):Int) % 26)=some (97+s % 26):=by
 have e:((s:Nat):Int) % 26=(((s % 26:Nat)):Int):=by lia
 rw[e];refine iQ ?_;rw[w5,List.getElem?_range' (by lia)]
 congr 1;lia
theorem lF{α:Type}:∀{l:List α}{i:Nat}(h:i<l.length),(l[i]::l.eraseIdx i).Perm l
 | _::_,0,_=>List.Perm.refl _
 | x::r,i+1,h=>(List.Perm.swap x _ _).trans (List.Perm.cons x (lF (l:=r) (i:=i) (Nat.lt_of_succ_lt_succ h)))
abbrev minus:Str:=Str.ofString "-"
def bd(p:Bool×Str):Str:=if p.1 then minus++p.2 else p.2
theorem cV:minus.cps.toList=[45]:=by decide +kernel
theorem lG{p:Bool×Str}(h:Nm p.2):1<=(bd p).length/\(bd p).length<=7:=by
 have e:minus.length=1:=by decide +kernel
 unfold bd;split
 ·rw[Bl,e];have:=h.1;have:=h.2.1;lia
 ·have:=h.1;have:=h.2.1;lia
theorem sY{x y:Str}(h:x.cps.toList=y.cps.toList):x=y:=by
 cases x;cases y;have:_=_:=Array.toList_inj.mp h;exact congrArg Str.mk this
theorem oq{n:Str}:Txt.slice (minus++n) (some 1) none=n:=by
 have e:minus.length=1:=by decide +kernel
 rw[PyProof.Rows.slice_from_eq (i:=1) (b:=((minus++n).length:Int)) (by decide) (by rw[Bl,e];lia) rfl]
 refine sY ?_;show((List.drop 1 (minus++n).cps.toList).take _).toArray.toList=_;rw[BN,A5,cV,Bl,e];show List.take _ n.cps.toList=_;refine Xn ?_;rw[Vc];show n.length<=_;lia
theorem w6{p:Bool×Str}(h:Nm p.2):∃c,atI (bd p).cps.toList 0=some c/\(V.str ⟨#[c]⟩=V.str minus↔p.1=true):=by
 obtain⟨t,n⟩:=p;have em:(⟨#[45]⟩:Str)=minus:=by decide +kernel
 cases t with
 | true =>
  refine⟨45,?_,fun _=>rfl,fun _=>by rw[em]⟩
  show atI (minus++n).cps.toList 0=_;rw[BN,A5,cV];exact Gi
 | false =>
  have h1:1<=n.length:=h.1;cases e:n.cps.toList with
  | nil =>
   have:=congrArg List.length e;rw[Vc]at this;have h2:n.cps.size=n.length:=rfl;rw[h2]at this;simp at this;lia
  | cons c r =>
   refine⟨c,?_,fun z=>?_,fun z=>by cases z⟩
   ·show atI n.cps.toList 0=_;rw[e];exact Gi
   ·have hc:=h.2.2 c (by show c∈n.cps.toList;rw[e];exact Wc)
    have z1:(⟨#[c]⟩:Str)=minus:=V.str.inj z;rw[← em]at z1;have z2:c=45:=by simpa using z1
    lia
theorem zg{n:Str}(h:Nm n):∃c r,n.cps.toList=c::r/\c≠45:=by
 cases e:n.cps.toList with
 | nil =>
  have h1:1<=n.length:=h.1;have:=congrArg List.length e;rw[Vc]at this;have h2:n.cps.size=n.length:=rfl;rw[h2]at this;simp at this;lia
 | cons c r =>
  refine⟨c,r,rfl,fun z=>?_⟩;have hc:=h.2.2 c (by rw[e];exact Wc)
  lia
theorem jN{t:Bool}{n:Str}(h:Nm n):Txt.startswith (bd (t,n)) minus=t:=by
 have e1:minus.length=1:=by decide +kernel
 have hl:=(lG (p:=(t,n)) h).1;unfold Txt.startswith
 rw[Ai (show 0+minus.length<=(bd (t,n)).length by lia),Bool.true_and,StrLaws.subAt_eq,cV,e1]
 cases t with
 | true =>
  show((((minus++n).cps.toList).drop 0).take 1 == [45])=true;rw[BN,A5,cV];rfl
 | false =>
  obtain⟨c,r,e,hc⟩:=zg h;show(((n.cps.toList).drop 0).take 1 == [45])=false;rw[e];show([c] == [45])=false;simp[hc]
end VL
namespace K39
open PySem L2 VF VF22 VX
noncomputable section
def j4:FS :=
  (bT (fBM "str" rZ (af 0) (ad (fC (.str "-")) av)))
def dq:List D->Option Rz:=bq j4 1 1
def nF:FS :=
  (bT (fIf (aV (bH dq (ad (af 0) av))) (fSl bSl (af 0) (fI (fC (.int 1))) oNo) (af 0)))
def gZ:List D->Option Rz:=bq nF 1 1
def lH:FS :=
  (bT (fIf (aV (bH dq (ad (af 0) av))) (bH gZ (ad (af 0) av)) (fOp bc (fC (.str "-")) (af 0))))
def iG:List D->Option Rz:=bq lH 1 1
def jf:FS :=
  (sIf (aV (fCB iY (ad (af 2) (ad (fC (.ty "str")) av)))) (cP (fM isL cG 1 (ad (af 2) av))) (cP (fM isL iZ 1 (ad (fOp bIx (af 2) (fC (.int 1))) av))))
def lJ:FS :=
  (aK (aR (cA av) 1)
  (aK (iy (fIA (af 0)) (gN 2) jf)
  (bT (af 1))))
def iH:List D->Option Rz:=bq lJ 3 1
def gc:FE :=
  (bH gZ (ad (af 0) av))
def lK:FS :=
  (bT (fCB oh (ad (fG 1 [] (fIA (cO iH (ad (af 0) av))) (gN 0) eX gc) av)))
def iI:List D->Option Rz:=bq lK 1 1
def cW:FS :=
  (nZ nA (fOp bc (yX (af 1) (af 3) (fC (.int 0))) (fC (.int 1))) 1 (af 3))
def cX:FS :=
  (iy (fIA (cO iI (ad (af 2) av))) (gN 3) cW)
def cY:FT :=
  (aV (fOp bLt (fOp sP (af 1) (af 0)) (fCB dF (ad (af 2) av))))
def cZ:FE :=
  (af 0)
def bB:FY :=
  (lC (yOf (aR (wq (.dk [])) 1))
  (lC (yOf (iy (fIA (af 0)) (gN 2) cX))
  (lC (yOf (aR (fG 1 [1,0] (fIA (fCB gX (ad (af 1) av))) (gN 0) cY cZ) 4))
  (yIf (qO (af 4)) (lD (fOp bIx (af 4) (fC (.int 0)))) (yOf cb)))))
def cL:List D->Option (Option Str):=gn bB 5 1
def d6:List D->Option Rz:=bq (unY bB) 5 1
def gE:FS :=
  (aK (nZ nA (af 3) 2 (af 4))
  (nZ nA (fUn yu (af 3)) 2 (bH iG (ad (af 4) av))))
def d7:FE :=
  (fOp sP (af 1) (af 0))
def dQ:FY :=
  (lC (nC cL d6 (ad (cA (ad (af 0) (ad (af 1) av))) av))
  (lC (yOf (aR (wq (.dk [])) 2))
  (lC (yOf (iy (sX (ad (af 1) av)) (gT 2 (gsC (gN 3) (gsC (gN 4) gsN))) gE))
  (yOf (bT (fOp bc (fOp bc (cA (ad (fC (.int 0)) av)) (fG 1 [2] (fIA (af 0)) (gN 0) eX d7)) (cA (ad (fOp bc (fCB dF (ad (af 0) av)) (fC (.int 1))) av))))))))
def gd:List D->Option (Option Str):=gn dQ 5 2
def bY:List D->Option Rz:=bq (unY dQ) 5 2
def lL:FS :=
  (aK (aR (fOp bc (fOp cF (fC (.int 7919)) (af 1)) (fC (.int 1000003))) 2)
  (aK (sIf (aV (fOp bLt (af 1) (fCB dF (ad (af 0) av)))) (aR (fOp bIx (af 0) (af 1)) 2) (sIf (aV (fOp bGt (fCB dF (ad (af 0) av)) (fC (.int 0)))) (aR (fOp bc (fOp cF (fOp fH (fOp bIx (af 0) (fOp fH (af 1) (fCB dF (ad (af 0) av)))) (fC (.int 2147483629))) (fC (.int 31))) (fOp cF (fC (.int 7919)) (af 1))) 2) cb))
  (aK (aR (fC (.int 0)) 3)
  (aK (sIf (aV (fOp bGe (af 2) (fOp Er (fC (.int 10)) (fC (.int 18))))) (aR (af 2) 3) cb)
  (bT (cA (ad (af 3) (ad (fOp bc (fOp fH (fOp bc (fOp cF (fOp fH (af 2) (fC (.int 2147483629))) (fC (.int 48271))) (fOp cF (fC (.int 40692)) (af 1))) (fC (.int 2147483646))) (fC (.int 1))) av))))))))
def d8:List D->Option Rz:=bq lL 4 2
def lM:FS :=
  (aK (sIf (aV (fOp bGt (fOp bIx (af 0) (fC (.int 0))) (fC (.int 0)))) (aK (aR (fOp fH (fOp bIx (af 0) (fC (.int 0))) (af 1)) 2)
  (aK (nZ pr (fOp ud (fOp bIx (af 0) (fC (.int 0))) (af 1)) 0 (fC (.int 0)))
  (bT (af 2)))) cb)
  (aK (aR (fOp fH (fOp cF (fOp bIx (af 0) (fC (.int 1))) (fC (.int 16807))) (fC (.int 2147483647))) 3)
  (aK (nZ pr (fOp bc (fOp fH (fOp bc (fOp cF (af 3) (fC (.int 48271))) (fC (.int 30103))) (fC (.int 2147483646))) (fC (.int 1))) 0 (fC (.int 1)))
  (bT (fOp fH (fOp bc (fOp cF (fOp fH (fOp cF (af 3) (af 3)) (fC (.int 2147483629))) (fC (.int 2147483563))) (fOp ud (fOp bIx (af 0) (fC (.int 1))) (fC (.int 127)))) (af 1))))))
def aF:D->List D->Option (Rz×D):=cE lM 4 2
def ig:FS :=
  (aK (sIf (aV (fOp bLt (af 0) (fC (.int 0)))) (bT (fOp jC (af 0) (af 1))) cb)
  (bT (fOp bc (af 0) (af 1))))
def cc:List D->Option Rz:=bq ig 2 2
def gF:FE :=
  (bH cc (ad (af 0) (ad (af 1) av)))
def gG:FE :=
  (fOp jC (fC (.int 0)) (bH cc (ad (af 0) (ad (fOp jC (fC (.int 0)) (af 1)) av))))
def d9:FS :=
  (sIf (aV (fOp bGt (fCB (b1 qI) (ad (af 5) av)) (fCB (b1 qI) (ad (af 3) av)))) (cP (fM isL cG 4 (ad (bH cc (ad (af 5) (ad (fOp bIx (af 2) (fUn yu (fC (.int 1)))) av))) av))) (sIf (aV (fOp bNe (af 5) (af 3))) (cP (fM isL cG 4 (ad (af 5) av))) (sIf (aV (fOp bGe (af 3) (fC (.int 0)))) (cP (fM isL iZ 4 (ad (fG 1 [3] (fIA (af 2)) (gN 0) eX gF) av))) (cP (fM isL iZ 4 (ad (fG 1 [3] (fIRvL (af 2)) (gN 0) eX gG) av))))))
def jg:FS :=
  (aK (aR (fOp bIx (af 0) (af 1)) 3)
  (aK (aR (cA av) 4)
  (aK (iy (fIA (af 0)) (gN 5) d9)
  (bT (af 4)))))
def dR:List D->Option Rz:=bq jg 6 3
def fq:FS :=
  (cP (fM isL cG 5 (ad (fOp cF (fM isL lg 3 (ad (fIO aF 0 (ad (fCB dF (ad (af 3) av)) av)) av)) (fOp bIx (af 4) (fIO aF 0 (ad (fC (.int 2)) av)))) av)))
def j5:FS :=
  (aK (aR (fOp bc (fC (.int 1)) (fIO aF 0 (ad (af 1) av))) 2)
  (aK (aR (fLR2 (ad (fC (.int 1)) (ad (fOp bc (af 2) (fC (.int 1))) av))) 3)
  (aK (aR (cA (ad (fC (.int 1)) (ad (fOp jC (fC (.int 1)) (fOp cF (fC (.int 2)) (fCB (b1 yF) (ad (fOp bEq (fIO aF 0 (ad (fC (.int 3)) av)) (fC (.int 0))) av)))) av))) 4)
  (aK (aR (cA (ad (fC (.int 0)) av)) 5)
  (aK (iy (pf (ad (af 2) av)) (gN 6) fq)
  (bT (fOp bc (af 5) (cA (ad (fOp bc (af 2) (fC (.int 1))) av)))))))))
def dw:D->List D->Option (Rz×D):=cE j5 7 2
def dI:FS :=
  (aK (aR (fOp jC (fOp bc (af 1) (fC (.int 2))) (fCB dF (ad (af 2) av))) 4)
  (aK (aR (fIO dw 0 (ad (fOp bIx (cA (ad (fC (.int 2)) (ad (fC (.int 4)) (ad (af 1) av)))) (fIO aF 0 (ad (fC (.int 3)) av))) av)) 5)
  (aK (aR (fIO aF 0 (ad (fCB dF (ad (af 2) av)) av)) 6)
  (sIf (aV (fOp bLe (fOp jC (fCB dF (ad (af 5) av)) (fC (.int 1))) (af 4))) (aR (cO dR (ad (af 2) (ad (af 6) (ad (af 5) av)))) 2) cb))))
def ik:FS :=
  (aK (aR (cA (ad (fC (.int 0)) (ad (fC (.int 1)) av))) 2)
  (aK (sIf (aV (fOp bEq (fIO aF 0 (ad (fC (.int 3)) av)) (fC (.int 0)))) (aR (fIO dw 0 (ad (fCB (b2 EM) (ad (af 1) (ad (fC (.int 6)) av))) av)) 2) cb)
  (aK (iy (pf (ad (fOp bc (fC (.int 1)) (fIO aF 0 (ad (fC (.int 5)) av))) av)) (gN 3) dI)
  (bT (af 2)))))
def fu:D->List D->Option (Rz×D):=cE ik 7 2
def fw:FS :=
  (aK (aR (fOp bc (fOp bIx (af 2) (fOp fH (fOp bc (af 3) (fOp cF (fC (.int 7)) (af 6))) (fC (.int 26)))) (fOp cF (fC (.str "b")) (fOp ud (af 6) (fC (.int 26))))) 7)
  (cP (fM isL cG 5 (ad (fOp bc (af 7) (fOp cF (af 4) (fIO aF 0 (ad (fOp jC (fC (.int 6)) (fOp ud (af 6) (fC (.int 26)))) av)))) av))))
def j6:FS :=
  (aK (aR (fC (.str "abcdefghijklmnopqrstuvwxyz")) 2)
  (aK (aR (fIO aF 0 (ad (fC (.int 26)) av)) 3)
  (aK (aR (fOp bIx (fC (.str "qxz")) (fIO aF 0 (ad (fC (.int 3)) av))) 4)
  (aK (aR (cA av) 5)
  (aK (iy (pf (ad (af 1) av)) (gN 6) fw)
  (bT (af 5)))))))
def gH:D->List D->Option (Rz×D):=cE j6 8 2
def j7:FS :=
  (aK (sIf (aV (fOp bEq (fOp bIx (af 0) (fC (.int 0))) (fC (.str "-")))) (bT (fSl bSl (af 0) (fI (fC (.int 1))) oNo)) cb)
  (bT (fOp bc (fC (.str "-")) (af 0))))
def gI:List D->Option Rz:=bq j7 1 1
def eC:FS :=
  (aK (aR (fM isL lg 2 (ad (fIO aF 0 (ad (fCB dF (ad (af 2) av)) av)) av)) 5)
  (cP (fM isL cG 3 (ad (fOp bIx (cA (ad (af 5) (ad (fOp bc (fC (.str "-")) (af 5)) av))) (fIO aF 0 (ad (fC (.int 2)) av))) av))))
def jh:FS :=
  (aK (aR (fIO gH 0 (ad (af 1) av)) 2)
  (aK (aR (cA av) 3)
  (aK (iy (pf (ad (af 1) av)) (gN 4) eC)
  (bT (fCB kA (ad (af 3) av))))))
def gf:D->List D->Option (Rz×D):=cE jh 6 2
def ji:FS :=
  (aK (aR (fOp bIx (af 0) (fOp jC (fCB (b1 qI) (ad (af 3) av)) (fC (.int 1)))) 4)
  (aK (sIf (aV (fOp bLt (af 3) (fC (.int 0)))) (aR (bH gI (ad (af 4) av)) 4) cb)
  (cP (fM isL cG 2 (ad (af 4) av)))))
def lO:FS :=
  (aK (aR (cA av) 2)
  (aK (iy (fIA (fSl bSl (af 1) (fI (fC (.int 1))) (fI (fUn yu (fC (.int 1)))))) (gN 3) ji)
  (bT (fCB kA (ad (af 2) av)))))
def iJ:List D->Option Rz:=bq lO 5 2
def bO:FE :=
  (z6 (fCB iY (ad (af 0) (ad (fC (.ty "int")) av))) (z7 (fCB iY (ad (af 0) (ad (fC (.ty "bool")) av)))))
def dM:FS :=
  (bT (fCB Gx (ad (fG 1 [] (fIA (af 0)) (gN 0) eX bO) av)))
def b7:List D->Option Rz:=bq dM 1 1
def jj:FS :=
  (nZ pr (fOp bIx (cA (ad (af 2) (ad (fOp jC (fC (.int 0)) (af 2)) av))) (fCB (b1 yF) (ad (fOp bLt (af 3) (fC (.int 0))) av))) 1 (fCB (b1 qI) (ad (af 3) av)))
def lP:FS :=
  (aK (aR (fCB vU (ad (af 0) av)) 1)
  (aK (iy (yV (ad (af 0) av)) (gT 2 (gsC (gN 2) (gsC (gN 3) gsN))) jj)
  (bT (af 1))))
def gh:List D->Option Rz:=bq lP 4 1
def lQ:FS :=
  (aK (aR (cO bY (ad (af 0) (ad (af 1) av))) 3)
  (aK (sIf (kj (gz (aV (fCB iY (ad (af 3) (ad (fC (.ty "list")) av))))) (kj (aV (fOp v7 (af 3) (af 2))) (gz (aV (bH b7 (ad (af 3) av)))))) (bT (fC (.bl false))) cb)
  (aK (cP (fM isL cG 3 (ad (fC (.int 0)) av)))
  (bT (fOp yG (cO bY (ad (af 0) (ad (af 1) av))) (af 2))))))
def bM:List D->Option Rz:=bq lQ 4 3
def de:FE :=
  (fBM "str" qN (af 0) (ad (fC (.str "-")) av))
def df:FE :=
  (fG 1 [] (fIA (af 0)) (gN 0) eX de)
def fz:FT :=
  (kj (aV (fOp iA (af 0) (fOp bIx (af 1) (fC (.int 0))))) (aV (fOp iA (af 0) (fOp bIx (af 1) (fC (.int 1))))))
def fA:FE :=
  (af 0)
def j8:FS :=
  (aK (aR (fC .non) 2)
  (aK (sW gd bY (ad (af 0) (ad (af 1) av)) 6 2 "Lacks" "name")
  (aK (aR (cA (ad (gq false "Lacks" (af 2)) (ad (gq false "Lacks" (af 2)) (ad (gq false "Lacks" (af 2)) av)))) 3)
  (aK (aR (fOp bc (af 3) (cA (ad (gq false "Lacks" (af 2)) (ad (gq false "Lacks" (af 2)) (ad (gq false "Lacks" (af 2)) av))))) 3)
  (aK (aR (fOp bc (af 3) (cA (ad (gq false "Lacks" (af 2)) (ad (gq false "Lacks" (af 2)) (ad (gq false "Lacks" (af 2)) av))))) 3)
  (aK (sIf (kj (gz (aV (gq true "Lacks" (af 2)))) (kj (aV (gq false "Lacks" (af 2))) (aV (fOp bIn (fC (.bl true)) (af 3))))) (bT (fC (.bl false))) cb)
  (aK (aR (fG 1 [] (fIA (pd (ad (af 0) (ad (af 1) av)))) (gN 0) eX df) 4)
  (aK (aR (fG 1 [4] (fIA (fOp bc (fOp bIx (af 4) (fC (.int 0))) (fOp bIx (af 4) (fC (.int 1))))) (gN 0) fz fA) 5)
  (bT (fOp bEq (zf "name" "Lacks" (af 2)) (fCB wF (ad (af 5) av))))))))))))
def eQ:List D->Option Rz:=bq j8 7 2
def jk:FS :=
  (aK (aR (fIO aF 0 (ad (fOp cy (fCB dF (ad (af 1) av)) (fC (.int 1))) av)) 2)
  (aK (aR (fOp bIx (cA (vN ["bab","-aba","yuy"])) (fIO aF 0 (ad (fC (.int 3)) av))) 3)
  (aK (sIf (aV (fOp bEq (af 2) (fCB dF (ad (af 1) av)))) (bT (fOp cy (af 1) (pd (ad (af 3) av)))) cb)
  (bT (fOp bIx (cA (ad (fOp cy (fSl mE (af 1) oNo (fI (af 2))) (fSl mE (af 1) (fI (fOp cy (af 2) (fC (.int 1)))) oNo)) (ad (fOp cy (fOp cy (fSl mE (af 1) oNo (fI (af 2))) (pd (ad (af 3) av))) (fSl mE (af 1) (fI (fOp cy (af 2) (fC (.int 1)))) oNo)) (ad (fOp cy (pd (ad (af 3) av)) (af 1)) av)))) (fIO aF 0 (ad (fC (.int 3)) av)))))))
def gi:D->List D->Option (Rz×D):=cE jk 4 2
def sZ:FS :=
  (aK (aR (fIO gi 1 (ad (af 3) av)) 6)
  (sIf (kj (gz (aV (bH eQ (ad (af 4) (ad (af 6) av))))) (gz (aV (bH eQ (ad (af 6) (ad (af 4) av)))))) (bT (fC (.bl false))) cb))
def Dp:FS :=
  (aK (aR (cO d8 (ad (af 0) (ad (fC (.int 0)) av))) 1)
  (aK (aR (fIO fu 1 (ad (fOp bIx (cA (ad (fC (.int 8)) (ad (fC (.int 38)) av))) (fCB (b1 yF) (ad (fOp bEq (fIO aF 1 (ad (fC (.int 4)) av)) (fC (.int 0))) av))) av)) 2)
  (aK (aR (cO d8 (ad (af 0) (ad (fC (.int 1)) av))) 1)
  (aK (aR (fIO gf 1 (ad (fOp jC (fCB dF (ad (af 2) av)) (fC (.int 2))) av)) 3)
  (aK (aR (cO iJ (ad (af 3) (ad (af 2) av))) 4)
  (aK (sIf (kj (gz (aV (bH bM (ad (af 4) (ad (af 3) (ad (af 2) av)))))) (gz (aV (bH bM (ad (af 3) (ad (af 4) (ad (cO gh (ad (af 2) av)) av))))))) (bT (fC (.bl false))) cb)
  (aK (sIf (gz (aV (bH bM (ad (af 4) (ad (af 4) (ad (fLR1 (ad (fCB dF (ad (af 2) av)) av)) av)))))) (bT (fC (.bl false))) cb)
  (aK (aR (cO d8 (ad (af 0) (ad (fC (.int 2)) av))) 1)
  (aK (iy (pf (ad (fC (.int 3)) av)) (gN 5) sZ)
  (bT (bH bM (ad (af 4) (ad (af 3) (ad (af 2) av))))))))))))))
end
end K39
namespace K39
open PySem L2 VF VF22 VX
abbrev nl0:List Str:=["bead"]
abbrev nl1:List Str:=["thing"]
abbrev nl2:List Str:=["_law_deal_here","_law_many"]
abbrev nl3:List Str:=["_law_bead"]
abbrev nl4:List Str:=["_law_some"]
abbrev nl5:List Str:=["_law_number","_law_by"]
abbrev nl6:List Str:=["_law_numbers_here","_law_at","_law_block_here","_law_here","_law_found","_law_number"]
abbrev nl7:List Str:=["_law_deal_here","_law_most"]
abbrev nl8:List Str:=["_law_one","_law_other_here","_law_caught","_law_others","_law_both","_law_alone","e"]
abbrev nl9:List Str:=["self","name"]
abbrev zh:List Str:=["_law_part","_law_here"]
abbrev Ft:List Str:=["things","count","thing","name","lacked"]
abbrev Fu:List Str:=["ours","theirs","place","number","bead"]
abbrev G2:List Str:=["_law_script","_law_at","_law_cell","_law_own"]
abbrev G3:List Str:=["_law_deal_here","_law_many","_law_digit","_law_one"]
abbrev G4:List Str:=["_law_numbers_here","_law_at","_law_block_here"]
abbrev G5:List Str:=["_law_deal_here","_law_most","_law_many","_law_left","_law_sides","_law_found","_law_k"]
abbrev G6:List Str:=["_law_deal_here","_law_most","_law_numbers_here","_law_k","_law_room","_law_block_here","_law_at"]
abbrev G7:List Str:=["_law_deal_here","_law_many","_law_letters","_law_first","_law_ends","_law_found","_law_k","_law_name"]
abbrev G8:List Str:=["_law_deal_here","_law_many","_law_left","_law_found","_law_k","_law_bead"]
abbrev G9:List Str:=["_law_theirs_here","_law_numbers_here","_law_found","_law_number","_law_bead"]
abbrev Ha:List Str:=["_law_theirs_here","_law_numbers_here"]
abbrev Hb:List Str:=["_law_numbers_here","_law_found","_law_k","_law_number"]
abbrev Hc:List Str:=["_law_ours_here","_law_theirs_here","_law_due","_law_found"]
abbrev Hd:List Str:=["_law_ours_here","_law_theirs_here","_law_due"]
abbrev He:List Str:=["_law_deal_here","_law_some","_law_at","_law_bead"]
abbrev Hf:List Str:=["_law_script","_law_deal_here","_law_numbers_here","_law_theirs_here","_law_ours_here","_law_k","_law_other_here"]
def top(i:Nat):Stmt:=PySem.Challenge.pw_strandwright_k39_numbers_by_places.main.body.getD i (.Pass ⟨0,0,0,0⟩)
abbrev jO:Stmt:=top 1
abbrev ou:Stmt:=top 2
abbrev jP:Stmt:=top 3
abbrev lR:Stmt:=top 4
abbrev jm:Stmt:=top 5
abbrev dS:Stmt:=top 20
abbrev gj:Stmt:=top 22
abbrev qT:Stmt:=top 24
abbrev qU:Stmt:=top 25
abbrev jQ:Stmt:=top 26
abbrev jn:Stmt:=top 27
abbrev oy:Stmt:=top 28
abbrev jR:Stmt:=top 29
abbrev oz:Stmt:=top 30
abbrev oA:Stmt:=top 31
abbrev lS:Stmt:=top 32
abbrev qV:Stmt:=top 33
abbrev cM:Stmt:=top 34
abbrev qW:Stmt:=top 35
abbrev qX:Stmt:=top 36
abbrev jo:Stmt:=top 37
abbrev lU:Stmt:=top 38
abbrev Fv:Stmt:=top 39
theorem oB:FnScope nl0 nl0 (ar jO):=fsc (by decide +kernel)
theorem qY:FnScope nl0 nl0 (ar ou):=fsc (by decide +kernel)
theorem oC:FnScope nl0 nl0 (ar jP):=fsc (by decide +kernel)
theorem sc_sbeadsin:FnScope ["thing","beads","part"] nl1 (ar lR):=fsc (by decide +kernel)
theorem pR:FnScope nl1 nl1 (ar jm):=fsc (by decide +kernel)
theorem sc_srefuselacks:FnScope Ft ["things"] (ar dS):=fsc (by decide +kernel)
theorem sc_snumbersof:FnScope Fu ["ours","theirs"] (ar gj):=fsc (by decide +kernel)
theorem sc_sLdeal:FnScope G2 ["_law_script","_law_at"] (ar qT):=fsc (by decide +kernel)
theorem sc_sLdraw:FnScope G3 nl2 (ar qU):=fsc (by decide +kernel)
theorem oD:FnScope nl5 nl5 (ar jQ):=fsc (by decide +kernel)
theorem sc_sLputin:FnScope nl6 G4 (ar jn):=fsc (by decide +kernel)
theorem sc_sLblock:FnScope G5 nl7 (ar oy):=fsc (by decide +kernel)
theorem sc_sLnumbers:FnScope G6 nl7 (ar jR):=fsc (by decide +kernel)
theorem sc_sLnames:FnScope G7 nl2 (ar oz):=fsc (by decide +kernel)
theorem qZ:FnScope nl3 nl3 (ar oA):=fsc (by decide +kernel)
theorem sc_sLtheirs:FnScope G8 nl2 (ar lS):=fsc (by decide +kernel)
theorem sc_sLours:FnScope G9 Ha (ar qV):=fsc (by decide +kernel)
theorem jp:FnScope nl4 nl4 (ar cM):=fsc (by decide +kernel)
theorem sc_sLback:FnScope Hb ["_law_numbers_here"] (ar qW):=fsc (by decide +kernel)
theorem sc_sLtold:FnScope Hc Hd (ar qX):=fsc (by decide +kernel)
theorem sc_sLlacks:FnScope nl8 ["_law_one","_law_other_here"] (ar jo):=fsc (by decide +kernel)
theorem sc_sLspoilt:FnScope He ["_law_deal_here","_law_some"] (ar lU):=fsc (by decide +kernel)
theorem sc_slaw:FnScope Hf ["_law_script"] (ar Fv):=fsc (by decide +kernel)
structure Md(mg:Str->Option Value):Prop where
 n_abs:mg "abs"=none
 n_all:mg "all"=none
 n_bool:mg "bool"=none
 n_enumerate:mg "enumerate"=none
 n_int:mg "int"=none
 n_isinstance:mg "isinstance"=none
 n_len:mg "len"=none
 n_list:mg "list"=none
 n_min:mg "min"=none
 n_range:mg "range"=none
 n_reversed:mg "reversed"=none
 n_sorted:mg "sorted"=none
 n_str:mg "str"=none
 n_tuple:mg "tuple"=none
abbrev nG:Stmt:=GW (top 10) 0
theorem zi:FnScope nl9 nl9 (ar nG):=fsc (by decide +kernel)
structure Zs(K:Aa)(mg:Str->Option Value)(cC c_BadText c_Twice c_NoDeed c_NotLet c_NoName c_NoKind c_Mixed c_NoPaper c_NoRow c_TooMany:Addr):Prop where
 m_BadText:mg "BadText"=some (.ref c_BadText)
 k_BadText:PySem.W.kitOne K (.ref cC) (.ref c_BadText)=some false
 m_Twice:mg "Twice"=some (.ref c_Twice)
 k_Twice:PySem.W.kitOne K (.ref cC) (.ref c_Twice)=some false
 m_NoDeed:mg "NoDeed"=some (.ref c_NoDeed)
 k_NoDeed:PySem.W.kitOne K (.ref cC) (.ref c_NoDeed)=some false
 m_NotLet:mg "NotLet"=some (.ref c_NotLet)
 k_NotLet:PySem.W.kitOne K (.ref cC) (.ref c_NotLet)=some false
 m_NoName:mg "NoName"=some (.ref c_NoName)
 k_NoName:PySem.W.kitOne K (.ref cC) (.ref c_NoName)=some false
 m_NoKind:mg "NoKind"=some (.ref c_NoKind)
 k_NoKind:PySem.W.kitOne K (.ref cC) (.ref c_NoKind)=some false
 m_Mixed:mg "Mixed"=some (.ref c_Mixed)
 k_Mixed:PySem.W.kitOne K (.ref cC) (.ref c_Mixed)=some false
 m_NoPaper:mg "NoPaper"=some (.ref c_NoPaper)
 k_NoPaper:PySem.W.kitOne K (.ref cC) (.ref c_NoPaper)=some false
 m_NoRow:mg "NoRow"=some (.ref c_NoRow)
 k_NoRow:PySem.W.kitOne K (.ref cC) (.ref c_NoRow)=some false
 m_TooMany:mg "TooMany"=some (.ref c_TooMany)
 k_TooMany:PySem.W.kitOne K (.ref cC) (.ref c_TooMany)=some false
 k_Lacks:PySem.W.kitOne K (.ref cC) (.ref cC)=some true
end K39
namespace VF
open PySem L2
theorem dJ{i j:Int}(h:CMul i j):cF (.int i) (.int j)=some (.int (i*j),false):=by
 have:rY (.int i) (.int j)=some (.int (i*j),false):=by
  show(if CMul i j then some (D.int (i*j),false) else none)=_;rw[Ad h]
 unfold cF orD;rw[this]
theorem oE{i j:Int}(h:0<j):fH (.int i) (.int j)=some (.int (i % j),false):=by
 show(if 0<j then some (D.int (i % j),false) else none)=_;rw[Ad h]
theorem q0{i j:Int}(h:qj i j):ud (.int i) (.int j)=some (.int (i / j),false):=by
 show(if qj i j then some (D.int (i / j),false) else none)=_;rw[Ad h]
theorem w9{ds:List D}{i:Int}{d:D}(h:atI ds i=some d):bIx (.lst ds) (.int i)=some (d,false):=by
 have:ue (.lst ds) (.int i)=some (d,false):=by
  show(atI ds i).bind (fun d=>some (d,false))=_;rw[h];rfl
 unfold bIx orD;rw[this]
theorem ix_tup{ds:List D}{i:Int}{d:D}(h:atI ds i=some d):bIx (.tup ds) (.int i)=some (d,false):=by
 have e1:ue (.tup ds) (.int i)=none:=rfl;have:yx (.tup ds) (.int i)=some (d,false):=by
  show(atI ds i).bind (fun d=>some (d,false))=_;rw[h];rfl
 unfold bIx orD;rw[e1,this]
theorem hZ{f:FT}{st s:En}{b c:Bool}(h:f st=some (b,s))(e:b=c):f st=some (c,s):=e ▸ h
theorem jS{mm:D->D->D->Option D}{fe fi:FE}{i:Nat}{st s1 s2 s3:En}{r rk:Rs}{dv dk z z':D}{t t0:Sl}{x0:D}(h1:fe st=some (r,s1))(h2:esc r s1=some (dv,s2))(h0:s2[i]?=some t0)(h00:t0.ow=some x0)(h3:fi s2=some (rk,s3))(h4:cont s3 rk=some dk)(h5:s3[i]?=some t)(h6:t.ow=some z)(h7:mm z dk dv=some z'){s4:En}(h8:s3.set i (t.put z')=s4:=by rfl):nZ mm fe i fi st=some (.nx s4):=by
 simp only[nZ,h1,h2,h0,h00,h3,h4,h5,h6,h7,h8,Xa]
end VF
namespace VF
open PySem L2
section
variable {st s s1 s2:En}{r ry:Rs}{d1 d2:D}{fe fa:FE}
theorem xf{i:Int}(h:fe st=some (r,s))(h2:cont s r=some (.int i)):fI fe st=some (some i,s):=by
 simp only[fI,h,Xa,asInt,h2]
end
theorem jT{i j:Int}:bEq (.int i) (.int j)=some (.bl (decide (i=j)),false):=by
 show some (D.bl (decide (V.int i=V.int j)),false)=_;by_cases h:i=j
 ·subst h;simp
 ·rw[Af h,Af (fun z=>h (V.int.inj z))]
theorem xg{i j:Int}:bNe (.int i) (.int j)=some (.bl (!decide (i=j)),false):=by
 show some (D.bl (!decide (V.int i=V.int j)),false)=_;by_cases h:i=j
 ·subst h;simp
 ·rw[Af h,Af (fun z=>h (V.int.inj z))]
theorem Dq{ds:List D}{i:Int}{d:D}(h:atI ds i=some d):bIx (.fl ds) (.int i)=some (d,false):=by
 have:ue (.fl ds) (.int i)=some (d,false):=by
  show(atI ds i).bind (fun d=>some (d,false))=_;rw[h];rfl
 unfold bIx orD;rw[this]
theorem iK{ds:List D}{i:Nat}{d:D}(h:ds[i]?=some d):bIx (.lst ds) (.int i)=some (d,false):=w9 (iQ h)
theorem zj{ds:List D}{i:Nat}{d:D}(h:ds[i]?=some d):bIx (.tup ds) (.int i)=some (d,false):=ix_tup (iQ h)
theorem zk{ds:List D}{d:D}:bIx (.lst (ds++[d])) (.int (-1))=some (d,false):=w9 (by
 unfold atI ixN;rw[Yb,Zh,Ag (by lia),Ad (by lia)]
 show(ds++[d])[((-1:Int)+((ds.length+1:Nat):Int)).toNat]?=_;have:((-1:Int)+((ds.length+1:Nat):Int)).toNat=ds.length:=by lia
 rw[this];simp)
theorem Fw{fa:FA}{st s:En}{rs:List Rs}{j:Int}(h1:fa st=some (rs,s))(h2:bG s rs=some [.int j])(h3:VF22.RB 0 j):VF22.fLR1 fa st=some (.f (.lst (rng 0 (j-0).toNat)),s):=by
 simp only[VF22.fLR1,h1,h2,Xa,qx];rw[Ad h3]
theorem Fx{fa:FA}{st s:En}{rs:List Rs}{i j:Int}(h1:fa st=some (rs,s))(h2:bG s rs=some [.int i,.int j])(h3:VF22.RB i j):VF22.fLR2 fa st=some (.f (.lst (rng i (j-i).toNat)),s):=by
 simp only[VF22.fLR2,h1,h2,Xa,yq];rw[Ad h3]
theorem eF{fa:FA}{st s1 s2:En}{rs:List Rs}{ds:List D}(h1:fa st=some (rs,s1))(h2:bz rs s1=some (ds,s2))(h3:ds.length<=1000000):cA fa st=some (.f (.lst ds),s2):=by
 simp only[cA,h1,h2,Xa];rw[Ad h3]
theorem Fy{fe:FE}{st s1 s2:En}{r:Rs}{ds:List D}(h1:fe st=some (r,s1))(h2:esc r s1=some (.lst ds,s2)):VF22.fIRvL fe st=some (ds.reverse,s2):=by
 simp only[VF22.fIRvL,h1,h2,Xa,VF22.lstD]
theorem gJ{xs:List D}{y:D}(h:xs.length<1000000):cG (.lst xs) [y]=some (.non,.lst (xs++[y])):=by
 show(if xs.length<1000000 then some (D.non,D.lst (xs++[y])) else none)=_;rw[Ad h]
end VF
namespace K39
open PySem L2 VF VF22
def Dl(m s:Int):D:=.lst [.int m,.int s]
def cN(δ:D):Prop:=∃m s,δ=Dl m s/\0<=m/\1<=s/\s<=2147483646
theorem bx{δ:D}{n:Int}(hδ:cN δ)(h0:0<n)(h1:n<=1000):∃d δ',aF δ [.int n]=some ((.int d,false),δ')/\0<=d/\d<n/\cN δ':=by
 obtain⟨m,s,rfl,hm,hs1,hs2⟩:=hδ;by_cases c1:0<m
 ·refine⟨m % n,Dl (m / n) s,?_,Vl _ (by lia),Yk _ h0,m / n,s,rfl,Int.ediv_nonneg hm (by lia),hs1,hs2⟩
  refine cx (o:=.rt (.d (.int (m % n))) [.io (Dl (m / n) s),.v (.int n),.v (.int (m % n)),.e]) rfl ?_ rfl;refine oi (i8 (hZ (b:=decide (0<m)) (s:=[.io (Dl m s),.v (.int n),.e,.e]) rfl (Ai c1)) ?_);refine aw (s:=[.io (Dl m s),.v (.int n),.v (.int (m % n)),.e]) (cw (aq rfl rfl rfl rfl (oE h0)) rfl) ?_;refine aw (s:=[.io (Dl (m / n) s),.v (.int n),.v (.int (m % n)),.e]) (jS (aq rfl rfl rfl rfl (q0 ⟨h0,by lia⟩)) rfl rfl rfl rfl rfl rfl rfl rfl) ?_
  rfl
 ·have a1:=Vl (s*16807) (show(2147483647:Int)≠0 by decide)
  have a2:=Yk (s*16807) (show(0:Int)<2147483647 by decide)
  have b1:=Vl ((s*16807 % 2147483647)*48271+30103) (show(2147483646:Int)≠0 by decide)
  have b2:=Yk ((s*16807 % 2147483647)*48271+30103) (show(0:Int)<2147483646 by decide)
  have c1':=Vl ((s*16807 % 2147483647)*(s*16807 % 2147483647)) (show(2147483629:Int)≠0 by decide)
  have c2':=Yk ((s*16807 % 2147483647)*(s*16807 % 2147483647)) (show(0:Int)<2147483629 by decide)
  refine⟨((s*16807 % 2147483647)*(s*16807 % 2147483647) % 2147483629*2147483563+(((s*16807 % 2147483647)*48271+30103) % 2147483646+1) / 127) % n,Dl m (((s*16807 % 2147483647)*48271+30103) % 2147483646+1),?_,Vl _ (by lia),Yk _ h0,m,_,rfl,hm,by lia,by lia⟩
  generalize e1:s*16807 % 2147483647=o at *;generalize e2:(o*48271+30103) % 2147483646+1=t at *;refine cx (o:=.rt (.d (.int ((o*o % 2147483629*2147483563+t / 127) % n))) [.io (Dl m t),.v (.int n),.e,.v (.int o)]) rfl ?_ rfl;refine aw (gp (hZ (b:=decide (0<m)) (s:=[.io (Dl m s),.v (.int n),.e,.e]) rfl (Af c1)) rfl) ?_;refine aw (s:=[.io (Dl m s),.v (.int n),.e,.v (.int o)]) (cw (x:=.int o) (aq (aq rfl rfl rfl rfl (dJ (.inr ⟨by decide,by decide⟩))) rfl rfl rfl (z:=(.int o,false)) (by rw[← e1];rfl)) rfl) ?_
  refine aw (s:=[.io (Dl m t),.v (.int n),.e,.v (.int o)]) (jS (dv:=.int t) (r:=.d (.int t)) (aq (aq (aq (aq rfl rfl rfl rfl (dJ (.inr ⟨by decide,by decide⟩))) rfl rfl rfl rfl) rfl rfl rfl rfl) rfl rfl rfl (z:=(.int t,false)) (by rw[← e2];rfl)) rfl rfl rfl rfl rfl rfl rfl rfl) ?_
  exact bK (aq (aq (aq (aq (aq rfl rfl rfl rfl (dJ (.inl ⟨by lia,by lia⟩))) rfl rfl rfl rfl) rfl rfl rfl (dJ (.inr ⟨by decide,by decide⟩))) (aq rfl rfl rfl rfl rfl) rfl rfl rfl) rfl rfl rfl (oE h0))
theorem oF(ns:List Int){k:Int}(h0:0<=k)(h1:k<=2):∃δ,d8 [.fl (ns.map D.int),.int k]=some (δ,true)/\cN δ:=by
 have key:∀c:Int,∃δ,((aK (aR (fC (.int 0)) 3) (aK (sIf (aV (fOp bGe (af 2) (fOp Er (fC (.int 10)) (fC (.int 18))))) (aR (af 2) 3) cb)
  (bT (cA (ad (af 3) (ad (fOp bc (fOp fH (fOp bc (fOp cF (fOp fH (af 2) (fC (.int 2147483629))) (fC (.int 48271))) (fOp cF (fC (.int 40692)) (af 1))) (fC (.int 2147483646))) (fC (.int 1))) av))))))) [.v (.fl (ns.map D.int)),.v (.int k),.v (.int c),.e]=some (.rt (.f δ) [.v (.fl (ns.map D.int)),.v (.int k),.v (.int c),.v (.int (if (10:Int) ^ (18:Int).toNat<=c then c else 0))])/\cN δ:=fun c=>by
  have b1:=Vl (c % 2147483629*48271+40692*k) (show(2147483646:Int)≠0 by decide)
  have b2:=Yk (c % 2147483629*48271+40692*k) (show(0:Int)<2147483646 by decide)
  have fin:∀m:Int,bT (cA (ad (af 3) (ad (fOp bc (fOp fH (fOp bc (fOp cF (fOp fH (af 2) (fC (.int 2147483629))) (fC (.int 48271))) (fOp cF (fC (.int 40692)) (af 1))) (fC (.int 2147483646))) (fC (.int 1))) av))) [.v (.fl (ns.map D.int)),.v (.int k),.v (.int c),.v (.int m)]=some (.rt (.f (Dl m ((c % 2147483629*48271+40692*k) % 2147483646+1))) [.v (.fl (ns.map D.int)),.v (.int k),.v (.int c),.v (.int m)]):=fun m=>by
   refine bK (s:=[.v (.fl (ns.map D.int)),.v (.int k),.v (.int c),.v (.int m)]) ?_;have e:(fOp bc (fOp fH (fOp bc (fOp cF (fOp fH (af 2) (fC (.int 2147483629))) (fC (.int 48271))) (fOp cF (fC (.int 40692)) (af 1))) (fC (.int 2147483646))) (fC (.int 1))) [.v (.fl (ns.map D.int)),.v (.int k),.v (.int c),.v (.int m)]=some (.d (.int ((c % 2147483629*48271+40692*k) % 2147483646+1)),[.v (.fl (ns.map D.int)),.v (.int k),.v (.int c),.v (.int m)]) :=
    aq (aq (aq (aq (aq rfl rfl rfl rfl rfl) rfl rfl rfl (dJ (.inr ⟨by decide,by decide⟩))) (aq rfl rfl rfl rfl (dJ (.inl ⟨by decide,by decide⟩))) rfl rfl rfl) rfl rfl rfl rfl) rfl rfl rfl rfl
   exact eF (aA rfl (aA e rfl)) rfl (by simp)
  by_cases c3:(10:Int) ^ (18:Int).toNat<=c
  ·have p18:(0:Int)<=10 ^ (18:Int).toNat:=by decide
   refine⟨Dl c ((c % 2147483629*48271+40692*k) % 2147483646+1),?_,c,_,rfl,by lia,by lia,by lia⟩
   rw[Ad c3];refine aw (s:=[.v (.fl (ns.map D.int)),.v (.int k),.v (.int c),.v (.int 0)]) rfl ?_;refine aw (s:=[.v (.fl (ns.map D.int)),.v (.int k),.v (.int c),.v (.int c)]) (i8 (hZ (b:=decide ((10:Int) ^ (18:Int).toNat<=c)) (s:=[.v (.fl (ns.map D.int)),.v (.int k),.v (.int c),.v (.int 0)]) rfl (Ai c3)) rfl) (fin c)
  ·refine⟨Dl 0 ((c % 2147483629*48271+40692*k) % 2147483646+1),?_,0,_,rfl,by lia,by lia,by lia⟩
   rw[Ag c3];refine aw (s:=[.v (.fl (ns.map D.int)),.v (.int k),.v (.int c),.v (.int 0)]) rfl ?_;refine aw (s:=[.v (.fl (ns.map D.int)),.v (.int k),.v (.int c),.v (.int 0)]) (gp (hZ (b:=decide ((10:Int) ^ (18:Int).toNat<=c)) (s:=[.v (.fl (ns.map D.int)),.v (.int k),.v (.int c),.v (.int 0)]) rfl (Af c3)) rfl) (fin 0)
 have first:∃c:Int,(sIf (aV (fOp bLt (af 1) (fCB dF (ad (af 0) av)))) (aR (fOp bIx (af 0) (af 1)) 2) (sIf (aV (fOp bGt (fCB dF (ad (af 0) av)) (fC (.int 0)))) (aR (fOp bc (fOp cF (fOp fH (fOp bIx (af 0) (fOp fH (af 1) (fCB dF (ad (af 0) av)))) (fC (.int 2147483629))) (fC (.int 31))) (fOp cF (fC (.int 7919)) (af 1))) 2) cb)) [.v (.fl (ns.map D.int)),.v (.int k),.v (.int (7919*k+1000003)),.e]=some (.nx [.v (.fl (ns.map D.int)),.v (.int k),.v (.int c),.e]):=by
  by_cases c1:k<((ns.map D.int).length:Int)
  ·obtain⟨v,hv,hm',_⟩:=vp h0 c1;obtain⟨z,_,rfl⟩:=Yf.mp hm';refine⟨z,i8 (hZ (b:=decide (k<((ns.map D.int).length:Int))) (s:=[.v (.fl (ns.map D.int)),.v (.int k),.v (.int (7919*k+1000003)),.e]) rfl (Ai c1)) ?_⟩;exact cw (x:=.int z) (aq rfl rfl rfl rfl (z:=(.int z,false)) (Dq hv)) rfl
  ·refine Exists.imp (fun c h=>gp (hZ (b:=decide (k<((ns.map D.int).length:Int))) (s:=[.v (.fl (ns.map D.int)),.v (.int k),.v (.int (7919*k+1000003)),.e]) rfl (Af c1)) h) ?_;by_cases c2:(0:Int)<((ns.map D.int).length:Int)
   ·obtain⟨v,hv,hm',_⟩:=vp (xs:=ns.map D.int) (Vl k (by lia)) (Yk k c2)
    obtain⟨z,_,rfl⟩:=Yf.mp hm';refine⟨z % 2147483629*31+7919*k,i8 (hZ (b:=decide ((0:Int)<((ns.map D.int).length:Int))) (s:=[.v (.fl (ns.map D.int)),.v (.int k),.v (.int (7919*k+1000003)),.e]) rfl (Ai c2)) ?_⟩;exact cw (x:=.int _) (aq (aq (aq (aq rfl (aq rfl rfl rfl rfl (oE c2)) rfl rfl (z:=(.int z,false)) (Dq hv)) rfl rfl rfl rfl) rfl rfl rfl (dJ (.inr ⟨by decide,by decide⟩))) (aq rfl rfl rfl rfl (dJ (.inl ⟨by decide,by decide⟩))) rfl rfl rfl) rfl
   ·exact⟨7919*k+1000003,gp (hZ (b:=decide ((0:Int)<((ns.map D.int).length:Int))) (s:=[.v (.fl (ns.map D.int)),.v (.int k),.v (.int (7919*k+1000003)),.e]) rfl (Af c2)) rfl⟩
 obtain⟨c,ec⟩:=first
 obtain⟨δ,eδ,hδ⟩:=key c;exact⟨δ,bw rfl (aw (s:=[.v (.fl (ns.map D.int)),.v (.int k),.v (.int (7919*k+1000003)),.e]) (cw (aq (aq rfl rfl rfl rfl (dJ (.inl ⟨by decide,by decide⟩))) rfl rfl rfl rfl) rfl) (aw ec eδ)) rfl,hδ⟩
theorem q8{α β:Type}{f:α->β}{l:List α}(inj:∀a b,f a=f b->a=b)(h:l.Nodup):(l.map f).Nodup:=by
 rw[List.Nodup,Qh];exact List.Pairwise.imp (fun hne e=>hne (inj _ _ e)) h
theorem xj{α β:Type}{f:α->β}{l:List α}(h:(l.map f).Nodup):l.Nodup:=by
 rw[List.Nodup,Qh]at h;exact List.Pairwise.imp (fun hne e=>hne (congrArg f e)) h
theorem q9{α β:Type}{f:α->β}:∀{l:List α},(l.map f).Nodup->∀{x y:α},x∈l->y∈l->f x=f y->x=y
 | [],_,_,_,hx,_,_=>by cases hx
 | a::l,h,x,y,hx,hy,e=>by
  rw[Zd,Xf]at h;rcases Xd.mp hx with h1|h1
  ·rcases Xd.mp hy with h2|h2
   ·rw[h1,h2]
   ·exact absurd (by rw[← h1,e];exact Wi h2) h.1
  ·rcases Xd.mp hy with h2|h2
   ·exact absurd (by rw[← h2,← e];exact Wi h1) h.1
   ·exact q9 h.2 h1 h2 e
def ab(i:Int):Int:=if i<0 then -i else i
theorem nH(i:Int):0<=ab i:=by unfold ab;split<;>lia
def gr(n b:Int):Int:=if n<0 then n-b else n+b
theorem jq{n b:Int}(hb:0<=b):ab (gr n b)=ab n+b:=by
 unfold ab gr;by_cases h:n<0
 ·simp only[Ad h];split<;>lia
 ·simp only[Ag h];split<;>lia
def fJ(h last:Int)(blk:List Int)(n:Int):List Int :=
 if ab h<ab n then [gr n last] else if n≠h then [n] else if 0<=h then blk.map (gr · h) else blk.reverse.map fun p=>0-gr p (0-h)
def lV(ns:List Int)(h last:Int)(blk:List Int):List Int:=ns.flatMap (fJ h last blk)
structure Nq(c:Int)(ns:List Int):Prop where
 nd:(ns.map ab).Nodup
 le:∀n∈ns,ab n<=c
theorem xk(x:Int):ab (0-x)=ab x:=by unfold ab;split<;>split<;>lia
theorem kG{h last c:Int}{blk:List Int}{n:Int}(B:Nq last blk)(hl:0<=last)(hn:n≠h->ab n≠ab h):((fJ h last blk n).map ab).Nodup/\∀x∈fJ h last blk n,(ab n<ab h/\ab x=ab n)∨(n=h/\ab h<=ab x/\ab x<=ab h+last)∨(ab h<ab n/\ab x=ab n+last):=by
 unfold fJ;by_cases c1:ab h<ab n
 ·rw[Ad c1];refine⟨by simp,fun x hx=>.inr (.inr ⟨c1,?_⟩)⟩
  rw[Vb.mp hx,jq hl]
 ·rw[Ag c1];by_cases c2:n≠h
  ·rw[Ad c2];refine⟨by simp,fun x hx=>.inl ⟨?_,by rw[Vb.mp hx]⟩⟩
   have:=hn c2;lia
  ·rw[Ag c2];have e:n=h:=Classical.not_not.mp c2;subst e;by_cases c3:0<=n
   ·rw[Ad c3];have e:ab n=n:=by unfold ab;rw[Ag (by lia)]
    have em:(blk.map (gr · n)).map ab=(blk.map ab).map (·+n):=by
     rw[Yi,Yi];exact Qg fun p _=>jq c3
    refine⟨?_,fun x hx=>.inr (.inl ⟨rfl,?_⟩)⟩
    ·rw[em];exact q8 (fun a b h=>by have h':a+n=b+n:=h;lia) B.nd
    ·obtain⟨p,hp,rfl⟩:=Yf.mp hx;have:=B.le p hp;have:=nH p;rw[jq c3,e];lia
   ·rw[Ag c3];have e:ab n=0-n:=by unfold ab;rw[Ad (by lia)];lia
    have em:(blk.reverse.map fun p=>0-gr p (0-n)).map ab=(blk.reverse.map ab).map (·+(0-n)):=by
     rw[Yi,Yi];exact Qg fun p _=>by
      show ab (0-gr p (0-n))=ab p+(0-n);rw[xk,jq (by lia)]
    refine⟨?_,fun x hx=>.inr (.inl ⟨rfl,?_⟩)⟩
    ·rw[em];refine q8 (fun a b h=>by have h':a+(0-n)=b+(0-n):=h;lia) ?_
     rw[List.map_reverse];exact List.pairwise_reverse.mpr (List.Pairwise.imp (fun h=>Ne.symm h) B.nd)
    ·obtain⟨p,hp,rfl⟩:=Yf.mp hx;have:=B.le p (List.mem_reverse.mp hp);have:=nH p;rw[xk,jq (by lia),e];lia
theorem s9{α β:Type}{f:α->List β}{g:β->Int}:∀{l:List α},(∀x∈l,((f x).map g).Nodup)->l.Pairwise (fun x y=>∀a∈f x,∀b∈f y,g a≠g b)->((l.flatMap f).map g).Nodup
 | [],_,_=>by simp
 | x::r,h1,h2=>by
  rw[Vh,Ye];rw[List.pairwise_cons]at h2;refine List.nodup_append.mpr ⟨h1 x Wc,s9 (fun y hy=>h1 y (Zc _ hy)) h2.2,fun a ha b hb=>?_⟩;obtain⟨a',ha',rfl⟩:=Yf.mp ha;obtain⟨b',hb',rfl⟩:=Yf.mp hb;obtain⟨y,hy,hb2⟩:=List.mem_flatMap.mp hb';exact h2.1 y hy a' ha' b' hb2
theorem Fz{ns blk:List Int}{h last c:Int}(N:Nq c ns)(B:Nq last blk)(hl:0<=last)(hh:h∈ns):Nq (c+last) (lV ns h last blk):=by
 have ne:∀n∈ns,n≠h->ab n≠ab h:=fun n hn z e=>by
  exact z (q9 N.nd hn hh e)
 refine⟨s9 (fun n hn=>(kG (c:=c) B hl (ne n hn)).1) ?_,fun x hx=>?_⟩
 ·have:=N.nd;rw[List.Nodup,Qh]at this;refine List.Pairwise.imp_of_mem (fun {a b} ha hb hab x hx y hy=>?_) this;have p:=(kG (c:=c) B hl (ne a ha)).2 x hx;have q:=(kG (c:=c) B hl (ne b hb)).2 y hy;intro e;rcases p with⟨p1,p2⟩|⟨p1,p2,p3⟩|⟨p1,p2⟩<;>rcases q with⟨q1,q2⟩|⟨q1,q2,q3⟩|⟨q1,q2⟩<;>first|lia|(subst p1;first|(subst q1;exact hab rfl)|lia)|(subst q1;lia)
 ·obtain⟨n,hn,hx⟩:=List.mem_flatMap.mp hx;have:=N.le n hn;have:=N.le h hh;rcases(kG (c:=c) B hl (ne n hn)).2 x hx with⟨p1,p2⟩|⟨p1,p2,p3⟩|⟨p1,p2⟩<;>lia
theorem lW{h last:Int}{blk:List Int}{n:Int}:(fJ h last blk n).length=if n=h then blk.length else 1:=by
 unfold fJ;by_cases c1:ab h<ab n
 ·rw[Ad c1,Ag (fun z=>by rw[z]at c1;lia)];rfl
 ·rw[Ag c1];by_cases c2:n≠h
  ·rw[Ad c2,Ag c2];rfl
  ·rw[Ag c2,Ad (Classical.not_not.mp c2)];split<;>simp
theorem pS{ns blk:List Int}{h last:Int}(nd:ns.Nodup)(hh:h∈ns):(lV ns h last blk).length+1=ns.length+blk.length:=by
 unfold lV;induction ns with
 | nil=>cases hh
 | cons n r ih =>
  rw[Vh,Yb,lW];rw[Xf]at nd;have all1:∀l:List Int,h∉l->(l.flatMap (fJ h last blk)).length=l.length:=fun l=>by
   induction l with
   | nil=>intro _;rfl
   | cons a l ihl =>
    intro ha;rw[Vh,Yb,lW,Ag (fun z=>ha (by rw[z];exact Wc)),ihl (fun z=>ha (Zc _ z)),Yc];lia
  by_cases e:n=h
  ·subst e;rw[Ad rfl,all1 r nd.1,Yc];lia
  ·rw[Ag e];have hr:h∈r:=by
    rcases Xd.mp hh with z|z
    ·exact absurd z.symm e
    ·exact z
   have:=ih nd.2 hr;rw[Yc];lia
abbrev IL(xs:List Int):D:=.lst (xs.map D.int)
theorem iL(n b:Int):cc [.int n,.int b]=some (.int (gr n b),false):=by
 unfold gr;by_cases c:n<0
 ·rw[Ad c];exact bw (o:=.rt (.d (.int (n-b))) [.v (.int n),.v (.int b)]) rfl (oi (i8 (hZ (b:=decide (n<0)) (s:=[.v (.int n),.v (.int b)]) rfl (Ai c)) rfl)) rfl
 ·rw[Ag c];exact bw (o:=.rt (.d (.int (n+b))) [.v (.int n),.v (.int b)]) rfl (aw (gp (hZ (b:=decide (n<0)) (s:=[.v (.int n),.v (.int b)]) rfl (Af c)) rfl) rfl) rfl
theorem lX(i:Int):b1 qI [.int i]=some (.int (ab i),false):=rfl
theorem Dr{i j:Int}:bGt (.int i) (.int j)=some (.bl (decide (j<i)),false):=rfl
theorem gK{i:Nat}{d:D}{st st':En}{t:Sl}(h:st[i]?=some t)(hs:t.isIo=false)(h2:st.set i (.v d)=st':=by rfl):gN i d st=some st':=by
 simp only[gN,iT,h,Xa,hs,Zf,if_false,h2]
theorem xp{ns b0 acc:List Int}{at_ h last n:Int}(hz:acc.length+(b0.length+1)<=100000) :
  d9 [.v (IL ns),.v (.int at_),.v (IL (b0++[last])),.v (.int h),.o (IL acc),.v (.int n)]=some (.nx [.v (IL ns),.v (.int at_),.v (IL (b0++[last])),.v (.int h),.o (IL (acc++fJ h last (b0++[last]) n)),.v (.int n)]):=by
 unfold fJ;have hl:(acc.map D.int).length<1000000:=by rw[Ya];lia
 have lb:bIx (IL (b0++[last])) (.int (-1))=some (.int last,false):=by
  rw[show IL (b0++[last])=.lst (b0.map D.int++[.int last]) by simp[IL]];exact zk
 by_cases c1:ab h<ab n
 ·rw[Ad c1];refine i8 (aH (aq (bv rfl rfl (lX n)) (bv rfl rfl (lX h)) rfl rfl Dr) (c:=true) (by show some (decide (ab h<ab n))=_;rw[Ai c1])) ?_
  refine cJ (km rfl rfl rfl (aA (aX (aA rfl (aA (aq rfl rfl rfl rfl lb) rfl)) rfl (iL n last) rfl) rfl) rfl rfl rfl (gJ hl) (by show [_,_,_,_,Sl.o _,_]=[_,_,_,_,Sl.o _,_];simp))
 ·rw[Ag c1];refine gp (aH (aq (bv rfl rfl (lX n)) (bv rfl rfl (lX h)) rfl rfl Dr) (c:=false) (by show some (decide (ab h<ab n))=_;rw[Af c1])) ?_
  by_cases c2:n≠h
  ·rw[Ad c2];refine i8 (aH (aq rfl rfl rfl rfl xg) (c:=true) (by show some (!decide (n=h))=_;rw[Af c2];rfl)) ?_
   exact cJ (km rfl rfl rfl rfl rfl rfl rfl (gJ hl) (by show [_,_,_,_,Sl.o _,_]=[_,_,_,_,Sl.o _,_];simp))
  ·rw[Ag c2];have e:n=h:=Classical.not_not.mp c2;refine gp (aH (aq rfl rfl rfl rfl xg) (c:=false) (by show some (!decide (n=h))=_;rw[Ai e];rfl)) ?_
   have hc:∀l:List Int,l.length=b0.length+1->(true&&decide ((l.map D.int).length<=1000000))=true:=fun l e=>by rw[Ya,Ai (by lia)];rfl
   by_cases c3:0<=h
   ·rw[Ad c3];refine i8 (hZ (b:=decide (0<=h)) (s:=[.v (IL ns),.v (.int at_),.v (IL (b0++[last])),.v (.int h),.o (IL acc),.v (.int n)]) rfl (Ai c3)) ?_;have cl:=ci (fg:=gN 0) (fc:=eX) (fe:=gF) (k:=1) D.int (fun p=>D.int (gr p h)) [.e,.v (.int h)] (b0++[last]) fun p _=>⟨[.v (.int p),.v (.int h)],[.v (.int p),.v (.int h)],.d (.int (gr p h)),[.v (.int p),.v (.int h)],[.v (.int p),.v (.int h)],rfl,rfl,aX rfl rfl (iL p h) rfl,rfl,rfl⟩;refine cJ (km rfl rfl rfl (aA (dP (jb rfl rfl) (hc _ (by simp)) cl) rfl) rfl rfl rfl (sA (by rw[Ya,Ya,Yb,Zh];lia)) (by show [_,_,_,_,Sl.o _,_]=[_,_,_,_,Sl.o _,_];simp))
   ·rw[Ag c3];refine gp (hZ (b:=decide (0<=h)) (s:=[.v (IL ns),.v (.int at_),.v (IL (b0++[last])),.v (.int h),.o (IL acc),.v (.int n)]) rfl (Af c3)) ?_;have cl:=ci (fg:=gN 0) (fc:=eX) (fe:=gG) (k:=1) D.int (fun p=>D.int (0-gr p (0-h))) [.e,.v (.int h)] (b0++[last]).reverse fun p _=>⟨[.v (.int p),.v (.int h)],[.v (.int p),.v (.int h)],.d (.int (0-gr p (0-h))),[.v (.int p),.v (.int h)],[.v (.int p),.v (.int h)],rfl,rfl,aq rfl (aX rfl rfl (iL p (0-h)) rfl) rfl rfl rfl,rfl,rfl⟩;refine cJ (km rfl rfl rfl (aA (dP (Fy rfl rfl) (by rw[A2];exact hc (b0++[last]) (by simp)) (by rw[← List.map_reverse];exact cl)) rfl) rfl rfl rfl (sA (by rw[Ya,Ya,A2,Yb,Zh];lia)) (by show [_,_,_,_,Sl.o _,_]=[_,_,_,_,Sl.o _,_];simp))
theorem xq{α β:Type}(l:List α)(g:α->List β)(n:Nat)(h:∀x∈l,(g x).length<=n):(l.flatMap g).length<=l.length*n:=by
 induction l with
 | nil=>simp
 | cons x r ih =>
  rw[Vh,Yb,Yc,Nat.succ_mul];have h1:=h x Wc;have h2:=ih fun y hy=>h y (Zc _ hy);lia
theorem uM{ns b0:List Int}{i:Nat}{h last:Int}(hi:ns[i]?=some h)(hz:ns.length*(b0.length+1)<=10000):dR [IL ns,.int i,IL (b0++[last])]=some (IL (lV ns h last (b0++[last])),true):=by
 have lenO:∀n,(fJ h last (b0++[last]) n).length<=b0.length+1:=fun n=>by rw[lW];split<;>simp
 have n1:1<=ns.length:=by have:=(Va.mp hi).1;lia
 have b1:b0.length+1<=10000:=by
  have:=Nat.mul_le_mul_right (b0.length+1) n1;lia
 have tot:=xq ns (fun n=>(fJ h last (b0++[last]) n).map D.int) (b0.length+1) fun n _=>by rw[Ya];exact lenO n
 have st0:([]:List D).length+(ns.flatMap fun n=>(fJ h last (b0++[last]) n).map D.int).length<=10000:=by rw[Ve];lia
 obtain⟨sf,e1,s5,rfl,_⟩:=pC (f:=D.int) (g:=fun n=>(fJ h last (b0++[last]) n).map D.int) (B:=d9) (fg:=gN 5) (fun acc st=>∃s5,st=[.v (IL ns),.v (.int i),.v (IL (b0++[last])),.v (.int h),.o (.lst acc),s5]/\s5.isIo=false/\∃as:List Int,acc=as.map D.int) ns 10000 (by
   rintro acc n st hn hb ⟨s5,rfl,hs,as,rfl⟩;rw[Ya]at hb
   exact⟨[.v (IL ns),.v (.int i),.v (IL (b0++[last])),.v (.int h),.o (IL as),.v (.int n)],_,gK (t:=s5) rfl hs,xp (by lia),⟨.v (.int n),by rw[← Ye],rfl,_,Ye.symm⟩⟩) ns [] [.v (IL ns),.v (.int i),.v (IL (b0++[last])),.v (.int h),.o (.lst []),.e] (fun _ h=>h) st0 ⟨.e,rfl,rfl,[],rfl⟩
 have ef:(ns.flatMap fun n=>(fJ h last (b0++[last]) n).map D.int)=(lV ns h last (b0++[last])).map D.int:=by
  unfold lV;rw[List.map_flatMap]
 rw[List.nil_append,ef]at e1;have hd:(ns.map D.int)[i]?=some (.int h):=by rw[Xb,hi];rfl
 refine bw (o:=.rt (.s 4) [.v (IL ns),.v (.int i),.v (IL (b0++[last])),.v (.int h),.o (IL (lV ns h last (b0++[last]))),s5]) rfl ?_ rfl;refine aw (s:=[.v (IL ns),.v (.int i),.v (IL (b0++[last])),.v (.int h),.e,.e]) (cw (aq rfl rfl rfl rfl (iK hd)) rfl) ?_;refine aw (s:=[.v (IL ns),.v (.int i),.v (IL (b0++[last])),.v (.int h),.o (.lst []),.e]) rfl ?_;exact aw (dG (jb rfl rfl) e1) rfl
end K39
namespace VF
open PySem L2
theorem gk{i:Nat}{s t:Sl}{st s1:En}(h:st[i]?=some t)(n:t.isIo=false)(e:st.set i s=s1:=by rfl):iT i s st=some s1:=by
 unfold iT;rw[h];show(if t.isIo=true then none else some (st.set i s))=_;rw[Ag (by rw[n];decide),e]
theorem nI{α:Type}(f:α->D):∀(xs:List α)(i:Nat),(xs.map f).eraseIdx i=(xs.eraseIdx i).map f
 | [],_=>by simp
 | x::xs,0=>by simp
 | x::xs,i+1=>by simp[nI f xs i]
theorem xu{xs:List D}{i:Int}(h0:0<=i)(h1:i<xs.length)(h2:xs.length<=1000000)(hk:i.toNat<xs.length):lg (.lst xs) [.int i]=some (xs[i.toNat],.lst (xs.eraseIdx i.toNat)):=by
 show(if -(2 ^ 63)<=i/\i<2 ^ 63 then(seqIndex? i xs.length).bind fun k=>(xs[k]?).bind fun y=>some (y,D.lst (xs.eraseIdx k)) else none)=_;rw[Ad ⟨by lia,by lia⟩,PySem.seqIndex_of h0 h1]
 show(xs[i.toNat]?).bind (fun y=>some (y,D.lst (xs.eraseIdx i.toNat)))=_;rw[Za hk];rfl
theorem tf{α:Type}{f:α->D}{xs:List α}{i:Nat}{x:α}(h:xs[i]?=some x)(hl:xs.length<=1000):lg (.lst (xs.map f)) [.int (i:Int)]=some (f x,.lst ((xs.eraseIdx i).map f)):=by
 have hi:=(Va.mp h).1;have:=xu (xs:=xs.map f) (i:=(i:Int)) (by lia) (by rw[Ya];lia) (by rw[Ya];lia) (by rw[Ya];lia)
 have e1:((i:Int)).toNat=i:=by lia
 have e2:(xs.map f)[((i:Int)).toNat]?=some (f x):=by rw[e1,Xb,h];rfl
 obtain⟨_,e3⟩:=Va.mp e2;rw[this,e3,e1,nI]
theorem zm{a b:List D}(h:a.length+b.length<=1000000):bc (.lst a) (.lst b)=some (.lst (a++b),true):=by
 have e1:m5 (.lst a) (.lst b)=none:=rfl;have e2:m6 (.lst a) (.lst b)=none:=rfl;have e3:qB (.lst a) (.lst b)=some (.lst (a++b),true):=by simp only[qB];rw[Ad h]
 unfold bc orD;rw[e1,e2,e3]
end VF
namespace K39
open PySem L2 VF VF22
def ups(m:Nat):List Int:=(List.range m).map fun t=>((t+1:Nat):Int)
theorem xv(m:Nat):(ups m).Nodup:=q8 (fun a b h=>by have h':((a+1:Nat):Int)=((b+1:Nat):Int):=h;lia) List.nodup_range
theorem g8{m:Nat}{x:Int}(h:x∈ups m):1<=x/\x<=m:=by
 obtain⟨t,ht,rfl⟩:=Yf.mp h;have:=List.mem_range.mp ht;lia
theorem zn(m:Nat):rng 1 m=(ups m).map D.int:=by
 unfold rng ups;rw[Yi];exact Qg fun t _=>by show D.int (1+(t:Int))=D.int ((t+1:Nat):Int);congr 1;lia
theorem rb{l:List Int}{i:Nat}{x:Int}(h:l[i]?=some x):l.Perm (x::l.eraseIdx i):=by
 have hi:i<l.length:=(Va.mp h).1;have ex:l[i]=x:=(Va.mp h).2;rw[List.eraseIdx_eq_take_drop_succ];have:l=l.take i++x::l.drop (i+1):=by
  rw[← ex,← Ym hi,CP]
 exact(List.Perm.of_eq this).trans Vi
structure Blk(most:Int)(b:List Int):Prop where
 mid:∃(mid:List Int)(m:Nat),b=(0::mid)++[((m+1:Nat):Int)]/\(mid.map ab).Perm (ups m)/\1<=m/\(m:Int)<=most
theorem re{δ:D}{most:Int}{m:Nat}{left mid:List Int}{sg k:Int}(hδ:cN δ)(hl:left≠[])(hl2:left.length<=100)(hm:mid.length<=100)(hs:sg=1∨sg=-1)(pos:∀y∈left,0<=y) :
  ∃δ' y z left',fq [.io δ,.v (.int most),.v (.int m),.o (IL left),.o (IL [1,sg]),.o (IL (0::mid)),.v (.int k)]=some (.nx [.io δ',.v (.int most),.v (.int m),.o (IL left'),.o (IL [1,sg]),.o (IL (0::(mid++[z]))),.v (.int k)])/\cN δ'/\left.Perm (y::left')/\ab z=y:=by
 have hp:0<left.length:=List.length_pos_iff.mpr hl;obtain⟨d1,δ1,e1,d10,d11,f1⟩:=bx (n:=(left.length:Int)) hδ (by lia) (by lia)
 obtain⟨d2,δ2,e2,d20,d21,f2⟩:=bx (n:=2) f1 (by decide) (by decide)
 obtain⟨i,rfl⟩:=Wf d10;have hi:i<left.length:=by lia
 have hx:left[i]?=some left[i]:=Za hi;have hy:=pos left[i] (Wg hi);obtain⟨s,es,hs'⟩:∃s,bIx (IL [1,sg]) (.int d2)=some (.int s,false)/\(s=1∨s=-1):=by
  have:d2=0∨d2=1:=by lia
  rcases this with rfl|rfl
  ·exact⟨1,rfl,.inl rfl⟩
  ·exact⟨sg,rfl,hs⟩
 refine⟨δ2,left[i],left[i]*s,left.eraseIdx i,?_,f2,rb hx,?_⟩
 ·have ln:dF [IL left]=some (.int left.length,false):=by
   show some (D.int ((left.map D.int).length:Nat),false)=_;rw[Ya]
  refine cJ (km rfl rfl rfl (aA (aq (r1:=.d (.int left[i])) (km rfl rfl rfl (aA (bR rfl rfl (aA (bv rfl rfl ln) rfl) rfl rfl rfl e1) rfl) rfl rfl rfl (tf hx (by lia))) (aq rfl (bR rfl rfl rfl rfl rfl rfl e2) rfl rfl es) rfl rfl (dJ (.inr ?_))) rfl) rfl rfl rfl (gJ ?_) ?_)
  ·rcases hs' with rfl|rfl<;>decide
  ·simp only[Ya,Yc];lia
  ·show [_,_,_,_,_,Sl.o _,_]=[_,_,_,_,_,Sl.o _,_];simp[Sl.put]
 ·rcases hs' with rfl|rfl
  ·rw[Int.mul_one];unfold ab;rw[Ag (by lia)]
  ·unfold ab;split<;>lia
theorem pU{δ:D}{most:Int}(hδ:cN δ)(h0:1<=most)(h1:most<=90):∃b δ',dw δ [.int most]=some ((IL b,true),δ')/\Blk most b/\cN δ':=by
 obtain⟨d1,δ1,e1,d10,d11,f1⟩:=bx (n:=most) hδ (by lia) (by lia)
 obtain⟨d2,δ2,e2,d20,d21,f2⟩:=bx (n:=3) f1 (by decide) (by decide)
 obtain⟨c,rfl⟩:=Wf d10;have hm:(1:Int)+(c:Int)=((c+1:Nat):Int):=by lia
 obtain⟨sg,esg,hsg⟩:∃sg:Int,(1:Int)-2*(if decide (d2=0)=true then 1 else 0)=sg/\(sg=1∨sg=-1):=by
  by_cases q:d2=0
  ·exact⟨-1,by simp[q],.inr rfl⟩
  ·exact⟨1,by simp[q],.inl rfl⟩
 obtain⟨sf,el,δ3,left,mid,s6,rfl,f3,pm,ln,_⟩:=bu (fg:=gN 6) (B:=fq) (fun t:Nat=>D.int (0+(t:Int))) (List.range (c+1)) (fun gone st=>∃δ' left mid s6,st=[.io δ',.v (.int most),.v (.int ((c+1:Nat):Int)),.o (IL left),.o (IL [1,sg]),.o (IL (0::mid)),s6]/\cN δ'/\(left++mid.map ab).Perm (ups (c+1))/\mid.length=gone.length/\s6.isIo=false)
  (by
   rintro gone t rest st ha ⟨δ',left,mid,s6,rfl,hf,pm,hl,h6⟩;have tl:gone.length+rest.length+1=c+1:=by
    have:=congrArg List.length ha;rw[We,Yb,Yc]at this;lia
   have ll:left.length+mid.length=c+1:=by
    have:=pm.length_eq;rw[Yb,Ya]at this;rw[this];unfold ups;rw[Ya,We]
   obtain⟨δ4,y,z,left',eb,f4,py,hz⟩:=re (δ:=δ') (most:=most) (m:=c+1) (left:=left) (mid:=mid) (sg:=sg) (k:=0+(t:Int)) hf (fun z=>by rw[z,Ve]at ll;lia) (by lia) (by lia) hsg (fun y hy=>by
    have:=g8 (pm.mem_iff.mp (Qi _ hy));lia)
   refine⟨_,_,gK (t:=s6) rfl h6,eb,δ4,left',mid++[z],.v (.int (0+(t:Int))),rfl,f4,?_,by simp[hl],rfl⟩
   refine List.Perm.trans ?_ pm;rw[Ye,Wl,hz,← Wj];refine List.perm_append_comm.trans ?_
   exact(List.Perm.append_right (mid.map ab) py).symm)
  (List.range (c+1)) [] [.io δ2,.v (.int most),.v (.int ((c+1:Nat):Int)),.o (IL (ups (c+1))),.o (IL [1,sg]),.o (IL [0]),.e] rfl ⟨δ2,ups (c+1),[],.e,rfl,f2,by simp,rfl,rfl⟩
 rw[We]at ln;have ll:left=[]:=by
  have:=pm.length_eq;rw[Yb,Ya,ln]at this;unfold ups at this;rw[Ya,We]at this;exact Qk (by lia)
 subst ll;rw[List.nil_append]at pm;refine⟨(0::mid)++[((c+1+1:Nat):Int)],δ3,?_,⟨mid,c+1,rfl,pm,by lia,by lia⟩,f3⟩
 refine cx (o:=.rt (.f (IL ((0::mid)++[((c+1+1:Nat):Int)]))) [.io δ3,.v (.int most),.v (.int ((c+1:Nat):Int)),.o (IL []),.o (IL [1,sg]),.o (IL (0::mid)),s6]) rfl ?_ rfl;refine aw (s:=[.io δ1,.v (.int most),.v (.int ((c+1:Nat):Int)),.e,.e,.e,.e]) (cw (aq rfl (bR rfl rfl rfl rfl rfl rfl e1) rfl rfl (z:=(.int ((c+1:Nat):Int),false)) (by show some (D.int (1+(c:Int)),false)=_;rw[hm])) rfl) ?_
 refine aw (s:=[.io δ1,.v (.int most),.v (.int ((c+1:Nat):Int)),.o (IL (ups (c+1))),.e,.e,.e]) (dj (x:=IL (ups (c+1))) (s:=[.io δ1,.v (.int most),.v (.int ((c+1:Nat):Int)),.e,.e,.e,.e]) ?_ rfl) ?_
 ·have r:=Fx (fa:=ad (fC (.int 1)) (ad (fOp bc (af 2) (fC (.int 1))) av)) (st:=[.io δ1,.v (.int most),.v (.int ((c+1:Nat):Int)),.e,.e,.e,.e]) rfl rfl (i:=1) (j:=((c+1:Nat):Int)+1) ⟨by lia,by lia,by lia,by lia,by lia⟩
  have e:(((c+1:Nat):Int)+1-1).toNat=c+1:=by lia
  rw[e,zn]at r;exact r
 refine aw (s:=[.io δ2,.v (.int most),.v (.int ((c+1:Nat):Int)),.o (IL (ups (c+1))),.o (IL [1,sg]),.e,.e]) (dj (x:=IL [1,sg]) (eF (aA rfl (aA (aq rfl (aq rfl (bv (aA (aq (bR rfl rfl rfl rfl rfl rfl e2) rfl rfl rfl jT) rfl) rfl (z:=(.int (if decide (d2=0)=true then 1 else 0),false)) rfl) rfl rfl (dJ (.inl ⟨by decide,by decide⟩))) rfl rfl (z:=(.int sg,false)) (by rw[← esg];rfl)) rfl)) rfl (by simp)) rfl) ?_
 refine aw (s:=[.io δ2,.v (.int most),.v (.int ((c+1:Nat):Int)),.o (IL (ups (c+1))),.o (IL [1,sg]),.o (IL [0]),.e]) rfl ?_;refine aw (dG (ja (j:=((c+1:Nat):Int)) rfl rfl ⟨by lia,by lia⟩) el) ?_
 exact bK (aq rfl rfl rfl rfl (z:=(IL ((0::mid)++[((c+1+1:Nat):Int)]),true)) (by
  have:=zm (a:=(0::mid).map D.int) (b:=[D.int (((c+1:Nat):Int)+1)]) (by simp only[Ya,Yc,Ve];lia)
  refine this.trans ?_
  rw[IL,Ye];rfl))
theorem rj{most:Int}{b:List Int}(B:Blk most b):∃b0 last,b=b0++[last]/\Nq last b/\2<=last/\last<=most+1/\(b0.length:Int)=last:=by
 obtain⟨mid,m,rfl,pm,h1,h2⟩:=B;have lm:mid.length=m:=by
  have:=pm.length_eq;rw[Ya]at this;rw[this];unfold ups;rw[Ya,We]
 have e:(((0::mid)++[((m+1:Nat):Int)]).map ab)=0::(mid.map ab++[((m+1:Nat):Int)]):=by
  rw[Ye,Zd,Wl];have a1:ab 0=0:=rfl;have a2:ab ((m+1:Nat):Int)=((m+1:Nat):Int):=by unfold ab;rw[Ag (by lia)]
  rw[a1,a2];rfl
 refine⟨0::mid,_,rfl,⟨?_,fun n hn=>?_⟩,by lia,by lia,by rw[Yc,lm]⟩
 ·rw[e];have pn:(mid.map ab).Nodup:=pm.nodup_iff.mpr (xv m);rw[Xf];refine⟨fun z=>?_,List.nodup_append.mpr ⟨pn,by simp,fun a ha b hb=>?_⟩⟩
  ·rcases Vf.mp z with z|z
   ·have:=g8 (pm.mem_iff.mp z);lia
   ·have:=Vb.mp z;lia
  ·have:=g8 (pm.mem_iff.mp ha);rw[Vb.mp hb];lia
 ·have hm:ab n∈((0::mid)++[((m+1:Nat):Int)]).map ab:=Wi hn;rw[e]at hm;rcases Xd.mp hm with z|z
  ·lia
  ·rcases Vf.mp z with z|z
   ·have:=g8 (pm.mem_iff.mp z);lia
   ·have:=Vb.mp z;lia
theorem Nq.up{c c':Int}{ns:List Int}(h:Nq c ns)(hc:c<=c'):Nq c' ns:=⟨h.nd,fun n hn=>Int.le_trans (h.le n hn) hc⟩
theorem lY(ns:List Int):dF [IL ns]=some (.int ns.length,false):=by
 show some (D.int ((ns.map D.int).length:Nat),false)=_;rw[Ya]
structure Np(ns:List Int):Prop where
 ex:∃mid:List Int,ns=0::(mid++[(mid.length:Int)+1])
 nm:Nq ((ns.length:Int)-1) ns
theorem Hg:ab 0=0:=rfl
theorem lZ{x:Int}(h:0<=x):ab x=x:=by unfold ab;rw[Ag (by lia)]
theorem xw{most:Int}{b:List Int}(B:Blk most b):Np b:=by
 obtain⟨b0,last,e,N,h2,h3,h4⟩:=rj B;obtain⟨mid,m,rfl,pm,h1,_⟩:=B;have lm:mid.length=m:=by
  have:=pm.length_eq;rw[Ya]at this;rw[this];unfold ups;rw[Ya,We]
 refine⟨⟨mid,by rw[lm];rfl⟩,N.up ?_⟩
 have h5:(b0++[last]).length=b0.length+1:=by simp
 have h6:=congrArg List.length e;lia
theorem FB{ns blk:List Int}{h:Int}(N:Np ns)(Bk:Np blk)(hh:h∈ns):Np (lV ns h ((blk.length:Int)-1) blk):=by
 have pl:=pS (blk:=blk) (last:=(blk.length:Int)-1) (xj N.nm.nd) hh;obtain⟨bm,eb⟩:=Bk.ex;obtain⟨mid,en⟩:=N.ex;have lb:blk.length=bm.length+2:=by rw[eb];simp
 have ln:ns.length=mid.length+2:=by rw[en];simp
 have nq:=Fz N.nm Bk.nm (by lia) hh
 have hle:=N.nm.le h hh;refine⟨?_,nq.up (by lia)⟩
 obtain⟨Y,eY⟩:∃Y,fJ h ((blk.length:Int)-1) blk 0=0::Y:=by
  unfold fJ;rw[Ag (by have:=nH h;rw[Hg];lia)]
  by_cases c:(0:Int)≠h
  ·rw[Ad c];exact⟨[],rfl⟩
  ·rw[Ag c];have:h=0:=(Classical.not_not.mp c).symm;subst this;rw[Ad (Int.le_refl 0),eb];exact⟨_,rfl⟩
 obtain⟨V,eV⟩:∃V,fJ h ((blk.length:Int)-1) blk ((mid.length:Int)+1)=V++[(mid.length:Int)+1+((blk.length:Int)-1)]:=by
  unfold fJ;by_cases c:ab h<ab ((mid.length:Int)+1)
  ·rw[Ad c];refine⟨[],?_⟩;unfold gr;rw[Ag (by lia)];rfl
  ·rw[Ag c];have a1:ab ((mid.length:Int)+1)=(mid.length:Int)+1:=lZ (by lia)
   rw[a1]at c;have he:(mid.length:Int)+1=h:=q9 N.nm.nd (by rw[en];simp) hh (by rw[a1];lia)
   rw[Ag (fun z=>z he),Ad (by lia)]
   have:blk=(0::bm)++[(bm.length:Int)+1]:=by rw[eb];rfl
   refine⟨(0::bm).map (gr · h),?_⟩;have e2:gr ((bm.length:Int)+1) h=(mid.length:Int)+1+((blk.length:Int)-1):=by
    unfold gr;rw[Ag (by lia)];lia
   conv=>lhs;rw[this]
   rw[Ye,Wl,e2]
 have ef:lV ns h ((blk.length:Int)-1) blk=0::((Y++(mid.flatMap (fJ h ((blk.length:Int)-1) blk)++V))++[(mid.length:Int)+1+((blk.length:Int)-1)]):=by
  unfold lV
  conv=>lhs;rw[en]
  rw[Vh,A3,BF,eY,eV];simp
 refine⟨Y++(mid.flatMap (fJ h ((blk.length:Int)-1) blk)++V),?_⟩;rw[ef]at pl;rw[Yc,Yb,Zh]at pl
 conv=>lhs;rw[ef]
 congr 3;lia
theorem xy{δ:D}{most:Int}{ns:List Int}{k:Int}{s4 s5 s6:Sl}(hδ:cN δ)(h0:5<=most)(h1:most<=40)(N:Np ns)(l0:2<=ns.length)(l1:(ns.length:Int)<=most+2)(i4:s4.isIo=false)(i5:s5.isIo=false)(i6:s6.isIo=false) :
  ∃δ' ns' t4 t5 t6,dI [.io δ,.v (.int most),.o (IL ns),.v (.int k),s4,s5,s6]=some (.nx [.io δ',.v (.int most),.o (IL ns'),.v (.int k),t4,t5,t6])/\cN δ'/\Np ns'/\2<=ns'.length/\(ns'.length:Int)<=most+2/\t4.isIo=false/\t5.isIo=false/\t6.isIo=false:=by
 obtain⟨d1,δ1,e1,d10,d11,f1⟩:=bx (n:=3) hδ (by decide) (by decide)
 obtain⟨v,ev,v0,v1⟩:∃v,bIx (.lst [.int 2,.int 4,.int most]) (.int d1)=some (.int v,false)/\1<=v/\v<=most:=by
  have:d1=0∨d1=1∨d1=2:=by lia
  rcases this with rfl|rfl|rfl
  ·exact⟨2,rfl,by lia,by lia⟩
  ·exact⟨4,rfl,by lia,by lia⟩
  ·exact⟨most,rfl,by lia,by lia⟩
 obtain⟨b,δ2,e2,B,f2⟩:=pU (most:=v) f1 v0 (by lia)
 have Bk:=xw B;obtain⟨b0,last,rfl,Bn,hl2,hl3,hl4⟩:=rj B;obtain⟨d3,δ3,e3,d30,d31,f3⟩:=bx (n:=(ns.length:Int)) f2 (by lia) (by lia)
 obtain⟨i,rfl⟩:=Wf d30;have hi:i<ns.length:=by lia
 have hx:ns[i]?=some ns[i]:=Za hi;have hmem:ns[i]∈ns:=Wg hi;have main:∀st4:En,st4=[.io δ3,.v (.int most),.o (IL ns),.v (.int k),.v (.int (most+2-ns.length)),.o (IL (b0++[last])),.v (.int (i:Int))]->∃ns' t5,(sIf (aV (fOp bLe (fOp jC (fCB dF (ad (af 5) av)) (fC (.int 1))) (af 4))) (aR (cO dR (ad (af 2) (ad (af 6) (ad (af 5) av)))) 2) cb) st4=some (.nx [.io δ3,.v (.int most),.o (IL ns'),.v (.int k),.v (.int (most+2-ns.length)),t5,.v (.int (i:Int))])/\Np ns'/\2<=ns'.length/\(ns'.length:Int)<=most+2/\t5.isIo=false:=by
  rintro st4 rfl;have lb:(((b0++[last]).length:Nat):Int)=last+1:=by rw[Yb,Zh];lia
  by_cases q:((b0++[last]).length:Int)-1<=most+2-ns.length
  ·have hpl:=pS (blk:=b0++[last]) (last:=last) (xj N.nm.nd) hmem;refine⟨lV ns ns[i] last (b0++[last]),.v (IL (b0++[last])),?_,(by have:=FB N Bk hmem;rwa [show(((b0++[last]).length:Nat):Int)-1=last by lia]at this),by lia,by lia,rfl⟩
   refine i8 (aH (aq (aq (bv rfl rfl (lY _)) rfl rfl rfl rfl) rfl rfl rfl rfl) (c:=true) (by show some (decide (((b0++[last]).length:Int)-1<=most+2-ns.length))=_;rw[Ai q])) ?_
   have hz:ns.length*(b0.length+1)<=10000:=by
    have h1:ns.length<=42:=by lia
    have h2:b0.length+1<=42:=by lia
    exact Qc (Nat.mul_le_mul h1 h2) (by decide)
   exact dj (cK rfl rfl (uM hx hz)) rfl
  ·refine⟨ns,.o (IL (b0++[last])),?_,N,l0,l1,rfl⟩;exact gp (aH (aq (aq (bv rfl rfl (lY _)) rfl rfl rfl rfl) rfl rfl rfl rfl) (c:=false) (by show some (decide (((b0++[last]).length:Int)-1<=most+2-ns.length))=_;rw[Af q])) rfl
 obtain⟨ns',t5,em,m1,m2,m3,m4⟩:=main _ rfl;refine⟨δ3,ns',.v (.int (most+2-ns.length)),t5,.v (.int (i:Int)),?_,f3,m1,m2,m3,rfl,m4,rfl⟩;refine aw (s:=[.io δ,.v (.int most),.o (IL ns),.v (.int k),.v (.int (most+2-ns.length)),s5,s6]) (cw (x:=.int (most+2-ns.length)) (aq (aq rfl rfl rfl rfl rfl) (bv rfl rfl (lY ns)) rfl rfl rfl) (gk (t:=s4) rfl i4)) ?_;refine aw (s:=[.io δ2,.v (.int most),.o (IL ns),.v (.int k),.v (.int (most+2-ns.length)),.o (IL (b0++[last])),s6]) (dj (bR rfl rfl (aA (aq (eF rfl rfl (by simp)) (bR rfl rfl rfl rfl rfl rfl e1) rfl rfl ev) rfl) rfl rfl rfl e2) (gk (t:=s5) rfl i5)) ?_
 refine aw (s:=[.io δ3,.v (.int most),.o (IL ns),.v (.int k),.v (.int (most+2-ns.length)),.o (IL (b0++[last])),.v (.int (i:Int))]) (cw (x:=.int (i:Int)) (bR rfl rfl (aA (bv rfl rfl (lY ns)) rfl) rfl rfl rfl e3) (gk (t:=s6) rfl i6)) ?_;exact em
theorem rm{δ:D}{most:Int}(hδ:cN δ)(h0:5<=most)(h1:most<=40):∃ns δ',fu δ [.int most]=some ((IL ns,true),δ')/\Np ns/\2<=ns.length/\ns.length<=42/\cN δ':=by
 obtain⟨d1,δ1,e1,d10,d11,f1⟩:=bx (n:=3) hδ (by decide) (by decide)
 obtain⟨ns0,δ2,eA,N0,l0,l1,f2⟩:∃ns0 δ2,(sIf (aV (fOp bEq (fIO aF 0 (ad (fC (.int 3)) av)) (fC (.int 0)))) (aR (fIO dw 0 (ad (fCB (b2 EM) (ad (af 1) (ad (fC (.int 6)) av))) av)) 2) cb) [.io δ,.v (.int most),.o (IL [0,1]),.e,.e,.e,.e]=some (.nx [.io δ2,.v (.int most),.o (IL ns0),.e,.e,.e,.e])/\Np ns0/\2<=ns0.length/\(ns0.length:Int)<=most+2/\cN δ2:=by
  by_cases q:d1=0
  ·obtain⟨mn,emn,mn0,mn1⟩:∃mn:Int,(if (6:Int)<most then 6 else most)=mn/\1<=mn/\mn<=most:=by
    by_cases z:(6:Int)<most
    ·exact⟨6,Ad z,by lia,by lia⟩
    ·exact⟨most,Ag z,by lia,by lia⟩
   obtain⟨b,δ2,e2,B,f2⟩:=pU (most:=mn) f1 mn0 (by lia)
   have Bk:=xw B;obtain⟨b0,last,rfl,Bn,hl2,hl3,hl4⟩:=rj B;refine⟨b0++[last],δ2,?_,Bk,by rw[Yb,Zh];lia,by rw[Yb,Zh];lia,f2⟩
   refine i8 (s:=[.io δ1,.v (.int most),.o (IL [0,1]),.e,.e,.e,.e]) (aH (aq (bR rfl rfl rfl rfl rfl rfl e1) rfl rfl rfl jT) (by show some (decide (d1=0))=_;rw[Ai q])) ?_
   exact dj (bR rfl rfl (aA (bv rfl rfl (z:=(.int mn,false)) (by rw[← emn];rfl)) rfl) rfl rfl rfl e2) rfl
  ·refine⟨[0,1],δ1,gp (s:=[.io δ1,.v (.int most),.o (IL [0,1]),.e,.e,.e,.e]) (aH (aq (bR rfl rfl rfl rfl rfl rfl e1) rfl rfl rfl jT) (by show some (decide (d1=0))=_;rw[Af q])) rfl,⟨⟨[],rfl⟩,by decide,fun n hn=>?_⟩,by decide,by show((2:Nat):Int)<=_;lia,f1⟩
   rcases Xd.mp hn with rfl|hn
   ·decide
   ·rw[Vb.mp hn];decide
 obtain⟨d3,δ3,e3,d30,d31,f3⟩:=bx (n:=5) f2 (by decide) (by decide)
 obtain⟨r,rfl⟩:=Wf d30;obtain⟨sf,el,δ4,ns,s3,s4,s5,s6,rfl,f4,N4,l4,l5,_⟩:=bu (fg:=gN 3) (B:=dI) (fun t:Nat=>D.int (0+(t:Int))) (List.range (r+1)) (fun gone st=>∃δ' ns s3 s4 s5 s6,st=[.io δ',.v (.int most),.o (IL ns),s3,s4,s5,s6]/\cN δ'/\Np ns/\2<=ns.length/\(ns.length:Int)<=most+2/\s3.isIo=false/\s4.isIo=false/\s5.isIo=false/\s6.isIo=false)
  (by
   rintro gone t rest st ha ⟨δ',ns,s3,s4,s5,s6,rfl,hf,N,k0,k1,i3,i4,i5,i6⟩;obtain⟨δ5,ns',t4,t5,t6,eb,g1,g2,g3,g4,g5,g6,g7⟩:=xy (k:=0+(t:Int)) hf h0 h1 N k0 k1 i4 i5 i6
   exact⟨_,_,gK (t:=s3) rfl i3,eb,δ5,ns',.v (.int (0+(t:Int))),t4,t5,t6,rfl,g1,g2,g3,g4,rfl,g5,g6,g7⟩)
  (List.range (r+1)) [] [.io δ3,.v (.int most),.o (IL ns0),.e,.e,.e,.e] rfl ⟨δ3,ns0,.e,.e,.e,.e,rfl,f3,N0,l0,l1,rfl,rfl,rfl,rfl⟩
 refine⟨ns,δ4,?_,N4,l4,by lia,f4⟩
 refine cx (o:=.rt (.s 2) [.io δ4,.v (.int most),.o (IL ns),s3,s4,s5,s6]) rfl ?_ rfl;refine aw (s:=[.io δ,.v (.int most),.o (IL [0,1]),.e,.e,.e,.e]) rfl ?_;refine aw eA ?_;have hr:(1:Int)+(r:Int)=((r+1:Nat):Int):=by lia
 refine aw (dG (ds:=(List.range (r+1)).map fun t:Nat=>D.int (0+(t:Int))) (s1:=[.io δ3,.v (.int most),.o (IL ns0),.e,.e,.e,.e]) ?_ el) rfl;have:=ja (fa:=ad (fOp bc (fC (.int 1)) (fIO aF 0 (ad (fC (.int 5)) av))) av) (st:=[.io δ2,.v (.int most),.o (IL ns0),.e,.e,.e,.e]) (j:=((r+1:Nat):Int)) (rs:=[.d (.int ((r+1:Nat):Int))]) (s1:=[.io δ3,.v (.int most),.o (IL ns0),.e,.e,.e,.e]) (aA (aq rfl (bR rfl rfl rfl rfl rfl rfl e3) rfl rfl (z:=(.int ((r+1:Nat):Int),false)) (by rw[← hr];rfl)) rfl) rfl ⟨by lia,by lia⟩
 exact this
end K39
namespace VF
open PySem L2
theorem tj(x:Str):ltS x x=false:=Af (List.lt_irrefl _)
theorem zo{x y z:Str}(h1:ltS x y=true)(h2:ltS y z=true):ltS x z=true:=Ai (List.lt_trans (Ak h1) (Ak h2))
theorem pV(xs:List D):kA [.lst xs]=some (.tup xs,false):=rfl
theorem uN{xs:List Str}(h:xs.length<64):oh [.lst (xs.map D.str)]=some (.lst ((be xs).map D.str),true):=by
 show(gC (xs.map D.str)).bind (fun ys=>if ys.length<64 then some (D.lst ((be ys).map D.str),true) else none)=_;rw[iE];show(if xs.length<64 then _ else _)=_;rw[Ad h]
theorem Hh{fa:FE}{st s:En}{r:Rs}{b:D->Option Rz}{d:D}{z:Rz}{r':Rs}(h1:fa st=some (r,s))(h2:cont s r=some d)(h3:b d=some z)(hz:mk z=r':=by rfl):fUn b fa st=some (r',s):=by
 simp only[fUn,h1,h2,h3,hz,Xa]
theorem jr{a b:List D}(h:a.length+b.length<=1000000):bc (.lst a) (.lst b)=some (.lst (a++b),true):=by
 have e1:m5 (.lst a) (.lst b)=none:=rfl;have e2:m6 (.lst a) (.lst b)=none:=rfl;have e3:qB (.lst a) (.lst b)=some (.lst (a++b),true):=by simp only[qB];rw[Ad h]
 unfold bc orD;rw[e1,e2,e3]
theorem tm(bt:Nat->Nat->Bool):∀k,argBest bt k<=k
 | 0=>Wa _
 | k+1=>by
  unfold argBest;split
  ·exact Wa _
  ·exact Nat.le_succ_of_le (tm bt k)
theorem ma{bt:Nat->Nat->Bool}(tr:∀a b c,bt a b=true->bt c b=false->bt c a=true->False)(ir:∀a,bt a a=false):∀k j,j<=k->bt j (argBest bt k)=false
 | 0,j,h=>by
  obtain rfl:j=0:=by lia
  exact ir 0
 | k+1,j,h=>by
  unfold argBest;cases e:bt (k+1) (argBest bt k) with
  | true =>
   rw[Ad rfl];by_cases hj:j=k+1
   ·subst hj;exact ir _
   ·have:=ma tr ir k j (by lia)
    cases e2:bt j (k+1) with
    | false=>rfl
    | true=>exact(tr _ _ _ e this e2).elim
  | false =>
   rw[Ag Bool.noConfusion];by_cases hj:j=k+1
   ·subst hj;exact e
   ·exact ma tr ir k j (by lia)
theorem xz{ys:List Str}(h:ys≠[]):f9 ys∈ys:=by
 have hp:=List.length_pos_iff.mpr h;have hb:=tm (fun i j=>ltS (ys.getD i Str.empty) (ys.getD j Str.empty)) (ys.length-1);have hlt:sS ys<ys.length:=by unfold sS;lia
 unfold f9;rw[Xc,Za hlt];exact Wg hlt
theorem zp{ys:List Str}{y:Str}(h:y∈ys):ltS y (f9 ys)=false:=by
 obtain⟨j,hj,rfl⟩:=Xi.mp h
 have:=ma (bt:=fun i j=>ltS (ys.getD i Str.empty) (ys.getD j Str.empty)) (fun a b c h1 h2 h3=>by
  have:=zo h3 h1
  rw[h2]at this;cases this) (fun a=>tj _) (ys.length-1) j (by lia)
 have e:ys.getD j Str.empty=ys[j]:=by rw[Xc,Za hj];rfl
 have t:ltS (ys.getD j Str.empty) (ys.getD (sS ys) Str.empty)=false:=this;rw[e]at t;exact t
theorem FC{ys:List Str}(h:ys≠[]):wF [.lst (ys.map D.str)]=some (.str (f9 ys),false):=by
 show(gC (ys.map D.str)).bind (fun ys=>if ys=[] then none else some (D.str (f9 ys),false))=_;rw[iE];show(if ys=[] then _ else _)=_;rw[Ag h]
theorem zq{x y:Str}(h1:ltS x y=false)(h2:ltS y x=false):x=y:=by
 rcases(jJ 1).tri (a:=.str x) (b:=.str y) trivial with q|q|q
 ·injection q
 ·have:ltS x y=true:=q;rw[h1]at this;cases this
 ·have:ltS y x=true:=q;rw[h2]at this;cases this
end VF
namespace K39
open PySem L2 VF VL VF22
theorem rp{l:List D}{n:Nat}(hl:l.length<=n)(hn:n<=1000000:=by decide){b:Bool}(hb:b=true):(b&&decide (l.length<=1000000))=true:=by rw[hb,Ai (by lia)];rfl
abbrev Bd:=Bool×Str
abbrev bdD(p:Bd):D:=.str (bd p)
theorem gL{p:Bd}(h:Nm p.2):(bd p).length<=1000000:=by have:=(lG h).2;lia
theorem g9{t:Bool}{n:Str}(h:Nm n):dq [bdD (t,n)]=some (.bl t,false):=by
 have e:dq [bdD (t,n)]=some (.bl (Txt.startswith (bd (t,n)) minus),false):=rfl;rw[e,jN h]
theorem nJ{t:Bool}{n:Str}(h:Nm n):gZ [bdD (t,n)]=some (.str n,false):=by
 refine bw (o:=.rt (.d (.str n)) [.v (bdD (t,n))]) rfl ?_ rfl;cases t with
 | true =>
  refine bK (C2 (s:=[.v (bdD (true,n))]) (aH (aX rfl rfl (g9 h) rfl) rfl) (pA rfl rfl rfl rfl (vY (gL h)) ?_));show Rs.d (D.str (Txt.slice (minus++n) (some 1) none))=_;rw[oq]
 | false=>exact bK (C3 (s:=[.v (bdD (false,n))]) (aH (aX rfl rfl (g9 h) rfl) rfl) rfl)
theorem FD{t:Bool}{n:Str}(h:Nm n):iG [bdD (t,n)]=some (bdD (!t,n),false):=by
 have e1:minus.length=1:=by decide +kernel
 refine bw (o:=.rt (.d (bdD (!t,n))) [.v (bdD (t,n))]) rfl ?_ rfl;cases t with
 | true=>exact bK (C2 (s:=[.v (bdD (true,n))]) (aH (aX rfl rfl (g9 h) rfl) rfl) (aX rfl rfl (nJ h) rfl))
 | false=>exact bK (C3 (s:=[.v (bdD (false,n))]) (aH (aX rfl rfl (g9 h) rfl) rfl) (aq rfl rfl rfl rfl (i9 (by
   have:=(lG (p:=(false,n)) h).2;show minus.length+(bd (false,n)).length<=_
   lia))))
theorem xA{t:Bool}{n:Str}(h:Nm n):gI [bdD (t,n)]=some (bdD (!t,n),false):=by
 have e1:minus.length=1:=by decide +kernel
 obtain⟨c,hc,hcm⟩:=w6 (p:=(t,n)) h;refine bw (o:=.rt (.d (bdD (!t,n))) [.v (bdD (t,n))]) rfl ?_ rfl;cases t with
 | true =>
  refine oi (i8 (s:=[.v (bdD (true,n))]) (hZ (aH (aq (aq rfl rfl rfl rfl (ix_str (gL h) hc)) rfl rfl rfl rfl) rfl) (Ai (hcm.mpr rfl))) (bK (pA rfl rfl rfl rfl (vY (gL h)) ?_)));show Rs.d (D.str (Txt.slice (minus++n) (some 1) none))=_;rw[oq];rfl
 | false =>
  refine aw (gp (s:=[.v (bdD (false,n))]) (hZ (aH (aq (aq rfl rfl rfl rfl (ix_str (gL h) hc)) rfl rfl rfl rfl) rfl) (Af fun z=>by cases (hcm.mp z))) rfl) ?_
  exact bK (aq rfl rfl rfl rfl (i9 (by
   have:=(lG (p:=(false,n)) h).2;show minus.length+(bd (false,n)).length<=_
   lia)))
theorem tq(c:Nat):minus.cps.contains c=true↔c=45:=by
 rw[Array.contains_iff_mem,← Array.mem_toList_iff,cV];simp
theorem zr{c:Nat}(h:97<=c/\c<=122):minus.cps.contains c=false:=by
 cases e:minus.cps.contains c with
 | false=>rfl
 | true=>have:=(tq c).mp e;lia
theorem kH{l:List Nat}(h:∀c∈l,97<=c/\c<=122):l.takeWhile (fun c=>minus.cps.contains c)=[]:=by
 cases l with
 | nil=>rfl
 | cons c r=>rw[List.takeWhile_cons,zr (h c Wc)];rfl
theorem xB{p:Bool×Str}(h:Nm p.2):Txt.stripChars (bd p) minus=p.2:=by
 obtain⟨t,n⟩:=p;have hl:∀c∈n.cps.toList,97<=c/\c<=122:=h.2.2;have hr:∀c∈n.cps.toList.reverse,97<=c/\c<=122:=fun c hc=>hl c (List.mem_reverse.mp hc);unfold Txt.stripChars;rw[PySem.W.stripBy_eq];refine sY ?_;unfold PySem.W.stripped;dsimp only;rw[Ad rfl,Ad rfl,StrLaws.strSub_toList];have g:(fun c=>minus.cps.contains c)=minus.cps.contains:=rfl;cases t with
 | false =>
  have e:(bd (false,n)).cps.toList=n.cps.toList:=rfl;rw[e,← g,kH hl,Ve,List.drop_zero,kH hr,Ve];show List.take (n.length-0-0) n.cps.toList=n.cps.toList;exact Xn (by show n.cps.toList.length<=n.cps.size-0-0;rw[Vc];lia)
 | true =>
  have e:(bd (true,n)).cps.toList=45::n.cps.toList:=by
   show(minus++n).cps.toList=_;rw[BN,A5,cV];rfl
  have tk:(45::n.cps.toList).takeWhile (fun c=>minus.cps.contains c)=[45]:=by
   rw[List.takeWhile_cons,(tq 45).mpr rfl,Ad rfl,kH hl]
  have len:(bd (true,n)).length=n.cps.toList.length+1:=by
   show(bd (true,n)).cps.size=_;rw[← Vc,e,Yc]
  rw[e,← g,tk];show List.take ((bd (true,n)).length-(List.takeWhile _ (List.drop 1 (45::n.cps.toList)).reverse).length-1) (List.drop 1 (45::n.cps.toList))=n.cps.toList;rw[List.drop_succ_cons,List.drop_zero,kH hr,Ve,len];exact Xn (by lia)
theorem xC{p:Bool×Str}(h:Nm p.2):qN (bdD p) [.str minus]=some (.str p.2,false):=by
 show(if (bd p).length<=1000000 then some (D.str (Txt.stripChars (bd p) minus),false) else none)=_;rw[Ad (gL h),xB h]
end K39
namespace K39
open PySem L2 VF VL VF22
noncomputable section
abbrev LD(ps:List Bd):D:=.tup (ps.map bdD)
def flp(p:Bd):Bd:=(!p.1,p.2)
theorem zt(p:Bd):flp (flp p)=p:=by obtain⟨t,n⟩:=p;cases t<;>rfl
theorem FF{p q:Bd}(hp:Nm p.2)(hq:Nm q.2)(e:bd p=bd q):p=q:=by
 obtain⟨t,n⟩:=p;obtain⟨u,m⟩:=q;have h1:=jN (t:=t) hp;have h2:=jN (t:=u) hq;rw[e,h2]at h1;subst h1;cases u with
 | false=>exact congrArg (Prod.mk false) e
 | true =>
  have e:minus++n=minus++m:=e;have h3:=oq (n:=n);rw[e,oq]at h3;rw[h3]
def nameAt(f k e j:Nat):List Nat:=(97+(f+7*k) % 26)::(List.replicate (k / 26) 98++List.replicate j e)
structure NA(f e k:Nat)(x:Str):Prop where
 ex:∃j,j+k / 26<=5/\x.cps.toList=nameAt f k e j
def Ee(e:Nat):Prop:=e=113∨e=120∨e=122
section
variable {f e k k':Nat}{x:Str}
theorem NA.tail(h:NA f e k x):∀c∈x.cps.toList.tail,c=98∨c=e:=fun c hc=>by
 obtain⟨j,_,h⟩:=h.ex;rw[h]at hc;rcases Vf.mp (show c∈List.replicate (k / 26) 98++List.replicate j e from hc) with z|z
 ·exact .inl (Cu z)
 ·exact .inr (Cu z)
theorem NA.nm(he:Ee e)(h:NA f e k x):Nm x:=by
 have ht:=h.tail;obtain⟨j,hj,h⟩:=h.ex;have hl:x.length=1+(k / 26+j):=by
  have:=congrArg List.length h;rw[Vc]at this;show x.cps.size=_;rw[this];unfold nameAt;simp;lia
 refine⟨by lia,by lia,fun c hc=>?_⟩
 rw[h]at hc ht;rcases Xd.mp hc with z|z
 ·lia
 ·unfold Ee at he;rcases ht c z with w|w<;>lia
theorem NA.inj(he:Ee e)(h:NA f e k x)(h':NA f e k' x)(hk:k<52)(hk':k'<52):k=k':=by
 obtain⟨j,hj,h⟩:=h.ex;obtain⟨j',hj',h'⟩:=h'.ex;rw[h]at h';unfold nameAt at h';injection h' with h1 h2;have c:∀a j:Nat,(List.replicate a 98++List.replicate j e).count 98=a:=fun a j=>by
  rw[Wn,List.count_replicate_self,List.count_replicate,Ag (by unfold Ee at he;simp;lia)];rfl
 have h3:=congrArg (List.count 98) h2;rw[c,c]at h3;lia
theorem NA.other(he:Ee e)(h:NA f e k x):x≠"bab"/\x≠"aba"/\x≠"yuy":=by
 have ht:=h.tail;have no:∀(s:Str)(c:Nat),c∈s.cps.toList.tail->c≠98->(c=97∨c=117)->x≠s:=fun s c hc h1 h2 z=>by
  rw[z]at ht;unfold Ee at he;rcases ht c hc with w|w<;>lia
 exact⟨no _ 97 (by decide +kernel) (by decide) (.inl rfl),no _ 97 (by decide +kernel) (by decide) (.inl rfl),no _ 117 (by decide +kernel) (by decide) (.inr rfl)⟩
end
theorem oG{c:Nat}:(⟨#[c]⟩:Str).length=1:=rfl
theorem app_list(x y:Str):(x++y).cps.toList=x.cps.toList++y.cps.toList:=by
 show(x.cps++y.cps).toList=_;simp
theorem oH{c:Nat}(n:Nat):(Txt.mul ⟨#[c]⟩ (n:Int)).length=n:=by
 have:=congrArg List.length (Be (c:=c) (n:=(n:Int)));rw[Zi,Vc]at this;exact this.trans (by lia)
theorem rq{δ:D}{f e k:Nat}{m:Int}{xs:List Str}{s7:Sl}(hδ:cN δ)(he:Ee e)(hk:k<40)(hl:xs.length<=100)(i7:s7.isIo=false) :
  ∃x δ' t7,fw [.io δ,.v (.int m),.v (.str "abcdefghijklmnopqrstuvwxyz"),.v (.int (f:Int)),.v (.str ⟨#[e]⟩),.o (.lst (xs.map D.str)),.v (.int (k:Int)),s7]=some (.nx [.io δ',.v (.int m),.v (.str "abcdefghijklmnopqrstuvwxyz"),.v (.int (f:Int)),.v (.str ⟨#[e]⟩),.o (.lst ((xs++[x]).map D.str)),.v (.int (k:Int)),t7])/\NA f e k x/\cN δ'/\t7.isIo=false:=by
 obtain⟨d,δ',e1,d0,d1,f1⟩:=bx (n:=6-(k:Int) / 26) hδ (by lia) (by lia)
 obtain⟨j,rfl⟩:=Wf d0;have la:atI letS.cps.toList (((f:Int)+7*(k:Int)) % 26)=some (97+(f+7*k) % 26):=by
  have:=Fs (f+7*k);have h:(((f+7*k:Nat):Int)) % 26=((f:Int)+7*(k:Int)) % 26:=by lia
  rwa [h]at this
 have ia:bIx (.str "abcdefghijklmnopqrstuvwxyz") (.int (((f:Int)+7*(k:Int)) % 26))=some (.str ⟨#[97+(f+7*k) % 26]⟩,false):=ix_str (by decide +kernel) la
 have hq:((k:Int) / 26)=((k / 26:Nat):Int):=by lia
 have mb:cF (.str "b") (.int ((k:Int) / 26))=some (.str (Txt.mul ⟨#[98]⟩ ((k / 26:Nat):Int)),false):=by
  rw[hq];exact sv ⟨by lia,by lia,by decide +kernel⟩
 have me:cF (.str ⟨#[e]⟩) (.int (j:Int))=some (.str (Txt.mul ⟨#[e]⟩ (j:Int)),false):=sv ⟨by lia,by lia,by rw[oG];decide⟩
 have a1:bc (.str ⟨#[97+(f+7*k) % 26]⟩) (.str (Txt.mul ⟨#[98]⟩ ((k / 26:Nat):Int)))=some (.str (⟨#[97+(f+7*k) % 26]⟩++Txt.mul ⟨#[98]⟩ ((k / 26:Nat):Int)),false):=i9 (by rw[oG,oH];lia)
 have lx:((⟨#[97+(f+7*k) % 26]⟩:Str)++Txt.mul ⟨#[98]⟩ ((k / 26:Nat):Int)).length=1+k / 26:=by rw[Bl,oG,oH]
 have a2:bc (.str (⟨#[97+(f+7*k) % 26]⟩++Txt.mul ⟨#[98]⟩ ((k / 26:Nat):Int))) (.str (Txt.mul ⟨#[e]⟩ (j:Int)))=some (.str (⟨#[97+(f+7*k) % 26]⟩++Txt.mul ⟨#[98]⟩ ((k / 26:Nat):Int)++Txt.mul ⟨#[e]⟩ (j:Int)),false):=i9 (by rw[lx,oH];lia)
 refine⟨⟨#[97+(f+7*k) % 26]⟩++Txt.mul ⟨#[98]⟩ ((k / 26:Nat):Int)++Txt.mul ⟨#[e]⟩ (j:Int),δ',.v (.str (⟨#[97+(f+7*k) % 26]⟩++Txt.mul ⟨#[98]⟩ ((k / 26:Nat):Int))),?_,⟨j,by lia,?_⟩,f1,rfl⟩
 ·refine aw (cw (aq (aq rfl (aq (aq rfl (aq rfl rfl rfl rfl (dJ (by first|exact .inl ⟨by lia,by lia⟩|exact⟨by lia,by lia⟩|lia))) rfl rfl rfl) rfl rfl rfl (oE (by decide))) rfl rfl ia) (aq rfl (aq rfl rfl rfl rfl (q0 (by first|exact⟨by lia,by lia⟩|lia|decide))) rfl rfl mb) rfl rfl a1) (gk (t:=s7) rfl i7)) ?_
  refine cJ (km rfl rfl rfl (aA (aq rfl (aq rfl (bR rfl rfl (aA (aq rfl (aq rfl rfl rfl rfl (q0 (by first|exact⟨by lia,by lia⟩|lia|decide))) rfl rfl rfl) rfl) rfl rfl rfl e1) rfl rfl me) rfl rfl a2) rfl) rfl rfl rfl (gJ (by rw[Ya];lia)) (by rw[Ye];rfl))
 ·rw[app_list,app_list,Be,Be];rfl
end
end K39
namespace K39
open PySem L2 VF VL VF22
noncomputable section
theorem js{m:Nat}{gone rest:List Nat}{t:Nat}(h:List.range m=gone++t::rest):t=gone.length/\gone.length<m:=by
 have hl:=congrArg List.length h;rw[We,Yb,Yc]at hl;have h2:(gone++t::rest)[gone.length]?=some t:=by rw[Wd (Wa _),Nat.sub_self];rfl
 rw[← h,Qj (by lia)]at h2
 injection h2 with h2
 exact⟨h2.symm,by lia⟩
structure Nx(xs:List Str):Prop where
 nm:∀x∈xs,Nm x
 ot:∀x∈xs,x≠"bab"/\x≠"aba"/\x≠"yuy"
 nd:xs.Nodup
theorem Nx.perm{xs ys:List Str}(h:Nx xs)(p:ys.Perm xs):Nx ys:=⟨fun x hx=>h.nm x (p.mem_iff.mp hx),fun x hx=>h.ot x (p.mem_iff.mp hx),p.nodup_iff.mpr h.nd⟩
theorem Hi{f e:Nat}{xs:List Str}(he:Ee e)(hl:xs.length<=40)(h:∀i x,xs[i]?=some x->NA f e i x):Nx xs:=by
 have at_:∀x∈xs,∃i,NA f e i x:=fun x hx=>by
  obtain⟨i,hi,rfl⟩:=Xi.mp hx;exact⟨i,h i _ (Za hi)⟩
 refine⟨fun x hx=>(at_ x hx).elim fun i z=>z.nm he,fun x hx=>(at_ x hx).elim fun i z=>z.other he,?_⟩;refine Wk.mpr fun i j hi hj hij q=>?_;have a:=h i _ (Za hi);have b:=h j _ (Za hj);rw[← q]at b;have:=a.inj he b (by lia) (by lia)
 lia
theorem xD{δ:D}{m:Nat}(hδ:cN δ)(hm:m<=40):∃xs δ',gH δ [.int (m:Int)]=some ((.lst (xs.map D.str),true),δ')/\xs.length=m/\Nx xs/\cN δ':=by
 obtain⟨d1,δ1,e1,d10,d11,f1⟩:=bx (n:=26) hδ (by decide) (by decide)
 obtain⟨d2,δ2,e2,d20,d21,f2⟩:=bx (n:=3) f1 (by decide) (by decide)
 obtain⟨f,rfl⟩:=Wf d10;obtain⟨e,he,ee⟩:∃e,Ee e/\bIx (.str "qxz") (.int d2)=some (.str ⟨#[e]⟩,false):=by
  have:d2=0∨d2=1∨d2=2:=by lia
  rcases this with rfl|rfl|rfl
  ·exact⟨113,.inl rfl,ix_str (by decide +kernel) (by decide +kernel)⟩
  ·exact⟨120,.inr (.inl rfl),ix_str (by decide +kernel) (by decide +kernel)⟩
  ·exact⟨122,.inr (.inr rfl),ix_str (by decide +kernel) (by decide +kernel)⟩
 obtain⟨sf,el,δ3,xs,s6,s7,rfl,f3,lx,hx,_⟩:=bu (fg:=gN 6) (B:=fw) (fun t:Nat=>D.int (0+(t:Int))) (List.range m) (fun gone st=>∃δ' xs s6 s7,st=[.io δ',.v (.int (m:Int)),.v (.str "abcdefghijklmnopqrstuvwxyz"),.v (.int (f:Int)),.v (.str ⟨#[e]⟩),.o (.lst (xs.map D.str)),s6,s7]/\cN δ'/\xs.length=gone.length/\(∀i x,xs[i]?=some x->NA f e i x)/\s6.isIo=false/\s7.isIo=false)
  (by
   rintro gone t rest st ha ⟨δ',xs,s6,s7,rfl,hf,lx,hx,i6,i7⟩;obtain⟨rfl,hg⟩:=js ha;obtain⟨x,δ4,t7,eb,hna,f4,i7'⟩:=rq (δ:=δ') (f:=f) (e:=e) (k:=gone.length) (m:=(m:Int)) (xs:=xs) (s7:=s7) hf he (by lia) (by lia) i7
   refine⟨_,_,gK (t:=s6) rfl i6,by rw[CK];exact eb,δ4,xs++[x],.v (.int (gone.length:Int)),t7,rfl,f4,by simp[lx],fun i y hy=>?_,rfl,i7'⟩
   by_cases c:i<xs.length
   ·rw[Ze c]at hy;exact hx i y hy
   ·rw[Wd (by lia)]at hy
    have:i-xs.length=0:=by
     by_cases z:i-xs.length=0
     ·exact z
     ·rw[Vd (by simp;lia)]at hy;cases hy
    rw[this]at hy;injection hy with hy;rw[show i=gone.length by lia,← hy]
    exact hna)
  (List.range m) [] [.io δ2,.v (.int (m:Int)),.v (.str "abcdefghijklmnopqrstuvwxyz"),.v (.int (f:Int)),.v (.str ⟨#[e]⟩),.o (.lst []),.e,.e] rfl ⟨δ2,[],.e,.e,rfl,f2,rfl,(fun i x h=>by cases h),rfl,rfl⟩
 rw[We]at lx;refine⟨xs,δ3,?_,lx,Hi he (by lia) hx,f3⟩
 refine cx (o:=.rt (.s 5) [.io δ3,.v (.int (m:Int)),.v (.str "abcdefghijklmnopqrstuvwxyz"),.v (.int (f:Int)),.v (.str ⟨#[e]⟩),.o (.lst (xs.map D.str)),s6,s7]) rfl ?_ rfl;refine aw (s:=[.io δ,.v (.int (m:Int)),.v (.str "abcdefghijklmnopqrstuvwxyz"),.e,.e,.e,.e,.e]) rfl ?_;refine aw (s:=[.io δ1,.v (.int (m:Int)),.v (.str "abcdefghijklmnopqrstuvwxyz"),.v (.int (f:Int)),.e,.e,.e,.e]) (cw (bR rfl rfl rfl rfl rfl rfl e1) rfl) ?_;refine aw (s:=[.io δ2,.v (.int (m:Int)),.v (.str "abcdefghijklmnopqrstuvwxyz"),.v (.int (f:Int)),.v (.str ⟨#[e]⟩),.e,.e,.e]) (cw (aq rfl (bR rfl rfl rfl rfl rfl rfl e2) rfl rfl ee) rfl) ?_;refine aw (s:=[.io δ2,.v (.int (m:Int)),.v (.str "abcdefghijklmnopqrstuvwxyz"),.v (.int (f:Int)),.v (.str ⟨#[e]⟩),.o (.lst []),.e,.e]) rfl ?_;exact aw (dG (ja (j:=(m:Int)) rfl rfl ⟨by lia,by lia⟩) el) rfl
theorem Hj{α:Type}{l:List α}{i:Nat}{x:α}(h:l[i]?=some x):l.Perm (x::l.eraseIdx i):=by
 obtain⟨hi,rfl⟩:=Va.mp h;exact(lF hi).symm
theorem pW{δ:D}{m:Int}{left:List Str}{ps:List Bd}{s4 s5:Sl}(hδ:cN δ)(hl:left≠[])(hl2:left.length<=100)(hn:∀x∈left,Nm x)(hp:ps.length<=100)(i5:s5.isIo=false) :
  ∃δ' p left' t5,eC [.io δ,.v (.int m),.o (.lst (left.map D.str)),.o (.lst (ps.map bdD)),s4,s5]=some (.nx [.io δ',.v (.int m),.o (.lst (left'.map D.str)),.o (.lst ((ps++[p]).map bdD)),s4,t5])/\cN δ'/\left.Perm (p.2::left')/\t5.isIo=false:=by
 have hp0:0<left.length:=List.length_pos_iff.mpr hl;obtain⟨d1,δ1,e1,d10,d11,f1⟩:=bx (n:=(left.length:Int)) hδ (by lia) (by lia)
 obtain⟨d2,δ2,e2,d20,d21,f2⟩:=bx (n:=2) f1 (by decide) (by decide)
 obtain⟨i,rfl⟩:=Wf d10;have hi:i<left.length:=by lia
 have hx:left[i]?=some left[i]:=Za hi;have nx:=hn left[i] (Wg hi);have e0:minus.length=1:=by decide +kernel
 have ea:bc (.str "-") (.str left[i])=some (bdD (true,left[i]),false):=i9 (by
  have:=(lG (p:=(false,left[i])) nx).2;have h:(bd (false,left[i])).length=(left[i]).length:=rfl;show minus.length+(left[i]).length<=_
  lia)
 obtain⟨t,et⟩:∃t:Bool,bIx (.lst [bdD (false,left[i]),bdD (true,left[i])]) (.int d2)=some (bdD (t,left[i]),false):=by
  have:d2=0∨d2=1:=by lia
  rcases this with rfl|rfl
  ·exact⟨false,rfl⟩
  ·exact⟨true,rfl⟩
 have ln:dF [.lst (left.map D.str)]=some (.int left.length,false):=by
  show some (D.int ((left.map D.str).length:Nat),false)=_;rw[Ya]
 refine⟨δ2,(t,left[i]),left.eraseIdx i,.v (.str left[i]),?_,f2,Hj hx,rfl⟩;refine aw (s:=[.io δ1,.v (.int m),.o (.lst ((left.eraseIdx i).map D.str)),.o (.lst (ps.map bdD)),s4,.v (.str left[i])]) (cw (km rfl rfl rfl (aA (bR rfl rfl (aA (bv rfl rfl ln) rfl) rfl rfl rfl e1) rfl) rfl rfl rfl (tf hx (by lia))) (gk (t:=s5) rfl i5)) ?_
 refine cJ (km rfl rfl rfl (aA (aq (eF (aA rfl (aA (aq rfl rfl rfl rfl ea) rfl)) rfl (by simp)) (bR rfl rfl rfl rfl rfl rfl e2) rfl rfl et) rfl) rfl rfl rfl (gJ (by rw[Ya];lia)) (by rw[Ye];rfl))
structure Th(ps:List Bd):Prop where
 nx:Nx (ps.map (·.2))
theorem uO{δ:D}{m:Nat}(hδ:cN δ)(hm:m<=40):∃ps δ',gf δ [.int (m:Int)]=some ((LD ps,false),δ')/\ps.length=m/\Th ps/\cN δ':=by
 obtain⟨xs,δ1,e1,lx,nx,f1⟩:=xD hδ hm;obtain⟨sf,el,δ2,left,ps,s4,s5,rfl,f2,pm,lp,_⟩:=bu (fg:=gN 4) (B:=eC) (fun t:Nat=>D.int (0+(t:Int))) (List.range m) (fun gone st=>∃δ' left ps s4 s5,st=[.io δ',.v (.int (m:Int)),.o (.lst (left.map D.str)),.o (.lst (ps.map bdD)),s4,s5]/\cN δ'/\(ps.map (·.2)++left).Perm xs/\ps.length=gone.length/\s4.isIo=false/\s5.isIo=false)
  (by
   rintro gone t rest st ha ⟨δ',left,ps,s4,s5,rfl,hf,pm,lp,i4,i5⟩;obtain⟨_,hg⟩:=js ha;have ll:=pm.length_eq;rw[Yb,Ya]at ll;obtain⟨δ3,p,left',t5,eb,f3,py,i5'⟩:=pW (δ:=δ') (m:=(m:Int)) (left:=left) (ps:=ps) (s4:=.v (.int (0+(t:Int)))) (s5:=s5) hf (fun z=>by rw[z,Ve]at ll;lia) (by lia) (fun x hx=>nx.nm x (pm.mem_iff.mp (Xe _ hx))) (by lia) i5
   refine⟨_,_,gK (t:=s4) rfl i4,eb,δ3,left',ps++[p],_,t5,rfl,f3,?_,by simp[lp],rfl,i5'⟩
   refine List.Perm.trans ?_ pm;rw[Ye,Wj]
   exact List.Perm.append_left _ py.symm)
  (List.range m) [] [.io δ1,.v (.int (m:Int)),.o (.lst (xs.map D.str)),.o (.lst []),.e,.e] rfl ⟨δ1,xs,[],.e,.e,rfl,f1,by simp,rfl,rfl,rfl⟩
 rw[We]at lp;have hl:left=[]:=by
  have:=pm.length_eq;rw[Yb,Ya]at this;exact Qk (by lia)
 subst hl;rw[Qf]at pm;refine⟨ps,δ2,?_,lp,⟨nx.perm pm⟩,f2⟩;refine cx (o:=.rt (.d (LD ps)) [.io δ2,.v (.int (m:Int)),.o (.lst []),.o (.lst (ps.map bdD)),s4,s5]) rfl ?_ rfl;refine aw (s:=[.io δ1,.v (.int (m:Int)),.o (.lst (xs.map D.str)),.e,.e,.e]) (dj (bR rfl rfl rfl rfl rfl rfl e1) rfl) ?_;refine aw (s:=[.io δ1,.v (.int (m:Int)),.o (.lst (xs.map D.str)),.o (.lst []),.e,.e]) rfl ?_;refine aw (dG (ja (j:=(m:Int)) rfl rfl ⟨by lia,by lia⟩) el) ?_
 exact bK (bv rfl rfl (pV _))
theorem FJ{a b:D}(xs:List D):cutD (a::(xs++[b])) (some 1) (some (-1))=xs:=by
 have hl:(a::(xs++[b])).length=xs.length+2:=by simp
 unfold cutD;rw[hl];have h1:HT.sIx (xs.length+2) 0 (some 1)=1:=by
  show min 1 (xs.length+2)=1;lia
 have h2:HT.sIx (xs.length+2) (xs.length+2) (some (-1))=xs.length+1:=by
  show(-1+((xs.length+2:Nat):Int)).toNat=xs.length+1;lia
 rw[h1,h2];show(xs++[b]).take (xs.length+1-1)=xs;rw[Nat.add_sub_cancel,List.take_left]
theorem FK{xs:List D}{lo hi:Option Int}:bSl (.lst xs) lo hi=some (.lst (cutD xs lo hi),true):=rfl
instance:Inhabited Bd:=⟨(false,Str.empty)⟩
def vt(ps:List Bd)(n:Int):Bd:=if n<0 then flp (ps.getD ((ab n).toNat-1) default) else ps.getD ((ab n).toNat-1) default
structure Rg(q:Nat)(mid:List Int):Prop where
 rg:∀n∈mid,1<=ab n/\ab n<=q
 nd:(mid.map ab).Nodup
 ln:mid.length=q
theorem Hk{ns:List Int}(N:Np ns):∃mid:List Int,ns=0::(mid++[(mid.length:Int)+1])/\Rg mid.length mid:=by
 obtain⟨mid,rfl⟩:=N.ex;have nd:=N.nm.nd;rw[Zd,Ye,Xf]at nd;obtain⟨h1,h2⟩:=nd;obtain⟨h3,h4,h5⟩:=List.nodup_append.mp h2;have el:ab ((mid.length:Int)+1)=(mid.length:Int)+1:=lZ (by lia)
 refine⟨mid,rfl,fun n hn=>?_,h3,rfl⟩;have hm:ab n∈mid.map ab:=Wi hn;have a1:ab n≠0:=fun z=>h1 (Qi _ (by rw[Hg,← z];exact hm))
 have a2:ab n≠(mid.length:Int)+1:=fun z=>h5 _ hm _ (by rw[Wl,el];exact Vb.mpr rfl) z
 have a3:=N.nm.le n (by simp[hn])
 have a4:=nH n;have hl:((0::(mid++[(mid.length:Int)+1])).length:Int)=(mid.length:Int)+2:=by simp;lia
 rw[hl]at a3;lia
theorem j9{ps:List Bd}{n:Int}{j:Nat}(h:ab n=(j:Int)+1)(hj:j<ps.length):ps.getD ((ab n).toNat-1) default=ps[j]:=by
 rw[h];have:((j:Int)+1).toNat-1=j:=by lia
 rw[this,Xc,Za hj];rfl
theorem tu{q:Nat}{mid:List Int}(R:Rg q mid){n:Int}(hn:n∈mid):∃j:Nat,ab n=(j:Int)+1/\j<q:=by
 have:=R.rg n hn;exact⟨(ab n).toNat-1,by lia,by lia⟩
theorem zu{ps:List Bd}{mid:List Int}(T:∀p∈ps,Nm p.2)(hl:ps.length<=100)(R:Rg ps.length mid):iJ [LD ps,IL (0::(mid++[(mid.length:Int)+1]))]=some (LD (mid.map (vt ps)),false):=by
 have lm:=R.ln;obtain⟨sf,el,s3,s4,rfl,_⟩:=bu (fg:=gN 3) (B:=ji) D.int mid (fun gone st=>∃s3 s4,st=[.v (LD ps),.v (IL (0::(mid++[(mid.length:Int)+1]))),.o (.lst ((gone.map (vt ps)).map bdD)),s3,s4]/\s3.isIo=false/\s4.isIo=false)
  (by
   rintro gone n rest st ha ⟨s3,s4,rfl,i3,i4⟩;have hg:=congrArg List.length ha;rw[Yb,Yc]at hg;obtain⟨j,hj,hjl⟩:=tu R (n:=n) (by rw[ha];simp)
   have hT:=T ps[j] (Wg hjl);have ei:bIx (LD ps) (.int (ab n-1))=some (bdD ps[j],false):=by
    rw[hj,show(j:Int)+1 - 1=(j:Int) by lia]
    exact zj (by rw[Xb,Za hjl];rfl)
   have app:∀b:Bd,vt ps n=b->(cP (fM isL cG 2 (ad (af 4) av))) [.v (LD ps),.v (IL (0::(mid++[(mid.length:Int)+1]))),.o (.lst ((gone.map (vt ps)).map bdD)),.v (.int n),.v (bdD b)]=some (.nx [.v (LD ps),.v (IL (0::(mid++[(mid.length:Int)+1]))),.o (.lst (((gone++[n]).map (vt ps)).map bdD)),.v (.int n),.v (bdD b)]):=fun b hb=>by
    refine cJ (km rfl rfl rfl rfl rfl rfl rfl (gJ (by rw[Ya,Ya];lia)) ?_)
    rw[Ye,Ye,Wl,hb];rfl
   have s0:(aR (fOp bIx (af 0) (fOp jC (fCB (b1 qI) (ad (af 3) av)) (fC (.int 1)))) 4) [.v (LD ps),.v (IL (0::(mid++[(mid.length:Int)+1]))),.o (.lst ((gone.map (vt ps)).map bdD)),.v (.int n),s4]=some (.nx [.v (LD ps),.v (IL (0::(mid++[(mid.length:Int)+1]))),.o (.lst ((gone.map (vt ps)).map bdD)),.v (.int n),.v (bdD ps[j])]):=cw (aq rfl (aq (bv rfl rfl (lX n)) rfl rfl rfl rfl) rfl rfl ei) (gk (t:=s4) rfl i4);by_cases c:n<0
   ·have hv:vt ps n=(!ps[j].1,ps[j].2):=by unfold vt;rw[Ad c,j9 hj hjl];rfl
    refine⟨_,_,gK (t:=s3) rfl i3,aw s0 (aw (i8 (hZ (aH (aq rfl rfl rfl rfl rfl) rfl) (Ai c)) (cw (aX rfl rfl (xA (t:=ps[j].1) hT) rfl) rfl)) (app _ hv)),_,_,rfl,rfl,rfl⟩
   ·have hv:vt ps n=ps[j]:=by unfold vt;rw[Ag c,j9 hj hjl]
    refine⟨_,_,gK (t:=s3) rfl i3,aw s0 (aw (gp (hZ (aH (aq rfl rfl rfl rfl rfl) rfl) (Af c)) rfl) (app _ hv)),_,_,rfl,rfl,rfl⟩)
  mid [] [.v (LD ps),.v (IL (0::(mid++[(mid.length:Int)+1]))),.o (.lst []),.e,.e] rfl ⟨.e,.e,rfl,rfl,rfl⟩
 refine bw (o:=.rt (.d (LD (mid.map (vt ps)))) [.v (LD ps),.v (IL (0::(mid++[(mid.length:Int)+1]))),.o (.lst ((mid.map (vt ps)).map bdD)),s3,s4]) rfl ?_ rfl;refine aw (s:=[.v (LD ps),.v (IL (0::(mid++[(mid.length:Int)+1]))),.o (.lst []),.e,.e]) rfl ?_;refine aw (dG (jb (pA rfl rfl rfl rfl FK) (ds:=mid.map D.int) ?_) el) ?_
 ·show some (D.lst (cutD ((0::(mid++[(mid.length:Int)+1])).map D.int) (some 1) (some (-1))),_)=_;rw[Zd,Ye,Wl,FJ]
 ·exact bK (bv rfl rfl (pV _))
end
end K39
namespace VF22
open PySem L2 VF
theorem FL{fd fy fx:FE}{st s1 s2 s3:En}{r1 r2 r3:Rs}{d0 d1 d2 dz d:D}{o:Option D}(h1:fd st=some (r1,s1))(h0:cont s1 r1=some d0)(hd:GP d0=true)(h2:fy s1=some (r2,s2))(h3:fx s2=some (r3,s3))(h4:cont s3 r1=some d1)(h5:cont s3 r2=some d2)(h6:atD d1 d2=some o)(h7:dOf r3=some dz)(hr:o.getD dz=d):yX fd fy fx st=some (.d d,s3):=by
 simp only[yX,h1,h0,hd,h2,h3,h4,h5,h6,h7,hr,Xa,if_true]
theorem pX(f:Str->D)(n:Str):∀Z:List Str,bZ (Z.map fun m=>((Sum.inr m:Key),f m)) (Sum.inr n)=if n∈Z then some (f n) else none
 | []=>rfl
 | m::r=>by
  by_cases c:m=n
  ·subst c;rw[Ad Wc];unfold bZ;rw[Zd,List.find?_cons_of_pos (by simp)];rfl
  ·have ih:=pX f n r;have e:bZ ((m::r).map fun m=>((Sum.inr m:Key),f m)) (Sum.inr n)=bZ (r.map fun m=>((Sum.inr m:Key),f m)) (Sum.inr n):=by
    unfold bZ;rw[Zd,List.find?_cons_of_neg (by simp[c])]
   rw[e,ih];have:n∈m::r↔n∈r:=by simp[Ne.symm c]
   by_cases h:n∈r
   ·rw[Ad h,Ad (this.mpr h)]
   ·rw[Ag h,Ag fun z=>h (this.mp z)]
theorem zv(f g:Str->D)(n:Str)(Z:List Str)(h:∀m,m≠n->g m=f m):f8 (Z.map fun m=>((Sum.inr m:Key),f m)) (Sum.inr n) (g n)=(if n∈Z then Z else Z++[n]).map fun m=>((Sum.inr m:Key),g m):=by
 have an:((Z.map fun m=>((Sum.inr m:Key),f m)).any fun kv=>decide (kv.1=(Sum.inr n:Key)))=decide (n∈Z):=by
  rw[B9,Yg,List.any_eq_true,decide_eq_true_eq];constructor
  ·rintro⟨m,hm,e⟩;have:m=n:=by simpa using e
   exact this ▸ hm
  ·exact fun hn=>⟨n,hn,by simp⟩
 unfold f8;rw[an];by_cases c:n∈Z
 ·rw[Ad (Ai c),Ad c,Yi];refine Qg fun m _=>?_;by_cases e:m=n
  ·subst e;simp
  ·simp[e,h m e]
 ·rw[Ag (by simp[c]),Ag c,Ye]
  congr 1;exact Qg fun m hm=>by rw[h m fun z=>c (z ▸ hm)]
end VF22
namespace K39
open PySem L2 VF VL VF22 VX
noncomputable section
theorem Hl(xs:List Str):CA 40 (xs.map D.str):=fun a ha b hb=>by
 obtain⟨e,_,rfl⟩:=Yf.mp ha;obtain⟨e',_,rfl⟩:=Yf.mp hb;trivial
theorem HF(xs:List Str):∃κ,Kd (xs.map D.str) κ:=⟨_,.sc (T:="str") (by decide) fun d hd=>by
 obtain⟨x,_,rfl⟩:=Yf.mp hd
 exact⟨by simp,rfl⟩⟩
theorem HG{xs:List Str}:∀d∈xs.map D.str,Pl 40 d:=fun d hd=>by
 obtain⟨x,_,rfl⟩:=Yf.mp hd;exact .str _ x
theorem FM(xs:List Str):j0 40 (xs.map D.str)=(be xs).map D.str:=by
 refine(lA (Hl xs) ((aG xs).map D.str) ?_).symm;exact Qh.mpr ((iC xs).imp fun h=>Af h)
theorem xE{ps:List Bd}(hl:ps.length<=100):iH [LD ps]=some (.lst (ps.map bdD),true):=by
 obtain⟨sf,e,s2,rfl,_⟩:=bu (fg:=gN 2) (B:=jf) bdD ps
  (fun gone st=>∃s2:Sl,st=[.v (LD ps),.o (.lst (gone.map bdD)),s2]/\s2.isIo=false)
  (by
   rintro gone s rest st ha ⟨s2,rfl,q⟩;have hg:=congrArg List.length ha;rw[Yb,Yc]at hg;refine⟨_,[.v (LD ps),.o (.lst ((gone++[s]).map bdD)),.v (bdD s)],gK (t:=s2) rfl q,?_,.v (bdD s),rfl,rfl⟩;refine i8 (s:=[.v (LD ps),.o (.lst (gone.map bdD)),.v (bdD s)]) rfl ?_
   exact cJ (km rfl rfl rfl rfl rfl rfl rfl (gJ (by rw[Ya];lia)) (by rw[Ye];rfl)))
  ps [] [.v (LD ps),.o (.lst []),.e] rfl ⟨.e,rfl,rfl⟩
 refine bw (o:=.rt (.s 1) [.v (LD ps),.o (.lst (ps.map bdD)),s2]) rfl ?_ rfl;exact aw (s:=[.v (LD ps),.o (.lst []),.e]) rfl (aw (dG (sw rfl rfl) e) rfl)
abbrev nz(ps:List Bd):List Str:=ps.map (·.2)
theorem FN{ps:List Bd}(np:∀p∈ps,Nm p.2)(hl:ps.length<64):iI [LD ps]=some (.lst ((be (nz ps)).map D.str),true):=by
 have ec:dL (gN 0) eX gc 1 (ps.map bdD) [.e]=some (ps.map fun p=>D.str p.2,[.e]) :=
  ci (fg:=gN 0) (fc:=eX) (fe:=gc) (k:=1) bdD (fun p=>D.str p.2) [.e] ps fun p hp=>⟨[.v (bdD p)],[.v (bdD p)],.d (.str p.2),[.v (bdD p)],[.v (bdD p)],rfl,rfl,aX rfl rfl (nJ (t:=p.1) (n:=p.2) (np p hp)) rfl,rfl,rfl⟩
 refine bw (o:=.rt (.f (.lst ((be (nz ps)).map D.str))) [.v (LD ps)]) rfl ?_ rfl;refine bK (bv (aA (dP (jb (cK rfl rfl (xE (by lia))) rfl) (rp (n:=100) (by rw[Ya];lia) (by decide) rfl) ec) rfl) rfl (z:=(.lst ((be (nz ps)).map D.str),true)) ?_)
 have:=uN (xs:=nz ps) (by rw[Ya];exact hl)
 rw[← this,Yi];rfl
def fB(Z gone:List Str):List (Key×D):=Z.map fun m=>((Sum.inr m:Key),D.int ((gone.count m:Nat):Int))
structure CI(Z gone:List Str):Prop where
 mem:∀n,n∈Z↔n∈gone
 nd:Z.Nodup
theorem CI.len{Z gone:List Str}(h:CI Z gone):Z.length<=gone.length:=h.nd.length_le_of_subset fun x hx=>(h.mem x).mp hx
theorem pY{Z gone:List Str}(n:Str):bZ (fB Z gone) (Sum.inr n)=if n∈Z then some (D.int ((gone.count n:Nat):Int)) else none:=pX (fun m=>D.int ((gone.count m:Nat):Int)) n Z
theorem zw{Z gone:List Str}(n:Str):f8 (fB Z gone) (Sum.inr n) (.int (((gone++[n]).count n:Nat):Int))=fB (if n∈Z then Z else Z++[n]) (gone++[n]) :=
 zv (fun m=>D.int ((gone.count m:Nat):Int)) (fun m=>D.int (((gone++[n]).count m:Nat):Int)) n Z fun m hm=>by
  have:(gone++[n]).count m=gone.count m:=by
   rw[Wn,CS (Ne.symm hm),List.count_nil,Nat.add_zero]
  rw[this]
theorem CI.put{Z gone:List Str}(h:CI Z gone)(n:Str):CI (if n∈Z then Z else Z++[n]) (gone++[n]):=by
 by_cases c:n∈Z
 ·rw[Ad c];refine⟨fun m=>?_,h.nd⟩;rw[Vf,← h.mem m,Vb];exact⟨.inl,fun z=>z.elim id fun e=>e ▸ c⟩
 ·rw[Ag c];refine⟨fun m=>?_,List.nodup_append.mpr ⟨h.nd,by simp,fun a ha b hb=>by rw[Vb.mp hb];exact fun z=>c (z ▸ ha)⟩⟩
  rw[Vf,Vf,h.mem m]
theorem xF{L x:D}{Z gone:List Str}{n:Str}(h:CI Z gone)(hl:gone.length<=1000):cW [.v L,.o (.dk (fB Z gone)),.v x,.v (.str n),.e]=some (.nx [.v L,.o (.dk (fB (if n∈Z then Z else Z++[n]) (gone++[n]))),.v x,.v (.str n),.e]):=by
 have hg:(if n∈Z then some (D.int ((gone.count n:Nat):Int)) else none).getD (.int 0)=.int ((gone.count n:Nat):Int):=by
  by_cases c:n∈Z
  ·rw[Ad c];rfl
  ·rw[Ag c,List.count_eq_zero.mpr fun z=>c ((h.mem n).mpr z)];rfl
 have ha:bc (.int ((gone.count n:Nat):Int)) (.int 1)=some (.int (((gone++[n]).count n:Nat):Int),false):=by
  have:(((gone++[n]).count n:Nat):Int)=((gone.count n:Nat):Int)+1:=by
   rw[Wn,List.count_singleton_self];rfl
  rw[this];rfl
 have hz:(fB Z gone).length<100000:=by
  have:=h.len;unfold fB;rw[Ya];lia
 have hs:nA (.dk (fB Z gone)) (.str n) (.int (((gone++[n]).count n:Nat):Int))=some (.dk (fB (if n∈Z then Z else Z++[n]) (gone++[n]))):=by
  show(if (fB Z gone).length<100000 then some (D.dk (f8 (fB Z gone) (Sum.inr n) _)) else none)=_;rw[Ad hz,zw]
 have hat:atD (.dk (fB Z gone)) (.str n)=some (if n∈Z then some (D.int ((gone.count n:Nat):Int)) else none):=congrArg some (pY n);exact jS (aq (FL rfl rfl rfl rfl rfl rfl rfl hat rfl hg) rfl rfl rfl ha) rfl rfl rfl rfl rfl rfl rfl hs
theorem uP{L:D}{ps:List Bd}{Z gone:List Str}{s3:Sl}(h:CI Z gone)(hn:∀p∈ps,Nm p.2)(hl:ps.length<64)(hg:gone.length<=500)(q3:s3.isIo=false):∃(Z':List Str)(s3':Sl),cX [.v L,.o (.dk (fB Z gone)),.v (LD ps),s3,.e]=some (.nx [.v L,.o (.dk (fB Z' (gone++be (nz ps)))),.v (LD ps),s3',.e])/\CI Z' (gone++be (nz ps))/\s3'.isIo=false:=by
 have ln:(be (nz ps)).length<=100:=by rw[(aG _).length_eq,Ya];lia
 obtain⟨sf,e,Z',s3',rfl,hc,q⟩:=bu (fg:=gN 3) (B:=cW) D.str (be (nz ps))
  (fun g st=>∃(Z':List Str)(s3':Sl),st=[.v L,.o (.dk (fB Z' (gone++g))),.v (LD ps),s3',.e]/\CI Z' (gone++g)/\s3'.isIo=false)
  (by
   rintro g n rest st ha ⟨Z',s3',rfl,hc,q⟩;have hz:=congrArg List.length ha;rw[Yb]at hz
   refine⟨_,_,gK (t:=s3') rfl q,xF hc (by rw[Yb];lia),_,.v (.str n),by rw[← Wj],by rw[← Wj];exact hc.put n,rfl⟩)
  (be (nz ps)) [] [.v L,.o (.dk (fB Z gone)),.v (LD ps),s3,.e] rfl ⟨Z,s3,by rw[Qf],by rw[Qf];exact h,q3⟩
 exact⟨Z',s3',dG (jb (cK rfl rfl (FN hn hl)) rfl) e,hc,q⟩
end
end K39
namespace VX
open PySem L2 VF
section
variable {F G:FY}{P:FS}{f:FT}{st s:En}{a:Option Oy}
theorem oJ{o:Ot}(h:P st=some o):yOf P st=some (.o o):=by simp only[yOf,h,Xa]
theorem hJ(h:F st=some (.o (.nx s)))(h2:G s=a):lC F G st=a:=by simp only[lC,h,Xa];exact h2
theorem FP{v:Option Str}(h:F st=some (.x v)):lC F G st=some (.x v):=by simp only[lC,h,Xa]
theorem Hm(h:f st=some (true,s))(h2:F s=a):yIf f F G st=a:=by simp only[yIf,h,Xa,if_true];exact h2
theorem Hn(h:f st=some (false,s))(h2:G s=a):yIf f F G st=a:=by
 simp only[yIf,h,Xa];exact h2
theorem tw{n m:Nat}{ds:List D}{v:Option Str}(hm:ds.length=m)(h:F (eZ n ds)=some (.x v)):gn F n m ds=some v:=by
 simp only[gn,Ad hm,h,Xa]
theorem zx{n m:Nat}{ds:List D}{o:Ot}(h:F (eZ n ds)=some (.o o)):gn F n m ds=none:=by
 unfold gn;split
 ·rw[h];rfl
 ·rfl
theorem uQ{fe:FE}{r:Rs}{d:D}{v:Option Str}(h1:fe st=some (r,s))(h2:cont s r=some d)(h3:unS d=some v):lD fe st=some (.x v):=by simp only[lD,h1,h2,h3,Xa]
theorem Ds{o:Ot}(h:F st=some (.o o)):unY F st=some o:=by simp only[unY,h,Xa]
end
end VX
namespace K39
open PySem L2 VF VL VF22 VX
noncomputable section
theorem kI:∀{l:List Str}{n:Str},l.Nodup->n∈l->l.count n=1
 | m::r,n,h,hn=>by
  obtain⟨h1,h2⟩:=Xf.mp h;by_cases c:m=n
  ·subst c;rw[List.count_cons_self,List.count_eq_zero.mpr h1]
  ·rw[CS c];exact kI h2 ((Xd.mp hn).resolve_left fun z=>c z.symm)
def lk(Z E:List Str):List Str:=(be Z).filter fun n=>decide (((E.count n:Nat):Int)<2)
abbrev bE(ps qs:List Bd):List Str:=be (nz ps)++be (nz qs)
theorem pZ{ps qs:List Bd}{W:List Str}(hp:∀p∈ps,Nm p.2)(hq:∀p∈qs,Nm p.2)(lp:ps.length<64)(lq:qs.length<64)(lw:W.length<64)(hW:∀n,n∈nz ps∨n∈nz qs->n∈W) :
  ∃Z,CI Z (bE ps qs)/\(lk Z (bE ps qs)=[]->∃s,bB [.v (.lst [LD ps,LD qs]),.e,.e,.e,.e]=some (.o (.nx s)))/\∀h t,lk Z (bE ps qs)=h::t->bB [.v (.lst [LD ps,LD qs]),.e,.e,.e,.e]=some (.x (some h)):=by
 have ln:∀us:List Bd,us.length<64->(be (nz us)).length<64:=fun us h=>by rw[(aG _).length_eq,Ya];exact h
 have l1:=ln ps lp;have l2:=ln qs lq;obtain⟨sf,e,Z,s2,s3,rfl,hc,q2,q3⟩:=bu (fg:=gN 2) (B:=cX) LD [ps,qs]
  (fun gone st=>∃(Z:List Str)(s2 s3:Sl),st=[.v (.lst [LD ps,LD qs]),.o (.dk (fB Z (gone.flatMap fun us=>be (nz us)))),s2,s3,.e]/\CI Z (gone.flatMap fun us=>be (nz us))/\s2.isIo=false/\s3.isIo=false)
  (by
   rintro gone us rest st ha ⟨Z,s2,s3,rfl,hc,q2,q3⟩;have hm:us=ps∨us=qs:=by
    have:us∈[ps,qs]:=by rw[ha];simp
    simpa using this
   have hg:(gone.flatMap fun us=>be (nz us)).length<=500:=by
    have:=congrArg (fun l=>(l.flatMap fun us=>be (nz us)).length) ha;simp only[A3,Vh,List.flatMap_nil,Yb,Ve]at this;lia
   have nu:∀p∈us,Nm p.2:=by rcases hm with rfl|rfl<;>assumption
   have lu:us.length<64:=by rcases hm with rfl|rfl<;>assumption
   obtain⟨Z',s3',eB,hc',q3'⟩:=uP (L:=.lst [LD ps,LD qs]) hc nu lu hg q3;refine⟨_,_,gK (t:=s2) rfl q2,eB,Z',.v (LD us),s3',?_,?_,rfl,q3'⟩
   ·rw[A3,BF]
   ·rw[A3,BF];exact hc')
  [ps,qs] [] [.v (.lst [LD ps,LD qs]),.o (.dk []),.e,.e,.e] rfl ⟨[],.e,.e,rfl,⟨fun n=>Iff.rfl,List.nodup_nil⟩,rfl,rfl⟩
 have eg:([ps,qs].flatMap fun us=>be (nz us))=bE ps qs:=by
  rw[Vh,Vh,List.flatMap_nil,Qf]
 rw[eg]at e hc
 have zl:Z.length<64:=Xl (hc.nd.length_le_of_subset fun x hx=>hW x (by
  rcases Vf.mp ((hc.mem x).mp hx) with z|z
  ·exact .inl ((aG _).mem_iff.mp z)
  ·exact .inr ((aG _).mem_iff.mp z))) lw
 have ks:(fB Z (bE ps qs)).map (fun kv=>dm kv.1)=Z.map D.str:=by
  unfold fB;rw[Yi];rfl
 have es:gX [.dk (fB Z (bE ps qs))]=some (.lst ((be Z).map D.str),true):=by
  rw[uG (by rw[ks];exact HG) (by rw[ks];exact Hl Z) (by rw[ks];exact HF Z) (by rw[ks,Ya];exact zl),ks,FM]
 generalize hG:fB Z (bE ps qs)=G at e es;have ec:dL (gN 0) cY cZ 1 ((be Z).map D.str) [.e,.o (.dk G),.v (.lst [LD ps,LD qs])]=some ((lk Z (bE ps qs)).map D.str,[.e,.o (.dk G),.v (.lst [LD ps,LD qs])]):=by
  exact fW (fg:=gN 0) (fc:=cY) (fe:=cZ) (k:=1) D.str D.str (fun n=>decide ((((bE ps qs).count n:Nat):Int)<2)) [.e,.o (.dk G),.v (.lst [LD ps,LD qs])] (be Z) fun n hn=>by
   have hz:n∈Z:=(aG Z).mem_iff.mp hn;have hd:sP (.dk G) (.str n)=some (.int (((bE ps qs).count n:Nat):Int),false):=by
    show((some (bZ G (Sum.inr n))).bind fun o=>o.bind fun d=>some (d,false))=_;rw[← hG,pY,Ad hz];rfl
   exact⟨[.v (.str n),.o (.dk G),.v (.lst [LD ps,LD qs])],[.v (.str n),.o (.dk G),.v (.lst [LD ps,LD qs])],rfl,aH (aq (aq rfl rfl rfl rfl hd) (bv rfl rfl (z:=(.int 2,false)) rfl) rfl rfl rfl) rfl,fun _=>rfl,fun _=>⟨.d (.str n),[.v (.str n),.o (.dk G),.v (.lst [LD ps,LD qs])],[.v (.str n),.o (.dk G),.v (.lst [LD ps,LD qs])],rfl,rfl,rfl⟩⟩
 have lz:((be Z).map D.str).length<=1000:=by rw[Ya,(aG Z).length_eq];lia
 have main:∀a,(yIf (qO (af 4)) (lD (fOp bIx (af 4) (fC (.int 0)))) (yOf cb)) [.v (.lst [LD ps,LD qs]),.o (.dk G),s2,s3,.o (.lst ((lk Z (bE ps qs)).map D.str))]=a->bB [.v (.lst [LD ps,LD qs]),.e,.e,.e,.e]=a:=fun a h =>
  hJ (s:=[.v (.lst [LD ps,LD qs]),.o (.dk []),.e,.e,.e]) rfl (hJ (oJ (dG (jb rfl rfl) e)) (hJ (oJ (dj (dP (s1:=[.v (.lst [LD ps,LD qs]),.o (.dk G),s2,s3,.e]) (jb (bv rfl rfl es) rfl) (rp lz (by decide) rfl) ec) rfl)) h))
 refine⟨Z,hc,fun h0=>⟨[.v (.lst [LD ps,LD qs]),.o (.dk G),s2,s3,.o (.lst [])],main _ ?_⟩,fun h t ht=>main _ ?_⟩
 ·rw[h0];exact Hn (s:=[.v (.lst [LD ps,LD qs]),.o (.dk G),s2,s3,.o (.lst [])]) rfl rfl
 ·rw[ht];exact Hm (s:=[.v (.lst [LD ps,LD qs]),.o (.dk G),s2,s3,.o (.lst ((h::t).map D.str))]) rfl (uQ (aq rfl rfl rfl rfl (iK (i:=0) (d:=.str h) rfl)) rfl rfl)
end
end K39
namespace VF22
open PySem L2 VF
theorem dA{κ:Type}[DecidableEq κ]{kvs:List (κ×D)}{k k':κ}{d:D}:bZ (f8 kvs k d) k'=if k'=k then some d else bZ kvs k':=by
 unfold bZ f8;by_cases c:(kvs.any fun kv=>decide (kv.1=k))=true
 ·rw[Ad c];induction kvs with
  | nil=>cases c
  | cons kv r ih =>
   by_cases h:kv.1=k
   ·rw[Zd,Ad h,Xg,Xg];by_cases hk:k'=k
    ·rw[Ad hk,Ai (show(kv.1,d).1=k' from h.trans hk.symm)];rfl
    ·have h1:decide ((kv.1,d).1=k')=false:=Af fun z=>hk (z.symm.trans h);rw[Ag hk,h1];dsimp only;by_cases c2:(r.any fun kv=>decide (kv.1=k))=true
     ·have:=ih c2;rw[Ag hk]at this;exact this
     ·congr 2;refine(Qg fun x hx=>?_).trans (List.map_id r);exact Ag fun z=>c2 (List.any_eq_true.mpr ⟨x,hx,Ai z⟩)
   ·have c2:(r.any fun kv=>decide (kv.1=k))=true:=by
     rw[Ql,Af h,Cv]at c;exact c
    have:=ih c2;rw[Zd,Ag h,Xg,Xg];by_cases q:kv.1=k'
    ·rw[Ai q,Ag fun z=>h (q.trans z)]
    ·rw[Af q];exact this
 ·rw[Ag c,List.find?_append];by_cases hk:k'=k
  ·have:kvs.find? (fun kv=>decide (kv.1=k'))=none:=List.find?_eq_none.mpr fun x hx z=>c (List.any_eq_true.mpr ⟨x,hx,Ai ((Ak z).trans hk)⟩);rw[Ad hk,this,Option.none_or,Xg,Ai hk.symm];rfl
  ·rw[Ag hk,Xg,Af (fun z=>hk z.symm)];show Option.map _ ((kvs.find? _).or none)=_;rw[Option.or_none]
theorem oK{κ:Type}[DecidableEq κ]{kvs:List (κ×D)}{k:κ}{d:D}:(f8 kvs k d).length<=kvs.length+1:=by
 unfold f8;split
 ·rw[Ya];lia
 ·rw[Yb];exact Wa _
end VF22
namespace VX
open PySem L2 VF
theorem zy{R:List D->Option (Option Str)}{g:List D->Option Rz}{fa:FA}{st s1 s2:En}{rs:List Rs}{ds:List D}{o:Ot}(h1:fa st=some (rs,s1))(h2:bz rs s1=some (ds,s2))(h3:R ds=none)(h4:cP (cO g fa) st=some o):nC R g fa st=some (.o o):=by
 simp only[nC,h1,h2,h3,h4,Xa]
theorem zB{R:List D->Option (Option Str)}{g:List D->Option Rz}{fa:FA}{st s1 s2:En}{rs:List Rs}{ds:List D}{v:Option Str}(h1:fa st=some (rs,s1))(h2:bz rs s1=some (ds,s2))(h3:R ds=some v):nC R g fa st=some (.x v):=by
 simp only[nC,h1,h2,h3,Xa]
end VX
namespace K39
open PySem L2 VF VL VF22 VX
noncomputable section
theorem Dt{q:Nat}{mid:List Int}(R:Rg q mid){j:Nat}(hj:j<q):∃n∈mid,ab n=(j:Int)+1:=by
 by_cases c:((j:Int)+1)∈mid.map ab
 ·obtain⟨n,hn,e⟩:=Yf.mp c;exact⟨n,hn,e⟩
 ·exfalso
  have nd:(((j:Int)+1)::mid.map ab).Nodup:=Xf.mpr ⟨c,R.nd⟩;have:=nd.length_le_of_subset (l₂:=ups q) fun x hx=>by
   have key:1<=x/\x<=(q:Int):=by
    rcases Xd.mp hx with rfl|hx
    ·lia
    ·obtain⟨n,hn,rfl⟩:=Yf.mp hx;exact R.rg n hn
   exact Yf.mpr ⟨x.toNat-1,List.mem_range.mpr (by lia),by show((x.toNat-1+1:Nat):Int)=x;lia⟩
  rw[Yc,Ya,R.ln]at this;unfold ups at this;rw[Ya,We]at this;lia
theorem kJ{ps:List Bd}{n:Int}{j:Nat}(h:ab n=(j:Int)+1)(hj:j<ps.length):(vt ps n).2=ps[j].2:=by
 unfold vt;rw[j9 h hj];split<;>rfl
theorem xG{ps:List Bd}(nd:(nz ps).Nodup){i j:Nat}(il:i<ps.length)(jl:j<ps.length)(e:ps[i].2=ps[j].2):i=j:=by
 have h:=Wk.mp (Qh.mp nd);rcases Bm i j with c|c|c
 ·exact(h i j il jl c e).elim
 ·exact c
 ·exact(h j i jl il c e.symm).elim
structure Of(ps os:List Bd):Prop where
 nm:∀p∈os,Nm p.2
 nd:(nz os).Nodup
 mem:∀n,n∈nz os↔n∈nz ps
theorem Ho{ps:List Bd}{mid:List Int}(T:Th ps)(R:Rg ps.length mid):Of ps (mid.map (vt ps)):=by
 have sub:∀n∈mid,(vt ps n).2∈nz ps:=fun n hn=>by
  obtain⟨j,hj,hl⟩:=tu R hn;rw[kJ hj hl];exact Wi (Wg hl)
 refine⟨fun p hp=>?_,?_,fun x=>⟨fun hx=>?_,fun hx=>?_⟩⟩
 ·obtain⟨n,hn,rfl⟩:=Yf.mp hp;exact T.nx.nm _ (sub n hn)
 ·have nd:mid.Nodup:=xj R.nd;show(List.map _ (List.map _ mid)).Nodup;rw[Yi];refine Qh.mpr ((Qh.mp R.nd).imp_of_mem fun {a b} ha hb hab e=>hab ?_);obtain⟨i,hi,il⟩:=tu R ha;obtain⟨j,hj,jl⟩:=tu R hb;have e:(vt ps a).2=(vt ps b).2:=e;rw[kJ hi il,kJ hj jl]at e;have hij:i=j:=by
   exact xG T.nx.nd il jl e
  rw[hi,hj,hij]
 ·obtain⟨p,hp,rfl⟩:=Yf.mp hx;obtain⟨n,hn,rfl⟩:=Yf.mp hp;exact sub n hn
 ·obtain⟨p,hp,rfl⟩:=Yf.mp hx;obtain⟨j,hj,rfl⟩:=Xi.mp hp;obtain⟨n,hn,e⟩:=Dt R hj;exact Yf.mpr ⟨vt ps n,Wi hn,kJ e hj⟩
theorem uR{ps qs:List Bd}(hp:∀p∈ps,Nm p.2)(hq:∀p∈qs,Nm p.2)(lp:ps.length<64)(lq:qs.length<64)(np:(nz ps).Nodup)(nq:(nz qs).Nodup)(hm:∀n,n∈nz ps↔n∈nz qs):cL [.lst [LD ps,LD qs]]=none/\d6 [.lst [LD ps,LD qs]]=some (.non,false):=by
 obtain⟨Z,hc,h0,_⟩:=pZ (W:=nz ps) hp hq lp lq (by rw[Ya];exact lp) (fun n hn=>hn.elim id (hm n).mpr)
 obtain⟨s,e⟩:=h0 (List.filter_eq_nil_iff.mpr fun n hn z=>by
  have hz:=(hc.mem n).mp ((aG Z).mem_iff.mp hn);have h1:n∈nz ps:=by
   rcases Vf.mp hz with z|z
   ·exact(aG _).mem_iff.mp z
   ·exact(hm n).mpr ((aG _).mem_iff.mp z)
  have a1:=kI ((aG (nz ps)).nodup_iff.mpr np) ((aG _).mem_iff.mpr h1);have a2:=kI ((aG (nz qs)).nodup_iff.mpr nq) ((aG _).mem_iff.mpr ((hm n).mp h1));have z:=Ak z;rw[Wn,a1,a2]at z
  lia)
 exact⟨zx e,bw (o:=.nx s) rfl (Ds e) rfl⟩
theorem gTt{i j:Nat}{a b:D}{st s1 s2:En}{t u:Sl}(h1:st[i]?=some t)(ht:t.isIo=false)(e1:st.set i (.v a)=s1)(h2:s1[j]?=some u)(hu:u.isIo=false)(e2:s1.set j (.v b)=s2):gT 2 (gsC (gN i) (gsC (gN j) gsN)) (.tup [a,b]) st=some s2:=by
 have p1:gN i a st=some s1:=by simp only[gN,iT,h1,Xa,ht,Zf,if_false,e1]
 have p2:gN j b s1=some s2:=by simp only[gN,iT,h2,Xa,hu,Zf,if_false,e2]
 show(gN i a st).bind (fun s=>(gN j b s).bind fun s'=>some s')=_;rw[p1,Xa,p2];rfl
theorem Hq(ts:List Bd):pQ (ts.map bdD)=(List.range ts.length).map fun k:Nat=>D.tup [.int ((k:Int)+1),bdD (ts.getD k default)]:=by
 unfold pQ;refine Xj fun i=>?_;rw[AZ,Xb,Xb];by_cases hi:i<ts.length
 ·have e:ts.getD i default=ts[i]:=by rw[Xc,Za hi];rfl
  rw[Qj hi,Za hi];show some (D.tup [.int ((i:Int)+1),bdD ts[i]])=some (D.tup [.int ((i:Int)+1),bdD (ts.getD i default)]);rw[e]
 ·rw[Vd (by lia),Vd (by rw[We];lia)];rfl
structure Di(ts:List Bd)(g:Nat)(kvs:List (Key×D)):Prop where
 len:kvs.length<=2*g
 at_:∀(j:Nat)(h:j<ts.length),j<g->bZ kvs (Sum.inr (bd ts[j]))=some (.int ((j:Int)+1))/\bZ kvs (Sum.inr (bd (flp ts[j])))=some (.int (-((j:Int)+1)))
theorem Du{p q:Bd}(hp:Nm p.2)(hq:Nm q.2)(h:p≠q):(Sum.inr (bd p):Key)≠Sum.inr (bd q):=fun e=>h (FF hp hq (by injection e))
theorem Di.step{ts:List Bd}{g:Nat}{kvs:List (Key×D)}(nm:∀p∈ts,Nm p.2)(nd:(nz ts).Nodup)(h:Di ts g kvs)(hg:g<ts.length):Di ts (g+1) (f8 (f8 kvs (Sum.inr (bd ts[g])) (.int ((g:Int)+1))) (Sum.inr (bd (flp ts[g]))) (.int (-((g:Int)+1)))):=by
 have ng:=nm ts[g] (Wg hg);have nf:∀p:Bd,p≠flp p:=fun p=>by obtain⟨t,n⟩:=p;cases t<;>simp[flp]
 refine⟨?_,fun j hj hlt=>?_⟩
 ·have l1:=oK (kvs:=kvs) (k:=(Sum.inr (bd ts[g]):Key)) (d:=.int ((g:Int)+1));have l2:=oK (kvs:=f8 kvs (Sum.inr (bd ts[g])) (.int ((g:Int)+1))) (k:=(Sum.inr (bd (flp ts[g])):Key)) (d:=.int (-((g:Int)+1)));have:=h.len;lia
 ·have nj:=nm ts[j] (Wg hj);by_cases c:j=g
  ·subst c;rw[dA,dA,dA,dA,Ag (Du nj (show Nm (flp ts[j]).2 from nj) (nf _)),Ad rfl,Ad rfl];exact⟨rfl,rfl⟩
  ·have ne:ts[j].2≠ts[g].2:=fun e=>c (xG nd hj hg e);have k1:∀p q:Bd,p.2=ts[j].2->q.2=ts[g].2->(Sum.inr (bd p):Key)≠Sum.inr (bd q):=fun p q e1 e2=>Du (by rw[e1];exact nj) (by rw[e2];exact ng) fun z=>ne (by rw[← e1,z,e2])
   rw[dA,dA,dA,dA,Ag (k1 ts[j] (flp ts[g]) rfl rfl),Ag (k1 ts[j] ts[g] rfl rfl),Ag (k1 (flp ts[j]) (flp ts[g]) rfl rfl),Ag (k1 (flp ts[j]) ts[g] rfl rfl)];exact h.at_ j hj (by lia)
theorem Di.vt{ts:List Bd}{kvs:List (Key×D)}(h:Di ts ts.length kvs){n:Int}(h1:1<=ab n)(h2:ab n<=ts.length):bZ kvs (Sum.inr (bd (vt ts n)))=some (.int n):=by
 have hj:ab n=(((ab n).toNat-1:Nat):Int)+1:=by lia
 have hl:(ab n).toNat-1<ts.length:=by lia
 obtain⟨a,b⟩:=h.at_ _ hl hl;unfold K39.vt;by_cases c:n<0
 ·rw[Ad c,j9 hj hl,b,← hj];unfold ab;rw[Ad c,Int.neg_neg]
 ·rw[Ag c,j9 hj hl,a,← hj];unfold ab;rw[Ag c]
theorem tz{kvs:List (Key×D)}{x:Str}{d:D}(h:kvs.length<100000):nA (.dk kvs) (.str x) d=some (.dk (f8 kvs (Sum.inr x) d)):=by
 show(if kvs.length<100000 then some (D.dk (f8 kvs (Sum.inr x) d)) else none)=_;rw[Ad h]
abbrev Nu(mid:List Int):List Int:=0::(mid++[(mid.length:Int)+1])
theorem zC{ts:List Bd}{mid:List Int}(nm:∀p∈ts,Nm p.2)(nd:(nz ts).Nodup)(O:Of ts (mid.map (vt ts)))(lt:ts.length<=50)(R:Rg ts.length mid):∃s,dQ [.v (LD (mid.map (vt ts))),.v (LD ts),.e,.e,.e]=some (.o (.rt (.f (IL (Nu mid))) s)):=by
 have lm:=R.ln;obtain⟨r1,r2⟩:=uR (ps:=mid.map (vt ts)) (qs:=ts) O.nm nm (by rw[Ya];lia) (by lia) O.nd nd O.mem
 generalize hos:mid.map (vt ts)=os at r1 r2;have los:os.length=mid.length:=by rw[← hos,Ya]
 obtain⟨sf,el,kvs,s3,s4,rfl,hd,_⟩:=bu (fg:=gT 2 (gsC (gN 3) (gsC (gN 4) gsN))) (B:=gE) (fun k:Nat=>D.tup [.int ((k:Int)+1),bdD (ts.getD k default)]) (List.range ts.length) (fun gone st=>∃kvs s3 s4,st=[.v (LD os),.v (LD ts),.o (.dk kvs),s3,s4]/\Di ts gone.length kvs/\s3.isIo=false/\s4.isIo=false)
  (by
   rintro gone t rest st ha ⟨kvs,s3,s4,rfl,hd,i3,i4⟩;obtain⟨rfl,hg⟩:=js ha;have e0:ts.getD gone.length default=ts[gone.length]:=by rw[Xc,Za hg];rfl
   have hl:=hd.len;refine⟨[.v (LD os),.v (LD ts),.o (.dk kvs),.v (.int ((gone.length:Int)+1)),.v (bdD ts[gone.length])],_,by rw[e0];exact gTt (t:=s3) (u:=s4) rfl i3 rfl rfl i4 rfl,?_,f8 (f8 kvs (Sum.inr (bd ts[gone.length])) (.int ((gone.length:Int)+1))) (Sum.inr (bd (flp ts[gone.length]))) (.int (-((gone.length:Int)+1))),.v (.int ((gone.length:Int)+1)),.v (bdD ts[gone.length]),rfl,by rw[Yb];exact hd.step nm nd hg,rfl,rfl⟩
   have l1:=oK (kvs:=kvs) (k:=(Sum.inr (bd ts[gone.length]):Key)) (d:=.int ((gone.length:Int)+1));refine aw (jS rfl rfl rfl rfl rfl rfl rfl rfl (tz (by lia))) ?_
   exact jS (Hh rfl rfl (z:=(.int (-((gone.length:Int)+1)),false)) rfl) rfl rfl rfl (aX rfl rfl (FD (t:=(ts[gone.length]).1) (n:=(ts[gone.length]).2) (nm _ (Wg hg))) rfl) rfl rfl rfl (tz (by lia)))
  (List.range ts.length) [] [.v (LD os),.v (LD ts),.o (.dk []),.e,.e] rfl ⟨[],.e,.e,rfl,⟨Wa _,fun j _ h=>absurd h (Nat.not_lt_zero _)⟩,rfl,rfl⟩
 rw[We]at hd;have ec:dL (gN 0) eX d7 1 (mid.map fun n=>bdD (vt ts n)) [.e,.o (.dk kvs)]=some (mid.map D.int,[.e,.o (.dk kvs)]) :=
  ci (fg:=gN 0) (fc:=eX) (fe:=d7) (k:=1) (fun n=>bdD (vt ts n)) D.int [.e,.o (.dk kvs)] mid fun n hn=>⟨[.v (bdD (vt ts n)),.o (.dk kvs)],[.v (bdD (vt ts n)),.o (.dk kvs)],.d (.int n),[.v (bdD (vt ts n)),.o (.dk kvs)],[.v (bdD (vt ts n)),.o (.dk kvs)],rfl,rfl,aq rfl rfl rfl rfl (z:=(.int n,false)) (by
   show((some (bZ kvs (Sum.inr (bd (vt ts n))))).bind fun o=>o.bind fun d=>some (d,false))=_
   rw[hd.vt (R.rg n hn).1 (R.rg n hn).2];rfl),rfl,rfl⟩
 have eo:os.map bdD=mid.map fun n=>bdD (vt ts n):=by rw[← hos,Yi];rfl
 refine⟨[.v (LD os),.v (LD ts),.o (.dk kvs),s3,s4],?_⟩;refine hJ (s:=[.v (LD os),.v (LD ts),.e,.e,.e]) (zy rfl rfl r1 (cJ (cK rfl rfl r2))) ?_;refine hJ (s:=[.v (LD os),.v (LD ts),.o (.dk []),.e,.e]) rfl ?_;refine hJ (oJ (dG ?_ el)) ?_
 ·rw[← Hq];exact Fr rfl rfl rfl
 ·refine oJ (bK (aq (aq (eF rfl rfl (by simp)) (dP (s1:=[.v (LD os),.v (LD ts),.o (.dk kvs),s3,s4]) (sw (ds:=mid.map fun n=>bdD (vt ts n)) rfl (by rw[← eo];rfl)) (rp (n:=100) (by rw[Ya];lia) (by decide) rfl) ec) rfl rfl (jr (by simp only[Ya,Yc,Ve];lia))) (eF (aA (aq (bv rfl rfl (z:=(.int (mid.length:Int),false)) (by show some (D.int ((os.map bdD).length:Nat),false)=_;rw[Ya,los])) rfl rfl rfl rfl) rfl) rfl (by simp)) rfl rfl (z:=(IL (Nu mid),true)) ?_))
  rw[jr (by simp only[Yb,Ya,Yc,Ve];lia),IL,Zd,Ye];rfl
theorem md{ts:List Bd}{mid:List Int}(nm:∀p∈ts,Nm p.2)(nd:(nz ts).Nodup)(O:Of ts (mid.map (vt ts)))(lt:ts.length<=50)(R:Rg ts.length mid):bY [LD (mid.map (vt ts)),LD ts]=some (IL (Nu mid),true):=by
 obtain⟨s,e⟩:=zC nm nd O lt R;exact bw (o:=.rt (.f (IL (Nu mid))) s) rfl (Ds e) rfl
theorem zD{ns:List Int}:Pl 40 (IL ns):=.lst fun d hd=>by
 obtain⟨i,_,rfl⟩:=Yf.mp hd;exact .int _ i
open Classical in
theorem xH{ns:List Int}:yG (IL ns) (IL ns)=some (.bl true,false):=by
 have e1:bEq (IL ns) (IL ns)=none:=rfl;unfold yG orD;rw[e1];unfold qK;rw[Ad ⟨zD,zD⟩];simp
open Classical in
theorem xI{ns:List Int}:v7 (IL ns) (IL ns)=some (.bl false,false):=by
 have e1:vI true (IL ns) (IL ns)=none:=rfl;cases ns with
 | nil=>unfold v7 bNe orD;rw[e1];rfl
 | cons x r =>
  have e2:EF (IL (x::r)) (IL (x::r))=none:=rfl;have e3:qK true (IL (x::r)) (IL (x::r))=some (.bl false,false):=by
   unfold qK;rw[Ad ⟨zD,zD⟩];simp
  unfold v7 bNe orD;rw[e1,e2];exact e3
theorem zE{α:Type}(xs:List α):m8 (xs.map fun _=>D.bl true)=some (xs.map fun _=>true):=by
 induction xs with
 | nil=>rfl
 | cons x r ih =>
  show(m8 (r.map fun _=>D.bl true)).bind _=_;rw[ih];rfl
theorem xJ{ns:List Int}(hl:ns.length<=1000):b7 [IL ns]=some (.bl true,false):=by
 have ec:dL (gN 0) eX bO 1 (ns.map D.int) [.e]=some (ns.map fun _=>D.bl true,[.e]) :=
  ci (fg:=gN 0) (fc:=eX) (fe:=bO) (k:=1) D.int (fun _=>D.bl true) [.e] ns fun n hn=>⟨[.v (.int n)],[.v (.int n)],.d (.bl true),[.v (.int n)],[.v (.int n)],rfl,rfl,rfl,rfl,rfl⟩
 refine bw (o:=.rt (.d (.bl true)) [.v (IL ns)]) rfl ?_ rfl;refine bK (bv (aA (dP (s1:=[.v (IL ns)]) (jb rfl rfl) (rp (n:=1000) (by rw[Ya];lia) (by decide) rfl) ec) rfl) rfl (z:=(.bl true,false)) ?_)
 show(m8 (ns.map fun _=>D.bl true)).bind (fun bs=>some (D.bl (bs.all id),false))=_;rw[zE];show some (D.bl ((ns.map fun _=>true).all id),false)=_;congr 3;rw[Qm];intro x hx;obtain⟨_,_,rfl⟩:=Yf.mp hx;rfl
theorem oM{os ts:List Bd}{ns:List Int}(h:bY [LD os,LD ts]=some (IL ns,true))(hl:ns.length<=100):bM [LD os,LD ts,IL ns]=some (.bl true,false):=by
 refine bw (o:=.rt (.d (.bl true)) [.v (LD os),.v (LD ts),.v (IL ns),.o (.lst (ns.map D.int++[.int 0]))]) rfl ?_ rfl;refine aw (s:=[.v (LD os),.v (LD ts),.v (IL ns),.o (IL ns)]) (dj (cK rfl rfl h) rfl) ?_;refine aw (s:=[.v (LD os),.v (LD ts),.v (IL ns),.o (IL ns)]) (gp (s:=[.v (LD os),.v (LD ts),.v (IL ns),.o (IL ns)]) (qG (s:=[.v (LD os),.v (LD ts),.v (IL ns),.o (IL ns)]) rfl (qG (s:=[.v (LD os),.v (LD ts),.v (IL ns),.o (IL ns)]) (aH (aq rfl rfl rfl rfl xI) rfl) (iD (c:=true) (aH (aX rfl rfl (xJ (by lia)) rfl) rfl)))) rfl) ?_
 refine aw (s:=[.v (LD os),.v (LD ts),.v (IL ns),.o (.lst (ns.map D.int++[.int 0]))]) (cJ (km rfl rfl rfl rfl rfl rfl rfl (gJ (by rw[Ya];lia)) rfl)) ?_
 exact bK (aq (cK rfl rfl h) rfl rfl rfl xH)
theorem FQ(ns:List Int):enD (ns.map D.int)=(List.range ns.length).map fun k:Nat=>D.tup [.int (k:Int),.int (ns.getD k 0)]:=by
 unfold enD;refine Xj fun i=>?_;rw[AZ,Xb,Xb];by_cases hi:i<ns.length
 ·have e:ns.getD i 0=ns[i]:=by rw[Xc,Za hi];rfl
  rw[Qj hi,Za hi];show some (D.tup [.int (i:Int),.int ns[i]])=some (D.tup [.int (i:Int),.int (ns.getD i 0)]);rw[e]
 ·rw[Vd (by lia),Vd (by rw[We];lia)];rfl
def sg(n:Int)(i:Nat):Int:=if n<0 then 0-(i:Int) else(i:Int)
theorem zF{bs:List Int}{j:Nat}{v:Int}(h:j<bs.length):pr (IL bs) (.int (j:Int)) (.int v)=some (IL (bs.set j v)):=by
 show(ixN (bs.map D.int).length (j:Int)).bind (fun k=>some (D.lst ((bs.map D.int).set k (.int v))))=_;have:ixN (bs.map D.int).length (j:Int)=some j:=by
  rw[Ya];unfold ixN;simp;lia
 rw[this];show some (D.lst ((bs.map D.int).set j (.int v)))=some (D.lst ((bs.set j v).map D.int));rw[List.map_set]
structure Bk(ns bs:List Int)(g:Nat):Prop where
 len:bs.length=ns.length
 at_:∀i n,i<g->ns[i]?=some n->bs[(ab n).toNat]?=some (sg n i)
theorem zG{ns:List Int}(N:Nq ((ns.length:Int)-1) ns)(hl:ns.length<=100):∃bs,gh [IL ns]=some (IL bs,true)/\Bk ns bs ns.length:=by
 obtain⟨sf,el,bs,s2,s3,rfl,hb,_⟩:=bu (fg:=gT 2 (gsC (gN 2) (gsC (gN 3) gsN))) (B:=jj) (fun k:Nat=>D.tup [.int (k:Int),.int (ns.getD k 0)]) (List.range ns.length) (fun gone st=>∃bs s2 s3,st=[.v (IL ns),.o (IL bs),s2,s3]/\Bk ns bs gone.length/\s2.isIo=false/\s3.isIo=false)
  (by
   rintro gone t rest st ha ⟨bs,s2,s3,rfl,hb,i2,i3⟩;obtain⟨rfl,hg⟩:=js ha;have e0:ns.getD gone.length 0=ns[gone.length]:=by rw[Xc,Za hg];rfl
   have lb:=hb.len;generalize hn:ns[gone.length]=n at e0;have hmem:n∈ns:=hn ▸ Wg hg;have a0:=nH n;have a1:=N.le n hmem;obtain⟨j,hj⟩:=Wf a0;have jl:j<bs.length:=by lia
   have ev:bIx (.lst [.int (gone.length:Int),.int (0-(gone.length:Int))]) (.int (if decide (n<0)=true then 1 else 0))=some (.int (sg n gone.length),false):=by
    unfold sg;by_cases c:n<0
    ·rw[Ai c,Ad rfl,Ad c];rfl
    ·rw[Af c,Ag Bool.noConfusion,Ag c];rfl
   refine⟨[.v (IL ns),.o (IL bs),.v (.int (gone.length:Int)),.v (.int n)],_,by rw[e0];exact gTt (t:=s2) (u:=s3) rfl i2 rfl rfl i3 rfl,jS (aq (eF (aA rfl (aA (aq rfl rfl rfl rfl rfl) rfl)) rfl (by simp)) (bv (aA (aq rfl rfl rfl rfl rfl) rfl) rfl (z:=(.int (if decide (n<0)=true then 1 else 0),false)) rfl) rfl rfl ev) rfl rfl rfl (bv rfl rfl (z:=(.int (j:Int),false)) (by rw[← hj];rfl)) rfl rfl rfl (zF jl),bs.set j (sg n gone.length),.v (.int (gone.length:Int)),.v (.int n),rfl,⟨by rw[List.length_set];exact lb,fun i m hi hm=>?_⟩,rfl,rfl⟩
   rw[Yb]at hi;have hi:i<gone.length+1:=hi;by_cases c:i=gone.length
   ·subst c;rw[Za hg,hn]at hm;injection hm with hm;subst hm;rw[hj,Vk,Yl jl]
   ·have hm0:=hb.at_ i m (by lia) hm
    obtain⟨hil,hmi⟩:=Va.mp hm
    have hne:ab m≠ab n:=fun z=>c (by
     have h:=Wk.mp (Qh.mp N.nd);rcases Bm i gone.length with q|q|q
     ·exact(h i gone.length hil hg q (by rw[hmi,hn];exact z)).elim
     ·exact q
     ·lia)
    have:=nH m;rw[Zj (by lia)]
    exact hm0)
  (List.range ns.length) [] [.v (IL ns),.o (IL ns),.e,.e] rfl ⟨ns,.e,.e,rfl,⟨rfl,fun i n h=>absurd h (Nat.not_lt_zero _)⟩,rfl,rfl⟩
 rw[We]at hb;refine⟨bs,?_,hb⟩;refine bw (o:=.rt (.s 1) [.v (IL ns),.o (IL bs),s2,s3]) rfl ?_ rfl;refine aw (s:=[.v (IL ns),.o (IL ns),.e,.e]) rfl (aw (dG ?_ el) rfl);rw[← FQ];exact GO rfl rfl rfl
theorem fD(mid:List Int):(Nu mid).length=mid.length+2:=by simp
theorem xK{mid:List Int}{i:Nat}{n:Int}(h:mid[i]?=some n):(Nu mid)[i+1]?=some n:=by
 obtain⟨hi,_⟩:=Va.mp h;rw[Bz,Ze hi,h]
theorem oN(mid:List Int):(Nu mid)[mid.length+1]?=some ((mid.length:Int)+1):=by
 rw[Bz,Wd (Wa _),Nat.sub_self];rfl
theorem tD(n:Int)(i:Nat):ab (sg n i)=(i:Int):=by
 unfold sg ab;split<;>split<;>lia
theorem Hr{q:Nat}{mid:List Int}(R:Rg q mid){j:Nat}(hj:j<q):∃(i:Nat)(n:Int),i<q/\mid[i]?=some n/\ab n=(j:Int)+1:=by
 obtain⟨n,hn,e⟩:=Dt R hj;obtain⟨i,hi,rfl⟩:=Xi.mp hn;exact⟨i,mid[i],by rw[← R.ln];exact hi,Za hi,e⟩
theorem FR{ts os:List Bd}{n:Int}{i j:Nat}(hn:ab n=(j:Int)+1)(hj:j<ts.length)(ho:os[i]?=some (vt ts n)):vt os (sg n (i+1))=ts[j]:=by
 obtain⟨hi,ho⟩:=Va.mp ho;have ha:ab (sg n (i+1))=(i:Int)+1:=tD n (i+1);have e:=j9 ha hi;unfold vt;rw[e,ho];unfold vt;rw[j9 hn hj];by_cases c:n<0
 ·have:sg n (i+1)<0:=by unfold sg;rw[Ad c];lia
  rw[Ad this,Ad c,zt]
 ·have:¬ sg n (i+1)<0:=by unfold sg;rw[Ag c];lia
  rw[Ag this,Ag c]
theorem zH{ts:List Bd}{mid:List Int}(R:Rg ts.length mid)(N:Nq (((Nu mid).length:Int)-1) (Nu mid))(hl:ts.length<=50):∃mid',gh [IL (Nu mid)]=some (IL (Nu mid'),true)/\Rg ts.length mid'/\mid'.map (vt (mid.map (vt ts)))=ts:=by
 have lm:=R.ln;obtain⟨bs,e,B⟩:=zG N (by rw[fD];lia)
 have lb:bs.length=ts.length+2:=by rw[B.len,fD,lm]
 have b0:bs[0]?=some 0:=B.at_ 0 0 (by rw[fD];lia) rfl
 have bl:bs[ts.length+1]?=some ((ts.length:Int)+1):=by
  have:=B.at_ (mid.length+1) _ (by rw[fD];lia) (oN mid)
  rw[lZ (by lia),lm]at this
  unfold sg at this;rw[Ag (by lia),show((ts.length:Int)+1).toNat=ts.length+1 by lia]at this
  exact this
 have bm:∀j,(h:j<ts.length)->∃(i:Nat)(n:Int),i<ts.length/\mid[i]?=some n/\ab n=(j:Int)+1/\bs[j+1]?=some (sg n (i+1)):=fun j hj=>by
  obtain⟨i,n,hi,hn,ha⟩:=Hr R hj;have:=B.at_ (i+1) n (by rw[fD];lia) (xK hn)
  rw[ha,show((j:Int)+1).toNat=j+1 by lia]at this
  exact⟨i,n,hi,hn,ha,this⟩
 have mat:∀j,j<ts.length->((bs.drop 1).take ts.length)[j]?=bs[j+1]?:=fun j hj=>by
  rw[Ct hj,Xh,CG]
 have ml:((bs.drop 1).take ts.length).length=ts.length:=by rw[By,Vm];lia
 generalize hm:(bs.drop 1).take ts.length=mid' at mat ml;have eb:bs=Nu mid':=by
  refine Xj fun i=>?_;rcases Bm i (ts.length+1) with c|c|c
  ·cases i with
   | zero=>rw[b0];rfl
   | succ i=>rw[Bz,Ze (by lia),mat i (by lia)]
  ·subst c;rw[bl,← ml,oN]
  ·rw[Vd (by lia),Vd (by rw[fD];lia)]
 refine⟨mid',by rw[e,eb],⟨fun n hn=>?_,?_,ml⟩,?_⟩
 ·obtain⟨j,hj,rfl⟩:=Xi.mp hn;have hj':j<ts.length:=by lia
  obtain⟨i,n,hi,_,_,hb⟩:=bm j hj';rw[← mat j hj',Za hj]at hb;injection hb with hb;rw[hb,tD];lia
 ·refine Qh.mpr (Wk.mpr fun j k hj hk hjk z=>?_);have hj':j<ts.length:=by lia
  have hk':k<ts.length:=by lia
  obtain⟨i,n,hi,hn,ha,hb⟩:=bm j hj';obtain⟨i',n',hi',hn',ha',hb'⟩:=bm k hk';rw[← mat j hj',Za hj]at hb;rw[← mat k hk',Za hk]at hb';injection hb with hb;injection hb' with hb';rw[hb,hb',tD,tD]at z;have:i=i':=by lia
  subst this;rw[hn]at hn';injection hn' with hn';subst hn';lia
 ·refine Xj fun j=>?_;by_cases hj:j<ts.length
  ·obtain⟨i,n,hi,hn,ha,hb⟩:=bm j hj;rw[Xb,mat j hj,hb,Za hj];show some (vt (mid.map (vt ts)) (sg n (i+1)))=_;rw[FR ha hj (os:=mid.map (vt ts)) (by rw[Xb,hn];rfl)]
  ·rw[Vd (by rw[Ya];lia),Vd (by lia)]
theorem jt(m:Nat):(ups m).length=m:=by unfold ups;rw[Ya,We]
theorem xL{m j:Nat}(h:j<m):(ups m)[j]?=some ((j:Int)+1):=by
 unfold ups;rw[Xb,Qj h];rfl
theorem FU(m:Nat):Rg m (ups m):=by
 have ha:∀x∈ups m,ab x=x:=fun x hx=>lZ (by have:=g8 hx;lia)
 refine⟨fun n hn=>?_,?_,jt m⟩
 ·rw[ha n hn];exact g8 hn
 ·rw[Qg ha,List.map_id'];exact xv m
theorem xM(os:List Bd):(ups os.length).map (vt os)=os:=by
 refine Xj fun j=>?_;rw[Xb];by_cases hj:j<os.length
 ·rw[xL hj,Za hj];show some (vt os ((j:Int)+1))=_;unfold vt;rw[Ag (by lia),j9 (lZ (by lia)) hj]
 ·rw[Vd (by rw[jt];lia),Vd (by lia)];rfl
theorem FV(m:Nat):(Nu (ups m)).map D.int=rng 0 (m+2):=by
 have:rng 0 (m+2)=(List.range (m+2)).map fun t:Nat=>D.int (0+(t:Int)):=rfl;rw[this];refine Xj fun i=>?_;rw[Xb,Xb];rcases Bm i (m+1) with c|c|c
 ·rw[Qj (by lia)]
  cases i with
  | zero=>rfl
  | succ i =>
   rw[xK (xL (show i<m by lia))]
   show some (D.int ((i:Int)+1))=some (D.int (0+((i+1:Nat):Int)));rw[CK];rfl
 ·subst c;rw[Qj (by lia)]
  have:=oN (ups m);rw[jt]at this;rw[this];show some (D.int ((m:Int)+1))=some (D.int (0+((m+1:Nat):Int)));rw[CK];rfl
 ·rw[Vd (by rw[fD,jt];lia),Vd (by rw[We];lia)];rfl
theorem nK{x:Str}{xs:List Str}:iA (.str x) (.lst (xs.map D.str))=some (.bl (!decide (x∈xs)),false):=by
 have e1:bIn (.str x) (.lst (xs.map D.str))=some (.bl (decide (x∈xs)),false):=GD;have h0:qC false (.str x) (.lst (xs.map D.str))=none:=rfl;have h1:qC true (.str x) (.lst (xs.map D.str))=none:=rfl;unfold bIn orD at e1;rw[h0]at e1;unfold iA orD;rw[h1];unfold vK at e1 ⊢;refine bsO e1 fun w w1 e1=>bsO e1 fun ds w2 e1=>bsO e1 fun ws w3 e1=>?_;rw[w1,w2];show(lc ds).bind _=_;rw[w3];injection e1 with e1;injection e1 with e1 _;injection e1 with e1;show some (D.bl (if true=true then !inV w ws else inV w ws),false)=_;rw[Ad rfl];rw[Ag Bool.noConfusion]at e1;rw[e1]
structure Ap(os us:List Bd):Prop where
 nm:∀p∈os,Nm p.2
 nm':∀p∈us,Nm p.2
 nd:(nz os).Nodup
 nd':(nz us).Nodup
 ln:os.length<=50
 ln':us.length<=50
 few:∃W:List Str,W.length<64/\∀n,n∈nz os∨n∈nz us->n∈W
 one:∃n,(n∈nz os/\n∉nz us)∨(n∈nz us/\n∉nz os)
theorem Ap.symm{os us:List Bd}(h:Ap os us):Ap us os:=⟨h.nm',h.nm,h.nd',h.nd,h.ln',h.ln,by obtain⟨W,h1,h2⟩:=h.few;exact⟨W,h1,fun n hn=>h2 n hn.symm⟩,by obtain⟨n,hn⟩:=h.one;exact⟨n,hn.symm⟩⟩
def alo(os us:List Bd):List Str:=(nz os++nz us).filter fun n=>!decide (n∈nz os)||!decide (n∈nz us)
theorem alo_mem{os us:List Bd}{n:Str}:n∈alo os us↔(n∈nz os/\n∉nz us)∨(n∈nz us/\n∉nz os):=by
 unfold alo;rw[List.mem_filter,Vf];by_cases c:n∈nz os
 ·by_cases d:n∈nz us
  ·simp only[c,d,decide_true];simp
  ·simp only[c,d,decide_true,CB];simp
 ·by_cases d:n∈nz us
  ·simp only[c,d,decide_true,CB];simp
  ·simp only[c,d,CB];simp
theorem xO{l:List Str}(h:l.Nodup)(n:Str):(be l).count n=if n∈l then 1 else 0:=by
 by_cases c:n∈l
 ·rw[Ad c];exact kI ((aG l).nodup_iff.mpr h) ((aG l).mem_iff.mpr c)
 ·rw[Ag c];exact List.count_eq_zero.mpr fun z=>c ((aG l).mem_iff.mp z)
theorem xP{os us:List Bd}{Z:List Str}(A:Ap os us)(hc:CI Z (bE os us)){n:Str}:n∈lk Z (bE os us)↔n∈alo os us:=by
 unfold lk;rw[List.mem_filter,(aG Z).mem_iff,hc.mem,decide_eq_true_eq,Wn,xO A.nd,xO A.nd',alo_mem,Vf,(aG _).mem_iff,(aG _).mem_iff];by_cases c:n∈nz os
 ·by_cases d:n∈nz us
  ·rw[Ad c,Ad d];simp[c,d]
  ·rw[Ag d,Ad c];simp[c,d]
 ·by_cases d:n∈nz us
  ·rw[Ad d,Ag c];simp[c,d]
  ·simp[c,d]
theorem xQ{os us:List Bd}(A:Ap os us):cL [.lst [LD os,LD us]]=some (some (f9 (alo os us))):=by
 obtain⟨W,lw,hW⟩:=A.few;have h1:=A.ln;have h2:=A.ln';obtain⟨Z,hc,_,hx⟩:=pZ A.nm A.nm' (by lia) (by lia) lw hW
 have ne:alo os us≠[]:=fun z=>by
  obtain⟨n,hn⟩:=A.one;have:=alo_mem.mpr hn;rw[z]at this;cases this
 have hs:(lk Z (bE os us)).Pairwise leS:=(iC Z).filter _;have hmin:=(xP A hc).mpr (xz ne);cases e:lk Z (bE os us) with
 | nil=>rw[e]at hmin;cases hmin
 | cons h t =>
  have hh:h∈alo os us:=(xP A hc).mp (by rw[e];exact Wc)
  have le:ltS (f9 (alo os us)) h=false:=by
   rw[e]at hmin hs;rcases Xd.mp hmin with z|z
   ·rw[z];exact tj h
   ·exact Af ((List.pairwise_cons.mp hs).1 _ z)
  rw[← zq (zp hh) le];exact tw rfl (hx h t e)
theorem zJ{os us:List Bd}(A:Ap os us):gd [LD os,LD us]=some (some (f9 (alo os us))) :=
 tw rfl (FP (zB (st:=[.v (LD os),.v (LD us),.e,.e,.e]) rfl rfl (xQ A)))
theorem FW{R:List D->Option (Option Str)}{g:List D->Option Rz}{fa:FA}{i j:Nat}{c n:Str}{st s1 s2 s3:En}{rs:List Rs}{ds:List D}{v:Option Str}(h1:fa st=some (rs,s1))(h2:bz rs s1=some (ds,s2))(h3:R ds=some v)(h4:s2[i]?=some .e)(h5:i≠j)(h6:iT j (.v (.xc c n v)) s2=some s3):sW R g fa i j c n st=some (.nx s3):=by
 simp only[sW,h1,h2,h3,h4,Ag h5,h6,Xa]
theorem uS{os:List Bd}(nm:∀p∈os,Nm p.2)(hl:os.length<=100):df [.v (LD os)]=some (.f (.lst ((nz os).map D.str)),[.v (LD os)]):=by
 have ec:dL (gN 0) eX de 1 (os.map bdD) [.e]=some (os.map fun p=>D.str p.2,[.e]) :=
  ci (fg:=gN 0) (fc:=eX) (fe:=de) (k:=1) bdD (fun p=>D.str p.2) [.e] os fun p hp=>⟨[.v (bdD p)],[.v (bdD p)],.d (.str p.2),[.v (bdD p)],[.v (bdD p)],rfl,rfl,GE rfl rfl rfl rfl rfl rfl (xC (nm p hp)),rfl,rfl⟩
 have:=dP (k:=1) (fe:=de) (fi:=fIA (af 0)) (fg:=gN 0) (caps:=[]) (fc:=eX) (st:=[.v (LD os)]) (s1:=[.v (LD os)]) (sw rfl rfl) (rp (n:=100) (by rw[Ya];lia) (by decide) rfl) ec
 rw[Yi];exact this
theorem FX{b:Bool}{c n:Str}{fe:FE}{st s:En}{r:Rs}{v:Option Str}(h1:fe st=some (r,s))(h2:cont s r=some (.xc c n v)):gq b c fe st=some (.d (.bl b),s):=by
 simp only[gq,h1,h2,Xa,Ad]
theorem FZ{c n:Str}{fe:FE}{st s:En}{r:Rs}{y:Str}(h1:fe st=some (r,s))(h2:cont s r=some (.xc c n (some y))):zf n c fe st=some (.d (.str y),s):=by
 simp only[zf,h1,h2,Xa,and_self,if_true]
abbrev f3:D:=.lst [.bl false,.bl false,.bl false]
theorem p6{os us:List Bd}(A:Ap os us):eQ [LD os,LD us]=some (.bl true,false):=by
 have h1:=A.ln;have h2:=A.ln';have ne:alo os us≠[]:=fun z=>by
  obtain⟨n,hn⟩:=A.one;have:=alo_mem.mpr hn;rw[z]at this;cases this
 generalize hx:(D.xc "Lacks" "name" (some (f9 (alo os us))))=x;have is:∀(b:Bool)(s3 s4 s5:Sl),gq b "Lacks" (af 2) [.v (LD os),.v (LD us),.v x,s3,s4,s5,.e]=some (.d (.bl b),[.v (LD os),.v (LD us),.v x,s3,s4,s5,.e]):=fun b s3 s4 s5=>FX (n:="name") (v:=some (f9 (alo os us))) rfl (by rw[hx];rfl)
 have l3:∀(s3 s4 s5:Sl),(cA (ad (gq false "Lacks" (af 2)) (ad (gq false "Lacks" (af 2)) (ad (gq false "Lacks" (af 2)) av)))) [.v (LD os),.v (LD us),.v x,s3,s4,s5,.e]=some (.f f3,[.v (LD os),.v (LD us),.v x,s3,s4,s5,.e]):=fun s3 s4 s5=>eF (aA (is false s3 s4 s5) (aA (is false s3 s4 s5) (aA (is false s3 s4 s5) rfl))) rfl (by simp)
 have eN:dL (gN 0) eX df 1 ([os,us].map LD) [.e]=some ([os,us].map (fun ps=>D.lst ((nz ps).map D.str)),[.e]) :=
  ci (fg:=gN 0) (fc:=eX) (fe:=df) (k:=1) LD (fun ps=>D.lst ((nz ps).map D.str)) [.e] [os,us] fun ps hp=>⟨[.v (LD ps)],[.v (LD ps)],.f (.lst ((nz ps).map D.str)),[.v (LD ps)],[.v (LD ps)],rfl,rfl,uS (by
   rcases Xd.mp hp with rfl|hp
   ·exact A.nm
   ·rw[Vb.mp hp];exact A.nm') (by
   rcases Xd.mp hp with rfl|hp
   ·lia
   ·rw[Vb.mp hp];lia),rfl,rfl⟩
 generalize hNN:D.lst [.lst ((nz os).map D.str),.lst ((nz us).map D.str)]=NN;have i0:bIx NN (.int 0)=some (.lst ((nz os).map D.str),false):=by rw[← hNN];exact iK (i:=0) rfl
 have i1:bIx NN (.int 1)=some (.lst ((nz us).map D.str),false):=by rw[← hNN];exact iK (i:=1) rfl
 have eA:dL (gN 0) fz fA 1 ((nz os++nz us).map D.str) [.e,.o NN]=some ((alo os us).map D.str,[.e,.o NN]) :=
  fW (fg:=gN 0) (fc:=fz) (fe:=fA) (k:=1) D.str D.str (fun n=>!decide (n∈nz os)||!decide (n∈nz us)) [.e,.o NN] (nz os++nz us) fun n hn=>by
   refine⟨[.v (.str n),.o NN],[.v (.str n),.o NN],rfl,?_,fun _=>rfl,fun _=>⟨.d (.str n),[.v (.str n),.o NN],[.v (.str n),.o NN],rfl,rfl,rfl⟩⟩;have t1:aV (fOp iA (af 0) (fOp bIx (af 1) (fC (.int 0)))) [.v (.str n),.o NN]=some (!decide (n∈nz os),[.v (.str n),.o NN]):=aH (aq rfl (aq rfl rfl rfl rfl i0) rfl rfl nK) rfl;have t2:aV (fOp iA (af 0) (fOp bIx (af 1) (fC (.int 1)))) [.v (.str n),.o NN]=some (!decide (n∈nz us),[.v (.str n),.o NN]):=aH (aq rfl (aq rfl rfl rfl rfl i1) rfl rfl nK) rfl;cases c:!decide (n∈nz os) with
   | true=>rw[c]at t1;rw[Bool.true_or];exact Hx t1
   | false=>rw[c]at t1;rw[Cv];exact qG t1 t2
 have la:(nz os++nz us).length<=200:=by rw[Yb,Ya,Ya];lia
 have ee:bEq (.str (f9 (alo os us))) (.str (f9 (alo os us)))=some (.bl true,false):=by
  have:bEq (.str (f9 (alo os us))) (.str (f9 (alo os us)))=some (.bl (decide (V.str (f9 (alo os us))=V.str (f9 (alo os us)))),false):=rfl;rw[this,Ai rfl]
 refine bw (o:=.rt (.d (.bl true)) [.v (LD os),.v (LD us),.v x,.o (.lst [.bl false,.bl false,.bl false,.bl false,.bl false,.bl false,.bl false,.bl false,.bl false]),.o NN,.o (.lst ((alo os us).map D.str)),.e]) rfl ?_ rfl;refine aw (s:=[.v (LD os),.v (LD us),.v .non,.e,.e,.e,.e]) rfl ?_;refine aw (s:=[.v (LD os),.v (LD us),.v x,.e,.e,.e,.e]) (FW rfl rfl (zJ A) rfl (by decide) (by rw[hx];rfl)) ?_
 refine aw (s:=[.v (LD os),.v (LD us),.v x,.o f3,.e,.e,.e]) (dj (l3 _ _ _) rfl) ?_;refine aw (s:=[.v (LD os),.v (LD us),.v x,.o (.lst [.bl false,.bl false,.bl false,.bl false,.bl false,.bl false]),.e,.e,.e]) (dj (aq rfl (l3 _ _ _) rfl rfl (jr (by simp))) rfl) ?_
 refine aw (s:=[.v (LD os),.v (LD us),.v x,.o (.lst [.bl false,.bl false,.bl false,.bl false,.bl false,.bl false,.bl false,.bl false,.bl false]),.e,.e,.e]) (dj (aq rfl (l3 _ _ _) rfl rfl (jr (by simp))) rfl) ?_
 refine aw (s:=[.v (LD os),.v (LD us),.v x,.o (.lst [.bl false,.bl false,.bl false,.bl false,.bl false,.bl false,.bl false,.bl false,.bl false]),.e,.e,.e]) (gp (s:=[.v (LD os),.v (LD us),.v x,.o (.lst [.bl false,.bl false,.bl false,.bl false,.bl false,.bl false,.bl false,.bl false,.bl false]),.e,.e,.e]) (qG (iD (c:=true) (aH (is true _ _ _) rfl)) (qG (aH (is false _ _ _) rfl) (aH (aq rfl rfl rfl rfl (z:=(.bl false,false)) (by rfl)) rfl))) rfl) ?_
 refine aw (s:=[.v (LD os),.v (LD us),.v x,.o (.lst [.bl false,.bl false,.bl false,.bl false,.bl false,.bl false,.bl false,.bl false,.bl false]),.o NN,.e,.e]) (dj (x:=NN) (by
  rw[← hNN]
  exact dP (s1:=[.v (LD os),.v (LD us),.v x,.o (.lst [.bl false,.bl false,.bl false,.bl false,.bl false,.bl false,.bl false,.bl false,.bl false]),.e,.e,.e]) (sw (qH rfl rfl (by show 2<=1000000;decide)) rfl) (rp (n:=2) (by simp) (by decide) rfl) eN) rfl) ?_
 refine aw (s:=[.v (LD os),.v (LD us),.v x,.o (.lst [.bl false,.bl false,.bl false,.bl false,.bl false,.bl false,.bl false,.bl false,.bl false]),.o NN,.o (.lst ((alo os us).map D.str)),.e]) (dj (dP (s1:=[.v (LD os),.v (LD us),.v x,.o (.lst [.bl false,.bl false,.bl false,.bl false,.bl false,.bl false,.bl false,.bl false,.bl false]),.o NN,.e,.e]) (jb (aq (aq rfl rfl rfl rfl i0) (aq rfl rfl rfl rfl i1) rfl rfl (z:=(.lst ((nz os++nz us).map D.str),true)) (by rw[Ye];exact jr (by rw[Ya,Ya,Ya,Ya];lia))) rfl) (rp (n:=200) (by rw[Ya];exact la) (by decide) rfl) eA) rfl) ?_
 exact bK (aq (FZ (y:=f9 (alo os us)) (n:="name") (c:="Lacks") rfl (by rw[hx];rfl)) (bv rfl rfl (FC ne)) rfl rfl ee)
end
end K39
namespace K39
open PySem L2 VF VL VF22 VX
noncomputable section
structure Sp(ts us:List Bd):Prop where
 nm:∀p∈us,Nm p.2
 nd:(nz us).Nodup
 ln:us.length<=ts.length+1
 few:∃o:Str,∀n∈nz us,n∈nz ts∨n=o
 one:∃n,(n∈nz ts/\n∉nz us)∨(n∈nz us/\n∉nz ts)
theorem Sp.ap{ts us os:List Bd}(h:Sp ts us)(O:Of ts os)(hl:ts.length<=40)(lo:os.length=ts.length):Ap os us:=by
 obtain⟨o,ho⟩:=h.few;have hn:=h.ln;refine⟨O.nm,h.nm,O.nd,h.nd,by lia,by lia,⟨o::nz ts,by rw[Yc,Ya];lia,fun n hn=>?_⟩,?_⟩
 ·rcases hn with z|z
  ·exact Zc _ ((O.mem n).mp z)
  ·rcases ho n z with w|w
   ·exact Zc _ w
   ·rw[w];exact Wc
 ·obtain⟨n,hn⟩:=h.one;exact⟨n,by rw[O.mem];exact hn⟩
section
variable {a b ts:List Bd}{p o:Bd}
theorem tE(h:∀p∈a++b,Nm p.2)(nd:(nz (a++b)).Nodup)(no:Nm o.2)(ho:o.2∉nz (a++b)):Sp (a++b) (a++o::b):=by
 have pm:(nz (a++o::b)).Perm (o.2::nz (a++b)):=(Vi (l₁:=a) (a:=o) (l₂:=b)).map _;refine⟨fun p hp=>?_,pm.nodup_iff.mpr (Xf.mpr ⟨ho,nd⟩),by simp;lia,⟨o.2,fun n hn=>?_⟩,⟨o.2,.inr ⟨pm.mem_iff.mpr Wc,ho⟩⟩⟩
 ·rcases Xd.mp ((Bp Vi).mp hp) with rfl|z
  ·exact no
  ·exact h p z
 ·rcases Xd.mp (pm.mem_iff.mp hn) with z|z
  ·exact .inr z
  ·exact .inl z
theorem zK(h:∀q∈a++p::b,Nm q.2)(nd:(nz (a++p::b)).Nodup):Sp (a++p::b) (a++b):=by
 have pm:(nz (a++p::b)).Perm (p.2::nz (a++b)):=(Vi (l₁:=a) (a:=p) (l₂:=b)).map _;obtain⟨h1,h2⟩:=Xf.mp (pm.nodup_iff.mp nd);refine⟨fun q hq=>h q ((Bp Vi).mpr (Zc _ hq)),h2,by simp;lia,⟨p.2,fun n hn=>.inl (pm.mem_iff.mpr (Zc _ hn))⟩,⟨p.2,.inl ⟨pm.mem_iff.mpr Wc,h1⟩⟩⟩
theorem zL(h:∀q∈a++p::b,Nm q.2)(nd:(nz (a++p::b)).Nodup)(no:Nm o.2)(ho:o.2∉nz (a++p::b)):Sp (a++p::b) (a++o::b):=by
 have pm:(nz (a++p::b)).Perm (p.2::nz (a++b)):=(Vi (l₁:=a) (a:=p) (l₂:=b)).map _;have pm':(nz (a++o::b)).Perm (o.2::nz (a++b)):=(Vi (l₁:=a) (a:=o) (l₂:=b)).map _;obtain⟨h1,h2⟩:=Xf.mp (pm.nodup_iff.mp nd);have h3:o.2∉nz (a++b):=fun z=>ho (pm.mem_iff.mpr (Zc _ z));refine⟨fun q hq=>?_,pm'.nodup_iff.mpr (Xf.mpr ⟨h3,h2⟩),by simp,⟨o.2,fun n hn=>?_⟩,⟨o.2,.inr ⟨pm'.mem_iff.mpr Wc,ho⟩⟩⟩
 ·rcases Xd.mp ((Bp Vi).mp hq) with rfl|z
  ·exact no
  ·exact h q ((Bp Vi).mpr (Zc _ z))
 ·rcases Xd.mp (pm'.mem_iff.mp hn) with z|z
  ·exact .inr z
  ·exact .inl (pm.mem_iff.mpr (Zc _ z))
end
theorem xR{x:Str}(h:(decide (1<=x.length/\x.length<=6)&&x.cps.toList.all fun c=>decide (97<=c/\c<=122))=true):Nm x:=by
 rw[Zg,decide_eq_true_eq,Qm]at h;exact⟨h.1.1,h.1.2,fun c hc=>Ak (h.2 c hc)⟩
theorem Dv{i j:Int}:cy (.int i) (.int j)=some (.int (i+j),false):=rfl
theorem xS{a b:List Bd}(h:a.length+b.length<=1000):cy (LD a) (LD b)=some (LD (a++b),false):=by
 rw[yK (by rw[Ya,Ya];lia),← Ye]
theorem rA(ts:List Bd):dF [LD ts]=some (.int (ts.length:Int),false):=by
 show some (D.int ((ts.map bdD).length:Nat),false)=_;rw[Ya]
theorem uT{δ:D}{ts:List Bd}(hδ:cN δ)(T:Th ts)(hl:ts.length<=40):∃us δ',gi δ [LD ts]=some ((LD us,false),δ')/\Sp ts us/\cN δ':=by
 have tn:∀p∈ts,Nm p.2:=fun p hp=>T.nx.nm _ (Wi hp);obtain⟨d1,δ1,e1,d10,d11,f1⟩:=bx (n:=(ts.length:Int)+1) hδ (by lia) (by lia)
 obtain⟨d2,δ2,e2,d20,d21,f2⟩:=bx (n:=3) f1 (by decide) (by decide)
 obtain⟨i,rfl⟩:=Wf d10;obtain⟨o,eo,no,ho⟩:∃o:Bd,bIx (.lst [.str "bab",.str "-aba",.str "yuy"]) (.int d2)=some (bdD o,false)/\Nm o.2/\(o.2="bab"∨o.2="aba"∨o.2="yuy"):=by
  have:d2=0∨d2=1∨d2=2:=by lia
  rcases this with rfl|rfl|rfl
  ·exact⟨(false,"bab"),rfl,xR (by decide +kernel),.inl rfl⟩
  ·exact⟨(true,"aba"),by rw[show bdD (true,"aba")=.str "-aba" from congrArg D.str (show minus++("aba":Str)="-aba" by decide +kernel)];rfl,xR (by decide +kernel),.inr (.inl rfl)⟩
  ·exact⟨(false,"yuy"),rfl,xR (by decide +kernel),.inr (.inr rfl)⟩
 have ho:o.2∉nz ts:=fun z=>by
  obtain⟨h1,h2,h3⟩:=T.nx.ot _ z;rcases ho with w|w|w
  ·exact h1 w
  ·exact h2 w
  ·exact h3 w
 have s1:(aR (fIO aF 0 (ad (fOp cy (fCB dF (ad (af 1) av)) (fC (.int 1))) av)) 2) [.io δ,.v (LD ts),.e,.e]=some (.nx [.io δ1,.v (LD ts),.v (.int (i:Int)),.e]):=cw (bR rfl rfl (aA (aq (bv rfl rfl (rA ts)) rfl rfl rfl Dv) rfl) rfl rfl rfl e1) rfl;have s2:(aR (fOp bIx (cA (vN ["bab","-aba","yuy"])) (fIO aF 0 (ad (fC (.int 3)) av))) 3) [.io δ1,.v (LD ts),.v (.int (i:Int)),.e]=some (.nx [.io δ2,.v (LD ts),.v (.int (i:Int)),.v (bdD o)]):=cw (aq (eF rfl rfl (by show 3<=1000000;decide)) (bR rfl rfl rfl rfl rfl rfl e2) rfl rfl eo) rfl
 by_cases c:i=ts.length
 ·refine⟨ts++[o],δ2,?_,?_,f2⟩
  ·refine cx (o:=.rt (.d (LD (ts++[o]))) [.io δ2,.v (LD ts),.v (.int (i:Int)),.v (bdD o)]) rfl (aw s1 (aw s2 (oi ?_))) rfl;refine i8 (s:=[.io δ2,.v (LD ts),.v (.int (i:Int)),.v (bdD o)]) (aH (aq rfl (bv rfl rfl (rA ts)) rfl rfl jT) (by show some (decide ((i:Int)=(ts.length:Int)))=_;rw[Ai (by lia)])) ?_
   exact bK (aq rfl (qH rfl rfl (by show 1<=1000000;decide)) rfl rfl (xS (b:=[o]) (by simp;lia)))
  ·have:=tE (a:=ts) (b:=[]) (o:=o) (by rw[Qf];exact tn) (by rw[Qf];exact T.nx.nd) no (by rw[Qf];exact ho)
   rwa [Qf]at this
 ·have hi:i<ts.length:=by lia
  obtain⟨d3,δ3,e3,d30,d31,f3⟩:=bx (n:=3) f2 (by decide) (by decide)
  have et:ts=ts.take i++ts[i]::ts.drop (i+1):=by rw[← Ym hi,CP]
  generalize ha:ts.take i=a at et;generalize hb:ts.drop (i+1)=b at et;have la:a.length+b.length<=50:=by
   have:=congrArg List.length et;rw[Yb,Yc]at this;lia
  have c1:fSl mE (af 1) oNo (fI (af 2)) [.io δ2,.v (LD ts),.v (.int (i:Int)),.v (bdD o)]=some (.d (LD a),[.io δ2,.v (LD ts),.v (.int (i:Int)),.v (bdD o)]):=pA rfl rfl rfl rfl (wa _ _ _) (by
   show Rs.d (D.tup (cutD (ts.map bdD) none (some (i:Int))))=_
   rw[EW (by rw[Ya];lia),← List.map_take,ha])
  have c2:fSl mE (af 1) (fI (fOp cy (af 2) (fC (.int 1)))) oNo [.io δ2,.v (LD ts),.v (.int (i:Int)),.v (bdD o)]=some (.d (LD b),[.io δ2,.v (LD ts),.v (.int (i:Int)),.v (bdD o)]):=pA rfl (xf (aq rfl rfl rfl rfl Dv) rfl) rfl rfl (wa _ _ _) (by
   show Rs.d (D.tup (cutD (ts.map bdD) (some ((i:Int)+1)) none))=_;have:=wc (ds:=ts.map bdD) (i:=i+1) (by rw[Ya];lia)
   rw[show(i:Int)+1=((i+1:Nat):Int) from rfl,this,← List.map_drop,hb])
  have co:(pd (ad (af 3) av)) [.io δ2,.v (LD ts),.v (.int (i:Int)),.v (bdD o)]=some (.d (LD [o]),[.io δ2,.v (LD ts),.v (.int (i:Int)),.v (bdD o)]):=qH rfl rfl (by show 1<=1000000;decide)
  have lt:[o].length+ts.length<=1000:=by simp;lia
  have x1:cy (LD a) (LD b)=some (LD (a++b),false):=xS (by lia)
  have x2:cy (LD a) (LD [o])=some (LD (a++[o]),false):=xS (by simp;lia)
  have x3:cy (LD (a++[o])) (LD b)=some (LD (a++[o]++b),false):=xS (by simp;lia)
  have x4:cy (LD [o]) (LD ts)=some (LD ([o]++ts),false):=xS lt;obtain⟨us,eu,su⟩:∃us,bIx (.lst [LD (a++b),LD (a++[o]++b),LD ([o]++ts)]) (.int d3)=some (LD us,false)/\Sp ts us:=by
   have tn':∀q∈a++ts[i]::b,Nm q.2:=by rw[← et];exact tn
   have nd':(nz (a++ts[i]::b)).Nodup:=by rw[← et];exact T.nx.nd
   have ho':o.2∉nz (a++ts[i]::b):=by rw[← et];exact ho
   have:d3=0∨d3=1∨d3=2:=by lia
   rcases this with rfl|rfl|rfl
   ·refine⟨a++b,iK (i:=0) rfl,?_⟩;have:=zK tn' nd';rwa [← et]at this
   ·refine⟨a++[o]++b,iK (i:=1) rfl,?_⟩;have:=zL tn' nd' no ho';rw[← et]at this;rwa [Wj]
   ·exact⟨[o]++ts,iK (i:=2) rfl,tE (a:=[]) (b:=ts) tn T.nx.nd no ho⟩
  refine⟨us,δ3,?_,su,f3⟩;refine cx (o:=.rt (.d (LD us)) [.io δ3,.v (LD ts),.v (.int (i:Int)),.v (bdD o)]) rfl (aw s1 (aw s2 (aw (s:=[.io δ2,.v (LD ts),.v (.int (i:Int)),.v (bdD o)]) ?_ ?_))) rfl
  ·exact gp (s:=[.io δ2,.v (LD ts),.v (.int (i:Int)),.v (bdD o)]) (aH (aq rfl (bv rfl rfl (rA ts)) rfl rfl jT) (by show some (decide ((i:Int)=(ts.length:Int)))=_;rw[Af (by lia)])) rfl
  ·exact bK (aq (eF (aA (aq c1 c2 rfl rfl x1) (aA (aq (aq c1 co rfl rfl x2) c2 rfl rfl x3) (aA (aq co rfl rfl rfl x4) rfl))) rfl (by simp)) (bR rfl rfl rfl rfl rfl rfl e3) rfl rfl eu)
end
end K39
namespace K39
open PySem L2 VF VL VF22 VX
noncomputable section
theorem zM(ns:List Int):bq Dp 7 1 [.fl (ns.map D.int)]=some (.bl true,false):=by
 generalize hS:D.fl (ns.map D.int)=S;obtain⟨δ0,g0,a0⟩:=oF ns (k:=0) (by lia) (by lia)
 obtain⟨δ1,g1,a1⟩:=oF ns (k:=1) (by lia) (by lia)
 obtain⟨δ2,g2,a2⟩:=oF ns (k:=2) (by lia) (by lia)
 rw[hS]at g0 g1 g2;obtain⟨d,δ3,e3,d0,d1,a3⟩:=bx (n:=4) a0 (by decide) (by decide)
 obtain⟨y,ey,y0,y1⟩:∃y,bIx (.lst [.int 8,.int 38]) (.int (if decide (d=0)=true then 1 else 0))=some (.int y,false)/\5<=y/\y<=38:=by
  by_cases c:d=0
  ·rw[Ai c,Ad rfl];exact⟨38,rfl,by lia,by lia⟩
  ·rw[Af c,Ag Bool.noConfusion];exact⟨8,rfl,by lia,by lia⟩
 obtain⟨ms,δ4,e4,N,l0,l1,a4⟩:=rm a3 y0 (by lia)
 obtain⟨mid,rfl,R0⟩:=Hk N;have lN:(Nu mid).length=mid.length+2:=fD mid;have l1:(Nu mid).length<=42:=l1;rw[lN]at l1;obtain⟨ts,δ5,e5,lt,T,a5⟩:=uO (m:=mid.length) a1 (by lia)
 rw[← lt]at R0;have lts:ts.length<=40:=by lia
 have tn:∀p∈ts,Nm p.2:=fun p hp=>T.nx.nm _ (Wi hp);have O:=Ho T R0;have eo:=zu tn (by lia) R0
 obtain⟨mid',eb,R1,em⟩:=zH R0 N.nm (by lia)
 have t1:bM [LD (mid.map (vt ts)),LD ts,IL (Nu mid)]=some (.bl true,false):=oM (md tn T.nx.nd O (by lia) R0) (by lia)
 have los:(mid.map (vt ts)).length=ts.length:=by rw[Ya,lt]
 generalize hos:mid.map (vt ts)=os at *;have t2:bM [LD ts,LD os,IL (Nu mid')]=some (.bl true,false):=by
  have h:=md (ts:=os) (mid:=mid') O.nm O.nd (by rw[em];exact⟨tn,T.nx.nd,fun n=>(O.mem n).symm⟩) (by lia) (by rw[los];exact R1)
  rw[em]at h;exact oM h (by rw[fD,R1.ln];lia)
 have t3:bM [LD os,LD os,.lst (rng 0 (os.length+2))]=some (.bl true,false):=by
  have h:=md (ts:=os) (mid:=ups os.length) O.nm O.nd (by rw[xM];exact⟨O.nm,O.nd,fun n=>Iff.rfl⟩) (by lia) (FU _)
  rw[xM]at h;have:=oM h (by rw[fD,jt];lia)
  rwa [IL,FV]at this
 obtain⟨sf,el,δ',s5,s6,rfl,_⟩:=bu (fg:=gN 5) (B:=sZ) (fun t:Nat=>D.int (0+(t:Int))) (List.range 3) (fun _ st=>∃δ' s5 s6,st=[.v S,.o δ',.v (IL (Nu mid)),.v (LD ts),.v (LD os),s5,s6]/\cN δ'/\s5.isIo=false/\s6.isIo=false)
  (by
   rintro gone t rest st ha ⟨δ',s5,s6,rfl,hf,i5,i6⟩;obtain⟨us,δ6,e6,su,f6⟩:=uT hf T (by lia)
   have A:=su.ap O (by lia) los
   refine⟨[.v S,.o δ',.v (IL (Nu mid)),.v (LD ts),.v (LD os),.v (.int (0+(t:Int))),s6],[.v S,.o δ6,.v (IL (Nu mid)),.v (LD ts),.v (LD os),.v (.int (0+(t:Int))),.v (LD us)],gK (t:=s5) rfl i5,?_,δ6,_,_,rfl,f6,rfl,rfl⟩;refine aw (s:=[.v S,.o δ6,.v (IL (Nu mid)),.v (LD ts),.v (LD os),.v (.int (0+(t:Int))),.v (LD us)]) (cw (bR rfl rfl rfl rfl rfl rfl e6) (gk (t:=s6) rfl i6)) ?_
   exact gp (qG (iD (c:=true) (aH (aX rfl rfl (p6 A) rfl) rfl)) (iD (c:=true) (aH (aX rfl rfl (p6 A.symm) rfl) rfl))) rfl)
  (List.range 3) [] [.v S,.o δ2,.v (IL (Nu mid)),.v (LD ts),.v (LD os),.e,.e] rfl ⟨δ2,.e,.e,rfl,a2,rfl,rfl⟩
 have ln:dF [IL (Nu mid)]=some (.int ((mid.length:Int)+2),false):=by
  rw[lY,lN];rfl
 refine bw (o:=.rt (.d (.bl true)) [.v S,.o δ',.v (IL (Nu mid)),.v (LD ts),.v (LD os),s5,s6]) rfl ?_ rfl;refine aw (s:=[.v S,.o δ0,.e,.e,.e,.e,.e]) (dj (cK rfl rfl g0) rfl) ?_;refine aw (s:=[.v S,.o δ4,.o (IL (Nu mid)),.e,.e,.e,.e]) (dj (bR rfl rfl (aA (aq (eF rfl rfl (by simp)) (bv (aA (aq (bR rfl rfl rfl rfl rfl rfl e3) rfl rfl rfl jT) rfl) rfl (z:=(.int (if decide (d=0)=true then 1 else 0),false)) rfl) rfl rfl ey) rfl) rfl rfl rfl e4) rfl) ?_
 refine aw (s:=[.v S,.o δ1,.o (IL (Nu mid)),.e,.e,.e,.e]) (dj (cK rfl rfl g1) rfl) ?_;refine aw (s:=[.v S,.o δ5,.o (IL (Nu mid)),.v (LD ts),.e,.e,.e]) (cw (bR rfl rfl (aA (aq (bv rfl rfl ln) rfl rfl rfl (z:=(.int (mid.length:Int),false)) (by show some (D.int ((mid.length:Int)+2-2),false)=_;rw[Int.add_sub_cancel])) rfl) rfl rfl rfl e5) rfl) ?_
 refine aw (s:=[.v S,.o δ5,.v (IL (Nu mid)),.v (LD ts),.v (LD os),.e,.e]) (cw (cK rfl rfl eo) rfl) ?_;refine aw (s:=[.v S,.o δ5,.v (IL (Nu mid)),.v (LD ts),.v (LD os),.e,.e]) (gp (qG (iD (c:=true) (aH (aX rfl rfl t1 rfl) rfl)) (iD (c:=true) (aH (aX (aA rfl (aA rfl (aA (cK rfl rfl eb) rfl))) rfl t2 rfl) rfl))) rfl) ?_
 refine aw (s:=[.v S,.o δ5,.v (IL (Nu mid)),.v (LD ts),.v (LD os),.e,.e]) (gp (iD (c:=true) (aH (aX (aA rfl (aA rfl (aA (Fw (j:=(mid.length:Int)+2) (aA (bv rfl rfl ln) rfl) rfl ⟨by lia,by lia,by lia,by lia,by lia⟩) rfl))) rfl (by
  have:((mid.length:Int)+2-0).toNat=os.length+2:=by lia
  rw[this];exact t3) rfl) rfl)) rfl) ?_
 refine aw (s:=[.v S,.o δ2,.v (IL (Nu mid)),.v (LD ts),.v (LD os),.e,.e]) (dj (cK rfl rfl g2) rfl) ?_;refine aw (dG (ja (j:=3) rfl rfl ⟨by decide,by decide⟩) el) ?_
 exact bK (aX rfl rfl t1 rfl)
end
end K39
namespace K39
open PySem L2 VF VF22 VX
section
variable (P:Program)(w:World)(K:Aa)(mg:Str->Option Value)(base:Heap)
abbrev gM:=Cal P w K mg base "is_turned" 1 nl0 (spV K dq)
abbrev jU:=Cal P w K mg base "name_of" 2 nl0 (spV K gZ)
abbrev mf:=Cal P w K mg base "mirrored" 3 nl0 (spV K iG)
abbrev mi:=Cal P w K mg base "beads_in" 1 nl1 (spV K iH)
abbrev mj:=Cal P w K mg base "names_in" 3 nl1 (spV K iI)
abbrev gO:=CalG P w K mg base "refuse_lacks" 4 ["things"] (spH K "Lacks" "name" cL d6)
abbrev gl:=CalG P w K mg base "numbers_of" 5 ["ours","theirs"] (spH K "Lacks" "name" gd bY)
abbrev mo:=Cal P w K mg base "_law_deal" 1 ["_law_script","_law_at"] (spV K d8)
abbrev cj:=Cal P w K mg base "_law_draw" 1 nl2 (kX K aF)
abbrev im:=Cal P w K mg base "_law_farther" 1 nl5 (spV K cc)
abbrev ju:=Cal P w K mg base "_law_put_in" 2 G4 (spV K dR)
abbrev kc:=Cal P w K mg base "_law_block" 2 nl7 (kX K dw)
abbrev ip:=Cal P w K mg base "_law_numbers" 3 nl7 (kX K fu)
abbrev ke:=Cal P w K mg base "_law_names" 2 nl2 (kX K gH)
abbrev kf:=Cal P w K mg base "_law_other" 1 nl3 (spV K gI)
abbrev jv:=Cal P w K mg base "_law_theirs" 3 nl2 (kX K gf)
abbrev mq:=Cal P w K mg base "_law_ours" 2 Ha (spV K iJ)
abbrev dN:=Cal P w K mg base "_law_whole_numbers" 1 nl4 (spV K b7)
abbrev mt:=Cal P w K mg base "_law_back" 1 ["_law_numbers_here"] (spV K gh)
abbrev mv:=Cal P w K mg base "_law_told" 6 Hd (spV K bM)
abbrev kg:=Cal P w K mg base "_law_lacks" 6 ["_law_one","_law_other_here"] (spV K eQ)
abbrev jw:=Cal P w K mg base "_law_spoilt" 2 ["_law_deal_here","_law_some"] (kX K gi)
end
section
variable {P:Program}{w:World}{K:Aa}{mg:Str->Option Value}{base:Heap}
variable {cC cS cf c_BadText c_Twice c_NoDeed c_NotLet c_NoName c_NoKind c_Mixed c_NoPaper c_NoRow c_TooMany:Addr}
theorem oO(M:Md mg):Bd' P w K mg base "is_turned" jO nl0 0 j4:=fun hr=>⟨_,(au (aT (jY CD PySem.F.slot_str_startswith PySem.F.type_str_startswith mD (pv 0) (ao eR ag)))),
  (aU (CY uf (ac 0) (aa (fU _) ae)))⟩
theorem rB(M:Md mg)(c0:gM P w K mg base):Bd' P w K mg base "name_of" ou nl0 1 nF:=fun hr=>⟨_,(au (aT (oX (dB (aE c0 hr rfl (ao (pv 0) ag))) (dW (oa (K:=K) rfl) (pv 0) (eG ai) gQ) (pv 0)))),
  (aU (z8 (gm (bb (aa (ac 0) ae))) (dX kz (ac 0) (di (aj _)) jE) (ac 0)))⟩
theorem p7(M:Md mg)(c0:gM P w K mg base)(c1:jU P w K mg base):Bd' P w K mg base "mirrored" jP nl0 2 lH:=fun hr=>⟨_,(au (aT (oX (dB (aE c0 hr rfl (ao (pv 0) ag))) (aE c1 hr rfl (ao (pv 0) ag)) (aN K eR (pv 0))))),
  (aU (z8 (gm (bb (aa (ac 0) ae))) (bb (aa (ac 0) ae)) (ak ro_addA (fU _) (ac 0))))⟩
theorem p8(M:Md mg):Bd' P w K mg base "beads_in" lR ["thing","beads","part"] 0 lJ:=fun hr=>⟨_,(ah (aL 1 sc_sbeadsin.nd (bN ag))
   (ah (dC Av rfl (cT (K:=K) rfl (pv 0)) (bU 2 sc_sbeadsin.nd) (au (cq (dB (kF K M.n_isinstance (pv 2) (sj rfl M.n_str t8))) (au (ce (eP (pv 1) (pv 2)))) (au (ce (jY AC Br Bq (iB (K:=K) rfl rfl) (pv 1) (ao (bj K (pv 2) ai) ag)))))))
   (au (aT (pv 1))))),
  (az (aD (br ae))
   (az (dE (cU (ac 0)) (aW 2) (cB (gm (aZ gS (aa (ac 2) (aa (pc fun _ _=>.ty _) ae)))) (bX (jA cr (aa (ac 2) ae))) (bX (jA jH (aa (ak bC (ac 2) (aj _)) ae)))))
   (aU (ac 1))))⟩
theorem p9(M:Md mg)(c1:jU P w K mg base)(c3:mi P w K mg base):Bd' P w K mg base "names_in" jm nl1 2 lK:=fun hr=>⟨_,(au (aT (aO (og (K:=K) rfl rfl hr) rfl M.n_sorted boot_sorted (ao (fR (fT (osc:=(ar jm)) (ON:=nl1) (N:=nl0) (k:=1) (caps:=[]) (by decide +kernel) rfl rfl) rfl (cT (K:=K) rfl (aE c3 hr rfl (ao (pv 0) ag))) (fun _ _ _ _=>(bU 0 (by show(nl0:List Str).Nodup;decide +kernel))) (fun _ _ _ _=>fQ) (fun _ _ _ _=>(aE c1 hr rfl (ao (pv 0) ag)))) ag)))),
  (aU (aZ uo (aa (dO (cU (db (aa (ac 0) ae))) (aW 0) (by decide) ix (bb (aa (ac 0) ae))) ae)))⟩
theorem kr(Y:Xk K mg "Lacks" "name" "StrandError" cC cS cf)(I:CalJ P w K mg base cC cf "name" 1)(M:Md mg)(c4:mj P w K mg base):BdY P w K mg base "refuse_lacks" "name" cC dS Ft 3 bB:=fun hr=>⟨_,(ah (gY (aL 1 sc_srefuselacks.nd o4))
   (ah (gY (dC Av rfl (cT (K:=K) rfl (pv 0)) (bU 2 sc_srefuselacks.nd) (au (dC Av rfl (cT (K:=K) rfl (aE c4 hr rfl (ao (pv 2) ag))) (bU 3 sc_srefuselacks.nd) (au (gw (aN K (vb (mW hr) (pv 1) (pv 3) ai ⟨rfl,rfl,rfl,rfl⟩) ai) (jx (pv 1) (pv 3) (jL (mW hr)))))))))
   (ah (gY (vn 4 (fT (osc:=(ar dS)) (ON:=Ft) (N:=["name","count","things"]) (k:=1) (caps:=[1,0]) (by decide +kernel) rfl rfl) rfl sc_srefuselacks.nd (cT (K:=K) rfl (aO (pN (K:=K) rfl rfl hr) rfl M.n_sorted boot_sorted (ao (pv 1) ag))) (fun _ _ _ _=>(bU 0 (by show(["name","count","things"]:List Str).Nodup;decide +kernel))) (fun _ _ _ _=>rR (bL lh (pJ (mW hr) (pv 1) (pv 0) (fun _ _=>rfl)) (bS K M.n_len (pv 2)))) (fun _ _ _ _=>(pv 0))))
   (au (cq (y4 (K:=K) rfl (pv 4)) (au (Fq Y I hr rfl (bj K (pv 4) ai))) bD))))),
  (jM (lE (aD pI))
   (jM (lE (dE (cU (ac 0)) (aW 2) (dE (cU (db (aa (ac 2) ae))) (aW 3) (jB jK (ak ro_addA (wB (ac 1) (ac 3) (aj _)) (aj _)) (ac 3)))))
   (jM (lE (aD (dO (cU (aZ uF (aa (ac 1) ae))) (aW 0) (by decide) (bi (ak lj (ak sQ (ac 1) (ac 0)) (aZ cH (aa (ac 2) ae)))) (ac 0))))
   (GX (wI (ac 4)) (wQ (ak bC (ac 4) (aj _))) (lE bJ)))))⟩
theorem mG(Y:Xk K mg "Lacks" "name" "StrandError" cC cS cf)(M:Md mg)(c2:mf P w K mg base)(c5:gO P w K mg base):BdY P w K mg base "numbers_of" "name" cC gj Fu 4 dQ:=fun hr=>⟨_,(ah (wP c5 hr rfl (ao (bN (ao (pv 0) (ao (pv 1) ag))) ag))
   (ah (gY (aL 2 sc_snumbersof.nd o4))
   (ah (gY (dC Av rfl (wY (K:=K) rfl rfl M.n_enumerate (pv 1)) (sy (K:=K) (n:=2) rfl rfl (iM (bU 3 sc_snumbersof.nd) (iM (bU 4 sc_snumbersof.nd) rC))) (ah (gw (pv 3) (jx (pv 2) (pv 4) (jL (mW hr))))
   (au (gw (uX qk (pv 3)) (jx (pv 2) (aE c2 hr rfl (ao (pv 4) ag)) (jL (mW hr))))))))
   (au (gY (aT (aN K (aN K (bN (ao ai ag)) (fR (fT (osc:=(ar gj)) (ON:=Fu) (N:=["bead","place"]) (k:=1) (caps:=[2]) (by decide +kernel) rfl rfl) rfl (cT (K:=K) rfl (pv 0)) (fun _ _ _ _=>(bU 0 (by show(["bead","place"]:List Str).Nodup;decide +kernel))) (fun _ _ _ _=>fQ) (fun _ _ _ _=>(pJ (mW hr) (pv 1) (pv 0) (fun _ _=>rfl))))) (bN (ao (aN K (bS K M.n_len (pv 0)) ai) ag))))))))),
  (jM (zc Y.aC (aa (br (aa (ac 0) (aa (ac 1) ae))) ae))
   (jM (lE (aD pI))
   (jM (lE (dE (wZ (aa (ac 1) ae)) (vy (iV (aW 3) (iV (aW 4) rV))) (az (jB jK (ac 3) (ac 4))
   (jB jK (vv qA (ac 3)) (bb (aa (ac 4) ae))))))
   (lE (aU (ak ro_addA (ak ro_addA (br (aa (aj _) ae)) (dO (cU (ac 0)) (aW 0) (by decide) ix (ak sQ (ac 1) (ac 0)))) (br (aa (ak ro_addA (aZ cH (aa (ac 0) ae)) (aj _)) ae))))))))⟩
theorem qa(M:Md mg):Bd' P w K mg base "_law_deal" qT G2 0 lL:=fun hr=>⟨_,(ah (aL 2 sc_sLdeal.nd (aN K (aM bP ai (pv 1)) ai))
   (ah (cq (bL lh (pv 1) (bS K M.n_len (pv 0))) (au (aL 2 sc_sLdeal.nd (bj K (pv 0) (pv 1)))) (au (cq (bL u3 (bS K M.n_len (pv 0)) ai) (au (aL 2 sc_sLdeal.nd (aN K (aM bP (aM eU (bj K (pv 0) (aM eU (pv 1) (bS K M.n_len (pv 0)))) ai) ai) (aM bP ai (pv 1))))) bD)))
   (ah (aL 3 sc_sLdeal.nd ai)
   (ah (cq (bL zT (pv 2) (aM DN ai ai)) (au (aL 3 sc_sLdeal.nd (pv 2))) bD)
   (au (aT (bN (ao (pv 3) (ao (aN K (aM eU (aN K (aM bP (aM eU (pv 2) ai) ai) (aM bP ai (pv 1))) ai) ai) ag))))))))),
  (az (aD (ak ro_addA (ak bQ (aj _) (ac 1)) (aj _)))
   (az (cB (bi (ak lj (ac 1) (aZ cH (aa (ac 0) ae)))) (aD (ak bC (ac 0) (ac 1))) (cB (bi (ak vH (aZ cH (aa (ac 0) ae)) (aj _))) (aD (ak ro_addA (ak bQ (ak fm (ak bC (ac 0) (ak fm (ac 1) (aZ cH (aa (ac 0) ae)))) (aj _)) (aj _)) (ak bQ (aj _) (ac 1)))) bJ))
   (az (aD (aj _))
   (az (cB (bi (ak CT (ac 2) (ak Et (aj _) (aj _)))) (aD (ac 2)) bJ)
   (aU (br (aa (ac 3) (aa (ak ro_addA (ak fm (ak ro_addA (ak bQ (ak fm (ac 2) (aj _)) (aj _)) (ak bQ (aj _) (ac 1))) (aj _)) (aj _)) ae))))))))⟩
theorem qb(M:Md mg):Bd' P w K mg base "_law_draw" qU G3 0 lM:=fun hr=>⟨_,(ah (cq (bL u3 (bj K (pv 0) ai) ai) (ah (aL 2 sc_sLdraw.nd (aM eU (bj K (pv 0) ai) (pv 1)))
   (ah (gw (aM ku (bj K (pv 0) ai) (pv 1)) (jx (pv 0) ai set_list))
   (au (aT (pv 2))))) bD)
   (ah (aL 3 sc_sLdraw.nd (aM eU (aM bP (bj K (pv 0) ai) ai) ai))
   (ah (gw (aN K (aM eU (aN K (aM bP (pv 3) ai) ai) ai) ai) (jx (pv 0) ai set_list))
   (au (aT (aM eU (aN K (aM bP (aM eU (aM bP (pv 3) (pv 3)) ai) ai) (aM ku (bj K (pv 0) ai) ai)) (pv 1))))))),
  (az (cB (bi (ak vH (ak bC (ac 0) (aj _)) (aj _))) (az (aD (ak fm (ak bC (ac 0) (aj _)) (ac 1)))
   (az (jB jG (ak n6 (ak bC (ac 0) (aj _)) (ac 1)) (aj _))
   (aU (ac 2)))) bJ)
   (az (aD (ak fm (ak bQ (ak bC (ac 0) (aj _)) (aj _)) (aj _)))
   (az (jB jG (ak ro_addA (ak fm (ak ro_addA (ak bQ (ac 3) (aj _)) (aj _)) (aj _)) (aj _)) (aj _))
   (aU (ak fm (ak ro_addA (ak bQ (ak fm (ak bQ (ac 3) (ac 3)) (aj _)) (aj _)) (ak n6 (ak bC (ac 0) (aj _)) (aj _))) (ac 1))))))⟩
theorem mw(M:Md mg):Bd' P w K mg base "_law_farther" jQ nl5 0 ig:=fun hr=>⟨_,(ah (cq (bL lh (pv 0) ai) (au (aT (aM eS (pv 0) (pv 1)))) bD)
   (au (aT (aN K (pv 0) (pv 1))))),
  (az (cB (bi (ak lj (ac 0) (aj _))) (aU (ak fk (ac 0) (ac 1))) bJ)
   (aU (ak ro_addA (ac 0) (ac 1))))⟩
theorem mH(M:Md mg)(c9:im P w K mg base):Bd' P w K mg base "_law_put_in" jn nl6 1 jg:=fun hr=>⟨_,(ah (aL 3 sc_sLputin.nd (bj K (pv 0) (pv 1)))
   (ah (aL 4 sc_sLputin.nd (bN ag))
   (ah (dC Av rfl (cT (K:=K) rfl (pv 0)) (bU 5 sc_sLputin.nd) (au (cq (bL u3 (aO iN rfl M.n_abs AU (ao (pv 5) ag)) (aO iN rfl M.n_abs AU (ao (pv 3) ag))) (au (ce (eP (pv 4) (aE c9 hr rfl (ao (pv 5) (ao (bj K (pv 2) (uX qk ai)) ag)))))) (au (cq (bL (vO (K:=K) rfl hr.units) (pv 5) (pv 3)) (au (ce (eP (pv 4) (pv 5)))) (au (cq (bL zT (pv 3) ai) (au (ce (jY AC Br Bq (iB (K:=K) rfl rfl) (pv 4) (ao (fR (fT (osc:=(ar jn)) (ON:=nl6) (N:=zh) (k:=1) (caps:=[3]) (by decide +kernel) rfl rfl) rfl (cT (K:=K) rfl (pv 2)) (fun _ _ _ _=>(bU 0 (by show(zh:List Str).Nodup;decide +kernel))) (fun _ _ _ _=>fQ) (fun _ _ _ _=>(aE c9 hr rfl (ao (pv 0) (ao (pv 1) ag))))) ag)))) (au (ce (jY AC Br Bq (iB (K:=K) rfl rfl) (pv 4) (ao (fR (fT (osc:=(ar jn)) (ON:=nl6) (N:=zh) (k:=1) (caps:=[3]) (by decide +kernel) rfl rfl) rfl (yS (K:=K) rfl rfl rfl M.n_reversed (pv 2)) (fun _ _ _ _=>(bU 0 (by show(zh:List Str).Nodup;decide +kernel))) (fun _ _ _ _=>fQ) (fun _ _ _ _=>(aM eS ai (aE c9 hr rfl (ao (pv 0) (ao (aM eS ai (pv 1)) ag)))))) ag)))))))))))
   (au (aT (pv 4)))))),
  (az (aD (ak bC (ac 0) (ac 1)))
   (az (aD (br ae))
   (az (dE (cU (ac 0)) (aW 5) (cB (bi (ak vH (aZ oj (aa (ac 5) ae)) (aZ oj (aa (ac 3) ae)))) (bX (jA cr (aa (bb (aa (ac 5) (aa (ak bC (ac 2) (vv qA (aj _))) ae))) ae))) (cB (bi (ak ro_neA (ac 5) (ac 3))) (bX (jA cr (aa (ac 5) ae))) (cB (bi (ak CT (ac 3) (aj _))) (bX (jA jH (aa (dO (cU (ac 2)) (aW 0) (by decide) ix (bb (aa (ac 0) (aa (ac 1) ae)))) ae))) (bX (jA jH (aa (dO (yT (ac 2)) (aW 0) (by decide) ix (ak fk (aj _) (bb (aa (ac 0) (aa (ak fk (aj _) (ac 1)) ae))))) ae)))))))
   (aU (ac 4)))))⟩
theorem oP(M:Md mg)(c8:cj P w K mg base):Bd' P w K mg base "_law_block" oy G5 1 j5:=fun hr=>⟨_,(ah (aL 2 sc_sLblock.nd (aN K ai (aE c8 hr rfl (ao (pv 0) (ao (pv 1) ag)))))
   (ah (aL 3 sc_sLblock.nd (cR (lB rfl) rfl M.n_list fS (ao (wy rfl M.n_range (ao ai (ao (aN K (pv 2) ai) ag))) ag)))
   (ah (aL 4 sc_sLblock.nd (bN (ao ai (ao (aM eS ai (aM bP ai (cR jz rfl M.n_int gR (ao (je kQ (aE c8 hr rfl (ao (pv 0) (ao ai ag))) ai) ag)))) ag))))
   (ah (aL 5 sc_sLblock.nd (bN (ao ai ag)))
   (ah (dC Av rfl (fE rfl M.n_range (ao (pv 2) ag)) (bU 6 sc_sLblock.nd) (au (ce (eP (pv 5) (aM bP (jY AC CM CL o7 (pv 3) (ao (aE c8 hr rfl (ao (pv 0) (ao (bS K M.n_len (pv 3)) ag))) ag)) (bj K (pv 4) (aE c8 hr rfl (ao (pv 0) (ao ai ag)))))))))
   (au (aT (aN K (pv 5) (bN (ao (aN K (pv 2) ai) ag)))))))))),
  (az (aD (ak ro_addA (aj _) (bV (aa (ac 1) ae))))
   (az (aD (Fh (aa (aj _) (aa (ak ro_addA (ac 2) (aj _)) ae))))
   (az (aD (br (aa (aj _) (aa (ak fk (aj _) (ak bQ (aj _) (aZ ol (aa (ak ro_eqA (bV (aa (aj _) ae)) (aj _)) ae)))) ae))))
   (az (aD (br (aa (aj _) ae)))
   (az (dE (iW (aa (ac 2) ae)) (aW 6) (bX (jA cr (aa (ak bQ (jA pq (aa (bV (aa (aZ cH (aa (ac 3) ae)) ae)) ae)) (ak bC (ac 4) (bV (aa (aj _) ae)))) ae))))
   (aU (ak ro_addA (ac 5) (br (aa (ak ro_addA (ac 2) (aj _)) ae)))))))))⟩
theorem mx(M:Md mg)(c8:cj P w K mg base)(c10:ju P w K mg base)(c11:kc P w K mg base):Bd' P w K mg base "_law_numbers" jR G6 2 ik:=fun hr=>⟨_,(ah (aL 2 sc_sLnumbers.nd (bN (ao ai (ao ai ag))))
   (ah (cq (bL kQ (aE c8 hr rfl (ao (pv 0) (ao ai ag))) ai) (au (aL 2 sc_sLnumbers.nd (aE c11 hr rfl (ao (pv 0) (ao (aO (tL rfl) rfl M.n_min CN (ao (pv 1) (ao ai ag))) ag))))) bD)
   (ah (dC Av rfl (fE rfl M.n_range (ao (aN K ai (aE c8 hr rfl (ao (pv 0) (ao ai ag)))) ag)) (bU 3 sc_sLnumbers.nd) (ah (aL 4 sc_sLnumbers.nd (aM eS (aN K (pv 1) ai) (bS K M.n_len (pv 2))))
   (ah (aL 5 sc_sLnumbers.nd (aE c11 hr rfl (ao (pv 0) (ao (w4 (wz (nX (K:=K) rfl) (sR (dZ ai (dZ ai (dZ (pv 1) jd rfl) rfl) rfl)) (aE c8 hr rfl (ao (pv 0) (ao ai ag))) (fun _ _=>rfl))) ag))))
   (ah (aL 6 sc_sLnumbers.nd (aE c8 hr rfl (ao (pv 0) (ao (bS K M.n_len (pv 2)) ag))))
   (au (cq (bL Gb (aM eS (bS K M.n_len (pv 5)) ai) (pv 4)) (au (aL 2 sc_sLnumbers.nd (aE c10 hr rfl (ao (pv 2) (ao (pv 6) (ao (pv 5) ag)))))) bD))))))
   (au (aT (pv 2)))))),
  (az (aD (br (aa (aj _) (aa (aj _) ae))))
   (az (cB (bi (ak ro_eqA (bV (aa (aj _) ae)) (aj _))) (aD (bV (aa (aZ yE (aa (ac 1) (aa (aj _) ae))) ae))) bJ)
   (az (dE (iW (aa (ak ro_addA (aj _) (bV (aa (aj _) ae))) ae)) (aW 3) (az (aD (ak fk (ak ro_addA (ac 1) (aj _)) (aZ cH (aa (ac 2) ae))))
   (az (aD (bV (aa (ak bC (br (aa (aj _) (aa (aj _) (aa (ac 1) ae)))) (bV (aa (aj _) ae))) ae)))
   (az (aD (bV (aa (aZ cH (aa (ac 2) ae)) ae)))
   (cB (bi (ak Gr (ak fk (aZ cH (aa (ac 5) ae)) (aj _)) (ac 4))) (aD (db (aa (ac 2) (aa (ac 6) (aa (ac 5) ae))))) bJ)))))
   (aU (ac 2)))))⟩
theorem oQ(M:Md mg)(c8:cj P w K mg base):Bd' P w K mg base "_law_names" oz G7 1 j6:=fun hr=>⟨_,(ah (aL 2 sc_sLnames.nd eR)
   (ah (aL 3 sc_sLnames.nd (aE c8 hr rfl (ao (pv 0) (ao ai ag))))
   (ah (aL 4 sc_sLnames.nd (bj K eR (aE c8 hr rfl (ao (pv 0) (ao ai ag)))))
   (ah (aL 5 sc_sLnames.nd (bN ag))
   (ah (dC Av rfl (fE rfl M.n_range (ao (pv 1) ag)) (bU 6 sc_sLnames.nd) (ah (aL 7 sc_sLnames.nd (aN K (bj K (pv 2) (aM eU (aN K (pv 3) (aM bP ai (pv 6))) ai)) (aM bP eR (aM ku (pv 6) ai))))
   (au (ce (eP (pv 5) (aN K (pv 7) (aM bP (pv 4) (aE c8 hr rfl (ao (pv 0) (ao (aM eS ai (aM ku (pv 6) ai)) ag))))))))))
   (au (aT (pv 5)))))))),
  (az (aD (fU _))
   (az (aD (bV (aa (aj _) ae)))
   (az (aD (ak bC (fU _) (bV (aa (aj _) ae))))
   (az (aD (br ae))
   (az (dE (iW (aa (ac 1) ae)) (aW 6) (az (aD (ak ro_addA (ak bC (ac 2) (ak fm (ak ro_addA (ac 3) (ak bQ (aj _) (ac 6))) (aj _))) (ak bQ (fU _) (ak n6 (ac 6) (aj _)))))
   (bX (jA cr (aa (ak ro_addA (ac 7) (ak bQ (ac 4) (bV (aa (ak fk (aj _) (ak n6 (ac 6) (aj _))) ae)))) ae)))))
   (aU (ac 5)))))))⟩
theorem oR(M:Md mg):Bd' P w K mg base "_law_other" oA nl3 0 j7:=fun hr=>⟨_,(ah (cq (bL kQ (bj K (pv 0) ai) eR) (au (aT (dW (oa (K:=K) rfl) (pv 0) (eG ai) gQ))) bD)
   (au (aT (aN K eR (pv 0))))),
  (az (cB (bi (ak ro_eqA (ak bC (ac 0) (aj _)) (fU _))) (aU (dX kz (ac 0) (di (aj _)) jE)) bJ)
   (aU (ak ro_addA (fU _) (ac 0))))⟩
theorem mI(M:Md mg)(c8:cj P w K mg base)(c13:ke P w K mg base):Bd' P w K mg base "_law_theirs" lS G8 2 jh:=fun hr=>⟨_,(ah (aL 2 sc_sLtheirs.nd (aE c13 hr rfl (ao (pv 0) (ao (pv 1) ag))))
   (ah (aL 3 sc_sLtheirs.nd (bN ag))
   (ah (dC Av rfl (fE rfl M.n_range (ao (pv 1) ag)) (bU 4 sc_sLtheirs.nd) (ah (aL 5 sc_sLtheirs.nd (jY AC CM CL o7 (pv 2) (ao (aE c8 hr rfl (ao (pv 0) (ao (bS K M.n_len (pv 2)) ag))) ag)))
   (au (ce (eP (pv 3) (bj K (bN (ao (pv 5) (ao (aN K eR (pv 5)) ag))) (aE c8 hr rfl (ao (pv 0) (ao ai ag)))))))))
   (au (aT (sT K M.n_tuple (pv 3))))))),
  (az (aD (bV (aa (ac 1) ae)))
   (az (aD (br ae))
   (az (dE (iW (aa (ac 1) ae)) (aW 4) (az (aD (jA pq (aa (bV (aa (aZ cH (aa (ac 2) ae)) ae)) ae)))
   (bX (jA cr (aa (ak bC (br (aa (ac 5) (aa (ak ro_addA (fU _) (ac 5)) ae))) (bV (aa (aj _) ae))) ae)))))
   (aU (aZ nh (aa (ac 3) ae))))))⟩
theorem qc(M:Md mg)(c14:kf P w K mg base):Bd' P w K mg base "_law_ours" qV G9 1 lO:=fun hr=>⟨_,(ah (aL 2 sc_sLours.nd (bN ag))
   (ah (dC Av rfl (cT (K:=K) rfl (dW (oa (K:=K) rfl) (pv 1) (eG ai) (eG (uX qk ai)))) (bU 3 sc_sLours.nd) (ah (aL 4 sc_sLours.nd (bj K (pv 0) (aM eS (aO iN rfl M.n_abs AU (ao (pv 3) ag)) ai)))
   (ah (cq (bL lh (pv 3) ai) (au (aL 4 sc_sLours.nd (aE c14 hr rfl (ao (pv 4) ag)))) bD)
   (au (ce (eP (pv 2) (pv 4)))))))
   (au (aT (sT K M.n_tuple (pv 2)))))),
  (az (aD (br ae))
   (az (dE (cU (dX kz (ac 1) (di (aj _)) (di (vv qA (aj _))))) (aW 3) (az (aD (ak bC (ac 0) (ak fk (aZ oj (aa (ac 3) ae)) (aj _))))
   (az (cB (bi (ak lj (ac 3) (aj _))) (aD (bb (aa (ac 4) ae))) bJ)
   (bX (jA cr (aa (ac 4) ae))))))
   (aU (aZ nh (aa (ac 2) ae)))))⟩
theorem gP(M:Md mg):Bd' P w K mg base "_law_whole_numbers" cM nl4 0 dM:=fun hr=>⟨_,(au (aT (aO (vm rfl) rfl M.n_all boot_all (ao (fR (fT (osc:=(ar cM)) (ON:=nl4) (N:=["_law_one"]) (k:=1) (caps:=[]) (by decide +kernel) rfl rfl) rfl (cT (K:=K) rfl (pv 0)) (fun _ _ _ _=>(bU 0 (by show(["_law_one"]:List Str).Nodup;decide +kernel))) (fun _ _ _ _=>fQ) (fun _ _ _ _=>(DE (kF K M.n_isinstance (pv 0) (sj rfl M.n_int gR)) (DD (DF (kF K M.n_isinstance (pv 0) (sj rfl M.n_bool qv))))))) ag)))),
  (aU (aZ Ez (aa (dO (cU (ac 0)) (aW 0) (by decide) ix (yk (aZ gS (aa (ac 0) (aa (pc fun _ _=>.ty _) ae))) (yl (aZ gS (aa (ac 0) (aa (pc fun _ _=>.ty _) ae)))))) ae)))⟩
theorem qd(M:Md mg):Bd' P w K mg base "_law_back" qW Hb 0 lP:=fun hr=>⟨_,(ah (aL 1 sc_sLback.nd (cR (qE (K:=K) rfl rfl) rfl M.n_list fS (ao (pv 0) ag)))
   (ah (dC Av rfl (yU (K:=K) rfl rfl M.n_enumerate (pv 0)) (sy (K:=K) (n:=2) rfl rfl (iM (bU 2 sc_sLback.nd) (iM (bU 3 sc_sLback.nd) rC))) (au (gw (bj K (bN (ao (pv 2) (ao (aM eS ai (pv 2)) ag))) (cR jz rfl M.n_int gR (ao (je lh (pv 3) ai) ag))) (jx (pv 1) (aO iN rfl M.n_abs AU (ao (pv 3) ag)) set_list))))
   (au (aT (pv 1))))),
  (az (aD (aZ vW (aa (ac 0) ae)))
   (az (dE (yW (aa (ac 0) ae)) (vy (iV (aW 2) (iV (aW 3) rV))) (jB jG (ak bC (br (aa (ac 2) (aa (ak fk (aj _) (ac 2)) ae))) (aZ ol (aa (ak lj (ac 3) (aj _)) ae))) (aZ oj (aa (ac 3) ae))))
   (aU (ac 1))))⟩
theorem qf(M:Md mg)(c6:gl P w K mg base)(c17:dN P w K mg base):Bd' P w K mg base "_law_told" qX Hc 5 lQ:=fun hr=>⟨_,(ah (aL 3 sc_sLtold.nd (aE c6.plain hr rfl (ao (pv 0) (ao (pv 1) ag))))
   (ah (cq (PW.pt (kO (gu (dB (kF K M.n_isinstance (pv 3) (sj rfl M.n_list fS)))) (kO (bL (ET (K:=K) rfl hr.units) (pv 3) (pv 2)) (kN (gu (dB (aE c17 hr rfl (ao (pv 3) ag)))))))) (au (aT mL)) bD)
   (ah (ce (eP (pv 3) ai))
   (au (aT (je (EQ (K:=K) rfl hr.units) (aE c6.plain hr rfl (ao (pv 0) (ao (pv 1) ag))) (pv 2))))))),
  (az (aD (db (aa (ac 0) (aa (ac 1) ae))))
   (az (cB (iw (eJ (gm (aZ gS (aa (ac 3) (aa (pc fun _ _=>.ty _) ae))))) (iw (bi (ak EU (ac 3) (ac 2))) (eJ (gm (bb (aa (ac 3) ae)))))) (aU (mY _)) bJ)
   (az (bX (jA cr (aa (aj _) ae)))
   (aU (ak ES (db (aa (ac 0) (aa (ac 1) ae))) (ac 2))))))⟩
theorem oS(Y:Xk K mg "Lacks" "name" "StrandError" cC cS cf)(Z:Zs K mg cC c_BadText c_Twice c_NoDeed c_NotLet c_NoName c_NoKind c_Mixed c_NoPaper c_NoRow c_TooMany)(M:Md mg)(c6:gl P w K mg base):Bd' P w K mg base "_law_lacks" jo nl8 5 j8:=fun hr=>⟨_,(ah (aL 2 sc_sLlacks.nd DC)
   (ah (zd 6 Y.hx rfl rfl (wS c6 hr rfl (ao (pv 0) (ao (pv 1) ag))) rfl Y.mS sc_sLlacks.nd (fun a=>au (gw (pv 6) (nM (i:=2) sc_sLlacks.nd rfl (.inl rfl) (.inr rfl)))))
   (ah (aL 3 sc_sLlacks.nd (kE (dZ (aO (bA rfl Y.xc hVE Y.xh) rfl M.n_isinstance L2.boot_isinstance (ao (pv 2) (ao (d4 rfl Z.m_BadText) ag))) (dZ (aO (bA rfl Y.xc hVE Y.xh) rfl M.n_isinstance L2.boot_isinstance (ao (pv 2) (ao (d4 rfl Z.m_Twice) ag))) (dZ (aO (bA rfl Y.xc hVE Y.xh) rfl M.n_isinstance L2.boot_isinstance (ao (pv 2) (ao (d4 rfl Z.m_NoDeed) ag))) jd rfl) rfl) rfl)))
   (ah (aL 3 sc_sLlacks.nd (aN K (pv 3) (kE (dZ (aO (bA rfl Y.xc hVE Y.xh) rfl M.n_isinstance L2.boot_isinstance (ao (pv 2) (ao (d4 rfl Z.m_NotLet) ag))) (dZ (aO (bA rfl Y.xc hVE Y.xh) rfl M.n_isinstance L2.boot_isinstance (ao (pv 2) (ao (d4 rfl Z.m_NoName) ag))) (dZ (aO (bA rfl Y.xc hVE Y.xh) rfl M.n_isinstance L2.boot_isinstance (ao (pv 2) (ao (d4 rfl Z.m_NoKind) ag))) jd rfl) rfl) rfl))))
   (ah (aL 3 sc_sLlacks.nd (aN K (pv 3) (kE (dZ (aO (bA rfl Y.xc hVE Y.xh) rfl M.n_isinstance L2.boot_isinstance (ao (pv 2) (ao (d4 rfl Z.m_Mixed) ag))) (dZ (aO (bA rfl Y.xc hVE Y.xh) rfl M.n_isinstance L2.boot_isinstance (ao (pv 2) (ao (d4 rfl Z.m_NoPaper) ag))) (dZ (aO (bA rfl Y.xc hVE Y.xh) rfl M.n_isinstance L2.boot_isinstance (ao (pv 2) (ao (d4 rfl Z.m_NoRow) ag))) jd rfl) rfl) rfl))))
   (ah (cq (PW.pt (kO (gu (dB (aO (bA rfl Y.xc hVE Y.xh) rfl M.n_isinstance L2.boot_isinstance (ao (pv 2) (ao (d4 rfl Y.mC) ag))))) (kO (dB (aO (bA rfl Y.xc hVE Y.xh) rfl M.n_isinstance L2.boot_isinstance (ao (pv 2) (ao (d4 rfl Z.m_TooMany) ag)))) (kN (kx (EC (K:=K) rfl) mL (pv 3) (by with_unfolding_all rfl)))))) (au (aT mL)) bD)
   (ah (aL 4 sc_sLlacks.nd (fR (fT (osc:=(ar jo)) (ON:=nl8) (N:=["_law_thing"]) (k:=1) (caps:=[]) (by decide +kernel) rfl rfl) rfl (cT (K:=K) rfl (nN (ao (pv 0) (ao (pv 1) ag)))) (fun _ _ _ _=>(bU 0 (by show(["_law_thing"]:List Str).Nodup;decide +kernel))) (fun _ _ _ _=>fQ) (fun _ _ _ _=>(fR (wJ (ON:=["_law_thing"]) (N:=nl3) (k:=1) (caps:=[]) (by exact rfl) (by exact rfl) (by decide +kernel)) rfl (cT (K:=K) rfl (pv 0)) (fun _ _ _ _=>(bU 0 (by show(nl3:List Str).Nodup;decide +kernel))) (fun _ _ _ _=>fQ) (fun _ _ _ _=>(jY CD PySem.F.slot_str_strip PySem.F.type_str_strip wD (pv 0) (ao eR ag)))))))
   (ah (vn 5 (fT (osc:=(ar jo)) (ON:=nl8) (N:=["_law_name","_law_both"]) (k:=1) (caps:=[4]) (by decide +kernel) rfl rfl) rfl sc_sLlacks.nd (cT (K:=K) rfl (aN K (bj K (pv 4) ai) (bj K (pv 4) ai))) (fun _ _ _ _=>(bU 0 (by show(["_law_name","_law_both"]:List Str).Nodup;decide +kernel))) (fun _ _ _ _=>rR (PW.pt (kO (kx (m9 (K:=K) rfl) (pv 0) (bj K (pv 1) ai) (by with_unfolding_all rfl)) (kN (kx (m9 (K:=K) rfl) (pv 0) (bj K (pv 1) ai) (by with_unfolding_all rfl)))))) (fun _ _ _ _=>(pv 0)))
   (au (aT (je kQ (Fm rfl Y.xc hVE Y.xh Y.fn (pv 2)) (aO (uE (K:=K) rfl rfl) rfl M.n_min CN (ao (pv 5) ag))))))))))))),
  (az (aD Eh)
   (az (ze Y.aC (aa (ac 0) (aa (ac 1) ae)))
   (az (aD (br (aa (d5 Y.aC Z.k_BadText (ac 2)) (aa (d5 Y.aC Z.k_Twice (ac 2)) (aa (d5 Y.aC Z.k_NoDeed (ac 2)) ae)))))
   (az (aD (ak ro_addA (ac 3) (br (aa (d5 Y.aC Z.k_NotLet (ac 2)) (aa (d5 Y.aC Z.k_NoName (ac 2)) (aa (d5 Y.aC Z.k_NoKind (ac 2)) ae))))))
   (az (aD (ak ro_addA (ac 3) (br (aa (d5 Y.aC Z.k_Mixed (ac 2)) (aa (d5 Y.aC Z.k_NoPaper (ac 2)) (aa (d5 Y.aC Z.k_NoRow (ac 2)) ae))))))
   (az (cB (iw (eJ (gm (d5 Y.aC Z.k_Lacks (ac 2)))) (iw (gm (d5 Y.aC Z.k_TooMany (ac 2))) (bi (ak ED (mY _) (ac 3))))) (aU (mY _)) bJ)
   (az (aD (dO (cU (nY (aa (ac 0) (aa (ac 1) ae)))) (aW 0) (by decide) ix (dO (cU (ac 0)) (aW 0) (by decide) ix (CY wE (ac 0) (aa (fU _) ae)))))
   (az (aD (dO (cU (ak ro_addA (ak bC (ac 4) (aj _)) (ak bC (ac 4) (aj _)))) (aW 0) (by decide) (iw (bi (ak na (ac 0) (ak bC (ac 1) (aj _)))) (bi (ak na (ac 0) (ak bC (ac 1) (aj _))))) (ac 0)))
   (aU (ak ro_eqA (Fp Y.aC (ac 2)) (aZ yY (aa (ac 5) ae))))))))))))⟩
theorem mJ(M:Md mg)(c8:cj P w K mg base):Bd' P w K mg base "_law_spoilt" lU He 1 jk:=fun hr=>⟨_,(ah (aL 2 sc_sLspoilt.nd (aE c8 hr rfl (ao (pv 0) (ao (aM (eL (K:=K) rfl) (bS K M.n_len (pv 1)) ai) ag))))
   (ah (aL 3 sc_sLspoilt.nd (bj K (@bN _ _ _ _ (@rT _ _ _ (by rfl))) (aE c8 hr rfl (ao (pv 0) (ao ai ag)))))
   (ah (cq (bL kQ (pv 2) (bS K M.n_len (pv 1))) (au (aT (aM (eL (K:=K) rfl) (pv 1) (nN (ao (pv 3) ag))))) bD)
   (au (aT (w4 (wz (nX (K:=K) rfl) (sR (dZ (aM (eL (K:=K) rfl) (dW (kB (K:=K) rfl) (pv 1) gQ (eG (pv 2))) (dW (kB (K:=K) rfl) (pv 1) (eG (aM (eL (K:=K) rfl) (pv 2) ai)) gQ)) (dZ (aM (eL (K:=K) rfl) (aM (eL (K:=K) rfl) (dW (kB (K:=K) rfl) (pv 1) gQ (eG (pv 2))) (nN (ao (pv 3) ag))) (dW (kB (K:=K) rfl) (pv 1) (eG (aM (eL (K:=K) rfl) (pv 2) ai)) gQ)) (dZ (aM (eL (K:=K) rfl) (nN (ao (pv 3) ag)) (pv 1)) jd rfl) rfl) rfl)) (aE c8 hr rfl (ao (pv 0) (ao ai ag))) (fun _ _=>rfl)))))))),
  (az (aD (bV (aa (ak eM (aZ cH (aa (ac 1) ae)) (aj _)) ae)))
   (az (aD (ak bC (br yB) (bV (aa (aj _) ae))))
   (az (cB (bi (ak ro_eqA (ac 2) (aZ cH (aa (ac 1) ae)))) (aU (ak eM (ac 1) (nY (aa (ac 3) ae)))) bJ)
   (aU (ak bC (br (aa (ak eM (dX jc (ac 1) jE (di (ac 2))) (dX jc (ac 1) (di (ak eM (ac 2) (aj _))) jE)) (aa (ak eM (ak eM (dX jc (ac 1) jE (di (ac 2))) (nY (aa (ac 3) ae))) (dX jc (ac 1) (di (ak eM (ac 2) (aj _))) jE)) (aa (ak eM (nY (aa (ac 3) ae)) (ac 1)) ae)))) (bV (aa (aj _) ae)))))))⟩
theorem F3(M:Md mg)(c7:mo P w K mg base)(c8:cj P w K mg base)(c12:ip P w K mg base)(c15:jv P w K mg base)(c16:mq P w K mg base)(c18:mt P w K mg base)(c19:mv P w K mg base)(c20:kg P w K mg base)(c21:jw P w K mg base):Bd' P w K mg base "law" Fv Hf 6 Dp:=fun hr=>⟨_,(ah (aL 1 sc_slaw.nd (aE c7 hr rfl (ao (pv 0) (ao ai ag))))
   (ah (aL 2 sc_slaw.nd (aE c12 hr rfl (ao (pv 1) (ao (bj K (bN (ao ai (ao ai ag))) (cR jz rfl M.n_int gR (ao (je kQ (aE c8 hr rfl (ao (pv 1) (ao ai ag))) ai) ag))) ag))))
   (ah (aL 1 sc_slaw.nd (aE c7 hr rfl (ao (pv 0) (ao ai ag))))
   (ah (aL 3 sc_slaw.nd (aE c15 hr rfl (ao (pv 1) (ao (aM eS (bS K M.n_len (pv 2)) ai) ag))))
   (ah (aL 4 sc_slaw.nd (aE c16 hr rfl (ao (pv 3) (ao (pv 2) ag))))
   (ah (cq (PW.pt (kO (gu (dB (aE c19 hr rfl (ao (pv 4) (ao (pv 3) (ao (pv 2) ag)))))) (kN (gu (dB (aE c19 hr rfl (ao (pv 3) (ao (pv 4) (ao (aE c18 hr rfl (ao (pv 2) ag)) ag))))))))) (au (aT mL)) bD)
   (ah (cq (gu (dB (aE c19 hr rfl (ao (pv 4) (ao (pv 4) (ao (cR (lB rfl) rfl M.n_list fS (ao (wx rfl M.n_range (ao (bS K M.n_len (pv 2)) ag)) ag)) ag)))))) (au (aT mL)) bD)
   (ah (aL 1 sc_slaw.nd (aE c7 hr rfl (ao (pv 0) (ao ai ag))))
   (ah (dC Av rfl (fE rfl M.n_range (ao ai ag)) (bU 5 sc_slaw.nd) (ah (aL 6 sc_slaw.nd (aE c21 hr rfl (ao (pv 1) (ao (pv 3) ag))))
   (au (cq (PW.pt (kO (gu (dB (aE c20 hr rfl (ao (pv 4) (ao (pv 6) ag))))) (kN (gu (dB (aE c20 hr rfl (ao (pv 6) (ao (pv 4) ag)))))))) (au (aT mL)) bD))))
   (au (aT (aE c19 hr rfl (ao (pv 4) (ao (pv 3) (ao (pv 2) ag))))))))))))))),
  (az (aD (db (aa (ac 0) (aa (aj _) ae))))
   (az (aD (bV (aa (ak bC (br (aa (aj _) (aa (aj _) ae))) (aZ ol (aa (ak ro_eqA (bV (aa (aj _) ae)) (aj _)) ae))) ae)))
   (az (aD (db (aa (ac 0) (aa (aj _) ae))))
   (az (aD (bV (aa (ak fk (aZ cH (aa (ac 2) ae)) (aj _)) ae)))
   (az (aD (db (aa (ac 3) (aa (ac 2) ae))))
   (az (cB (iw (eJ (gm (bb (aa (ac 4) (aa (ac 3) (aa (ac 2) ae)))))) (eJ (gm (bb (aa (ac 3) (aa (ac 4) (aa (db (aa (ac 2) ae)) ae))))))) (aU (mY _)) bJ)
   (az (cB (eJ (gm (bb (aa (ac 4) (aa (ac 4) (aa (Fg (aa (aZ cH (aa (ac 2) ae)) ae)) ae)))))) (aU (mY _)) bJ)
   (az (aD (db (aa (ac 0) (aa (aj _) ae))))
   (az (dE (iW (aa (aj _) ae)) (aW 5) (az (aD (bV (aa (ac 3) ae)))
   (cB (iw (eJ (gm (bb (aa (ac 4) (aa (ac 6) ae))))) (eJ (gm (bb (aa (ac 6) (aa (ac 4) ae)))))) (aU (mY _)) bJ)))
   (aU (bb (aa (ac 4) (aa (ac 3) (aa (ac 2) ae))))))))))))))⟩
theorem zN{mc:Value}{k:Nat}(Y:Xk K mg "Lacks" "name" "StrandError" cC cS cf)(sg:PySem.W.specialIn K (.ref cS) "__getattribute__"=some (some (.builtin "type.__getattribute__")))(sr:PySem.W.readsIn K cS mc=true)(sf:PySem.W.findCls K (.ref cS) mc "__init__"=some (.val (.builtin "ValueError.__init__"))):BdI P w K mg base "Lacks.__init__" "name" cC cf nG nl9 k :=
 fun _=>ah (ce (y7 (mc:=mc) rfl Y.xc rfl Y.mS sg sr sf (ao (pv 0) (ao (pv 1) ag)))) (au (y8 rfl Y.xc Y.fn (pv 0) (pv 1)))
end
set_option maxHeartbeats 0 in
theorem all_mk{l:PySem.W.OpenLaw}{w:World}{K:Aa}{h:Heap}{mg:Str->Option Value}{fa cC cS cf c_BadText c_Twice c_NoDeed c_NotLet c_NoName c_NoKind c_Mixed c_NoPaper c_NoRow c_TooMany:Addr}(X:K.In h)(G:h.Ns mainGlobals mg)(hfa:mg "law"=some (.ref fa))
  (h1:FH K "is_turned" jO)(h2:FH K "name_of" ou)(h3:FH K "mirrored" jP)(h4:FH K "beads_in" lR)(h5:FH K "names_in" jm)(h6:FH K "refuse_lacks" dS)(h7:FH K "numbers_of" gj)(h8:FH K "_law_deal" qT)(h9:FH K "_law_draw" qU)(h10:FH K "_law_farther" jQ)(h11:FH K "_law_put_in" jn)(h12:FH K "_law_block" oy)(h13:FH K "_law_numbers" jR)(h14:FH K "_law_names" oz)(h15:FH K "_law_other" oA)(h16:FH K "_law_theirs" lS)(h17:FH K "_law_ours" qV)(h18:FH K "_law_whole_numbers" cM)(h19:FH K "_law_back" qW)(h20:FH K "_law_told" qX)(h21:FH K "_law_lacks" jo)(h22:FH K "_law_spoilt" lU)(h23:FH K "law" Fv)
  {oc0:Value} {od0 an0:Option Addr} {kV0 dc0 pm0 cd0 ct0 mc0:Value} {sl0:Array (Option Value)}
  (aC:PySem.W.nsIn K mainGlobals "Lacks"=some (some (.ref cC))) (aS:PySem.W.nsIn K mainGlobals "StrandError"=some (some (.ref cS))) (e_BadText:PySem.W.nsIn K mainGlobals "BadText"=some (some (.ref c_BadText))) (q_BadText:PySem.W.kitOne K (.ref cC) (.ref c_BadText)=some false) (e_Twice:PySem.W.nsIn K mainGlobals "Twice"=some (some (.ref c_Twice))) (q_Twice:PySem.W.kitOne K (.ref cC) (.ref c_Twice)=some false) (e_NoDeed:PySem.W.nsIn K mainGlobals "NoDeed"=some (some (.ref c_NoDeed))) (q_NoDeed:PySem.W.kitOne K (.ref cC) (.ref c_NoDeed)=some false) (e_NotLet:PySem.W.nsIn K mainGlobals "NotLet"=some (some (.ref c_NotLet))) (q_NotLet:PySem.W.kitOne K (.ref cC) (.ref c_NotLet)=some false) (e_NoName:PySem.W.nsIn K mainGlobals "NoName"=some (some (.ref c_NoName))) (q_NoName:PySem.W.kitOne K (.ref cC) (.ref c_NoName)=some false) (e_NoKind:PySem.W.nsIn K mainGlobals "NoKind"=some (some (.ref c_NoKind))) (q_NoKind:PySem.W.kitOne K (.ref cC) (.ref c_NoKind)=some false) (e_Mixed:PySem.W.nsIn K mainGlobals "Mixed"=some (some (.ref c_Mixed))) (q_Mixed:PySem.W.kitOne K (.ref cC) (.ref c_Mixed)=some false) (e_NoPaper:PySem.W.nsIn K mainGlobals "NoPaper"=some (some (.ref c_NoPaper))) (q_NoPaper:PySem.W.kitOne K (.ref cC) (.ref c_NoPaper)=some false) (e_NoRow:PySem.W.nsIn K mainGlobals "NoRow"=some (some (.ref c_NoRow))) (q_NoRow:PySem.W.kitOne K (.ref cC) (.ref c_NoRow)=some false) (e_TooMany:PySem.W.nsIn K mainGlobals "TooMany"=some (some (.ref c_TooMany))) (q_TooMany:PySem.W.kitOne K (.ref cC) (.ref c_TooMany)=some false) (q_Lacks:PySem.W.kitOne K (.ref cC) (.ref cC)=some true)
  (xc:XC K cC cS cf xN "ValueError.__init__" "object.__setattr__" "object" "ValueError" mVE)
  (ga:PySem.W.findIn K (.ref cC) "__getattribute__"=some (some (.builtin "BaseException.__getattribute__"))) (gt:PySem.W.findIn K (.ref cC) "__getattr__"=some none) (hd:PySem.W.hasDictIn K cC=true) (ca:PySem.W.findIn K (.ref cC) "__class__"=some (some (.builtin "object.__class__")))
  (cn:PySem.W.specialIn K (.builtin "object.__class__") "__get__"=some (some (.builtin "getset_descriptor.__get__"))) (ck:PySem.W.takesIn K (.builtin "object.__class__")=some true) (cm:PySem.W.mroIn K cC (.type "object")=some true) (fn:PySem.W.findIn K (.ref cC) "name"=some none) (hx:PySem.W.exmOne K (.ref cC) (.ref cS)=some true)
  (sg:PySem.W.specialIn K (.ref cS) "__getattribute__"=some (some (.builtin "type.__getattribute__"))) (sr:PySem.W.readsIn K cS mc0=true) (sf:PySem.W.findCls K (.ref cS) mc0 "__init__"=some (.val (.builtin "ValueError.__init__")))
  (l0:K.lookup cf=some ⟨oc0,od0,.func (PySem.W.fnOf "__init__" "Lacks.__init__" (fO nG) (cg nG) (ar nG) .none kV0 dc0 pm0 an0 cd0 ct0),sl0⟩) (c0:PySem.W.codeIn K cd0 "Lacks.__init__"=true) (k0:PySem.W.keepIn K (.ref cf)=true)
  (z_abs:PySem.W.nsIn K mainGlobals "abs"=some none) (z_all:PySem.W.nsIn K mainGlobals "all"=some none) (z_bool:PySem.W.nsIn K mainGlobals "bool"=some none) (z_enumerate:PySem.W.nsIn K mainGlobals "enumerate"=some none) (z_int:PySem.W.nsIn K mainGlobals "int"=some none) (z_isinstance:PySem.W.nsIn K mainGlobals "isinstance"=some none) (z_len:PySem.W.nsIn K mainGlobals "len"=some none) (z_list:PySem.W.nsIn K mainGlobals "list"=some none) (z_min:PySem.W.nsIn K mainGlobals "min"=some none) (z_range:PySem.W.nsIn K mainGlobals "range"=some none) (z_reversed:PySem.W.nsIn K mainGlobals "reversed"=some none) (z_sorted:PySem.W.nsIn K mainGlobals "sorted"=some none) (z_str:PySem.W.nsIn K mainGlobals "str"=some none) (z_tuple:PySem.W.nsIn K mainGlobals "tuple"=some none) :
  ∃fd:FuncData,(∀(s:Shared)(v:Value),BindsTo s fd ⟨[v],[]⟩ [("_law_script",v)])/\∀base:Heap,K.In base->base.Ns mainGlobals mg->FnOk l.prog w K mg base CX0 7 fa fd ["_law_script"] (ss K):=by
 have M:Md mg:=⟨Am X G z_abs,Am X G z_all,Am X G z_bool,Am X G z_enumerate,Am X G z_int,Am X G z_isinstance,Am X G z_len,Am X G z_list,Am X G z_min,Am X G z_range,Am X G z_reversed,Am X G z_sorted,Am X G z_str,Am X G z_tuple⟩;refine h23.law X G hfa sc_slaw (fun _ _ _ _ _ _=>ar1 fun _=>rfl) zM fun base=>?_;have Y:Xk K mg "Lacks" "name" "StrandError" cC cS cf:=G0 X G xc aC aS ga gt hd ca cn ck cm fn hx;have Z:Zs K mg cC c_BadText c_Twice c_NoDeed c_NotLet c_NoName c_NoKind c_Mixed c_NoPaper c_NoRow c_TooMany:=⟨Au X G e_BadText,q_BadText,Au X G e_Twice,q_Twice,Au X G e_NoDeed,q_NoDeed,Au X G e_NotLet,q_NotLet,Au X G e_NoName,q_NoName,Au X G e_NoKind,q_NoKind,Au X G e_Mixed,q_Mixed,Au X G e_NoPaper,q_NoPaper,Au X G e_NoRow,q_NoRow,Au X G e_TooMany,q_TooMany,q_Lacks⟩;have F0:Fun K "__init__" "Lacks.__init__" nG cf _:=⟨⟨_,_,_,_,_,_,_,_,_,rfl,l0,c0⟩,k0⟩;have I:CalJ l.prog w K mg base cC cf "name" 1:=⟨_,_,wU F0 zi rfl (zN Y sg sr sf),F0.binds (ps:=nl9) (fun _ _ _ _ _ _=>ar2 fun _ _=>rfl)⟩;have c0:gM l.prog w K mg base:=h1.cal X G oB (fun _ _ _ _ _ _=>ar1 fun _=>rfl) (oO M);have c1:jU l.prog w K mg base:=h2.cal X G qY (fun _ _ _ _ _ _=>ar1 fun _=>rfl) (rB M c0);have c2:mf l.prog w K mg base:=h3.cal X G oC (fun _ _ _ _ _ _=>ar1 fun _=>rfl) (p7 M c0 c1);have c3:mi l.prog w K mg base:=h4.cal X G sc_sbeadsin (fun _ _ _ _ _ _=>ar1 fun _=>rfl) (p8 M);have c4:mj l.prog w K mg base:=h5.cal X G pR (fun _ _ _ _ _ _=>ar1 fun _=>rfl) (p9 M c1 c3);have c5:gO l.prog w K mg base:=Do Y.aC h6 X G sc_srefuselacks (fun _ _ _ _ _ _=>ar1 fun _=>rfl) (kr Y I M c4);have c6:gl l.prog w K mg base:=Do Y.aC h7 X G sc_snumbersof (fun _ _ _ _ _ _=>ar2 fun _ _=>rfl) (mG Y M c2 c5);have c7:mo l.prog w K mg base:=h8.cal X G sc_sLdeal (fun _ _ _ _ _ _=>ar2 fun _ _=>rfl) (qa M);have c8:cj l.prog w K mg base:=h9.calI X G sc_sLdraw (fun _ _ _ _ _ _=>ar2 fun _ _=>rfl) (qb M);have c9:im l.prog w K mg base:=h10.cal X G oD (fun _ _ _ _ _ _=>ar2 fun _ _=>rfl) (mw M);have c10:ju l.prog w K mg base:=h11.cal X G sc_sLputin (fun _ _ _ _ _ _=>ar3 fun _ _ _=>rfl) (mH M c9);have c11:kc l.prog w K mg base:=h12.calI X G sc_sLblock (fun _ _ _ _ _ _=>ar2 fun _ _=>rfl) (oP M c8);have c12:ip l.prog w K mg base:=h13.calI X G sc_sLnumbers (fun _ _ _ _ _ _=>ar2 fun _ _=>rfl) (mx M c8 c10 c11);have c13:ke l.prog w K mg base:=h14.calI X G sc_sLnames (fun _ _ _ _ _ _=>ar2 fun _ _=>rfl) (oQ M c8)
 have c14:kf l.prog w K mg base:=h15.cal X G qZ (fun _ _ _ _ _ _=>ar1 fun _=>rfl) (oR M);have c15:jv l.prog w K mg base:=h16.calI X G sc_sLtheirs (fun _ _ _ _ _ _=>ar2 fun _ _=>rfl) (mI M c8 c13);have c16:mq l.prog w K mg base:=h17.cal X G sc_sLours (fun _ _ _ _ _ _=>ar2 fun _ _=>rfl) (qc M c14);have c17:dN l.prog w K mg base:=h18.cal X G jp (fun _ _ _ _ _ _=>ar1 fun _=>rfl) (gP M);have c18:mt l.prog w K mg base:=h19.cal X G sc_sLback (fun _ _ _ _ _ _=>ar1 fun _=>rfl) (qd M);have c19:mv l.prog w K mg base:=h20.cal X G sc_sLtold (fun _ _ _ _ _ _=>ar3 fun _ _ _=>rfl) (qf M c6 c17);have c20:kg l.prog w K mg base:=h21.cal X G sc_sLlacks (fun _ _ _ _ _ _=>ar2 fun _ _=>rfl) (oS Y Z M c6);have c21:jw l.prog w K mg base:=h22.calI X G sc_sLspoilt (fun _ _ _ _ _ _=>ar2 fun _ _=>rfl) (mJ M c8);intro _ _ _ _ _ _ _;exact F3 M c7 c8 c12 c15 c16 c18 c19 c20 c21
end K39
open PySem PySem.W PyProof.Rows
set_option maxRecDepth 100000 in
set_option maxHeartbeats 0 in
theorem PySem.Challenge.cw_strandwright_k39_numbers_by_places_holds : PySem.Challenge.rw_strandwright_k39_numbers_by_places.Holds := by
 w_on;o_law;k_head;(case hw=>w_witness2)
 k_fill
 refine VF.walkL (l:=PySem.Challenge.rw_strandwright_k39_numbers_by_places) (k:=7) rfl rfl ⟨rfl,by decide,by decide⟩ (fun w h Y=>PySem.W.kIn_of Y) ?F
 case F =>
  intro w mg fa h KX G hmg;refine' K39.all_mk (mc0:=.type "type") KX G hmg (VF.fh ?a1 ?l1 ?c1 ?k1) (VF.fh ?a2 ?l2 ?c2 ?k2) (VF.fh ?a3 ?l3 ?c3 ?k3) (VF.fh ?a4 ?l4 ?c4 ?k4) (VF.fh ?a5 ?l5 ?c5 ?k5) (VF.fh ?a6 ?l6 ?c6 ?k6) (VF.fh ?a7 ?l7 ?c7 ?k7) (VF.fh ?a8 ?l8 ?c8 ?k8) (VF.fh ?a9 ?l9 ?c9 ?k9) (VF.fh ?a10 ?l10 ?c10 ?k10) (VF.fh ?a11 ?l11 ?c11 ?k11) (VF.fh ?a12 ?l12 ?c12 ?k12) (VF.fh ?a13 ?l13 ?c13 ?k13) (VF.fh ?a14 ?l14 ?c14 ?k14) (VF.fh ?a15 ?l15 ?c15 ?k15) (VF.fh ?a16 ?l16 ?c16 ?k16) (VF.fh ?a17 ?l17 ?c17 ?k17) (VF.fh ?a18 ?l18 ?c18 ?k18) (VF.fh ?a19 ?l19 ?c19 ?k19) (VF.fh ?a20 ?l20 ?c20 ?k20) (VF.fh ?a21 ?l21 ?c21 ?k21) (VF.fh ?a22 ?l22 ?c22 ?k22) (VF.fh ?a23 ?l23 ?c23 ?k23) ?aC ?aS ?e_BadText ?q_BadText ?e_Twice ?q_Twice ?e_NoDeed ?q_NoDeed ?e_NotLet ?q_NotLet ?e_NoName ?q_NoName ?e_NoKind ?q_NoKind ?e_Mixed ?q_Mixed ?e_NoPaper ?q_NoPaper ?e_NoRow ?q_NoRow ?e_TooMany ?q_TooMany ?q_Lacks (VX.xc_mk ?xl (VX.nsOk_of ?xn ?xt) ?xi ?xl2 (VX.nsOk_of ?xn2 ?xt2) ?xi2 ?xst ?xlf ?xfc ?xkp) ?ga ?gt ?hd ?ca ?cn ?ck ?cm ?fn ?hx ?sg ?sr ?sf ?l0 ?c0 ?k0 ?z_abs ?z_all ?z_bool ?z_enumerate ?z_int ?z_isinstance ?z_len ?z_list ?z_min ?z_range ?z_reversed ?z_sorted ?z_str ?z_tuple
  (case aC=>k_is)
  (case aS=>k_is)
  (case e_BadText=>k_is)
  (case e_Twice=>k_is)
  (case e_NoDeed=>k_is)
  (case e_NotLet=>k_is)
  (case e_NoName=>k_is)
  (case e_NoKind=>k_is)
  (case e_Mixed=>k_is)
  (case e_NoPaper=>k_is)
  (case e_NoRow=>k_is)
  (case e_TooMany=>k_is)
  (case xl=>k_is)
  (case xn=>k_is)
  (case xt=>exact rfl)
  (case xi=>k_is)
  (case xlf=>k_is)
  (case xfc=>rfl)
  (case xl2=>k_is)
  (case xn2=>k_is)
  (case xt2=>exact rfl)
  (case hx=>kts_exm)
  (case q_BadText=>kit_is)
  (case q_Twice=>kit_is)
  (case q_NoDeed=>kit_is)
  (case q_NotLet=>kit_is)
  (case q_NoName=>kit_is)
  (case q_NoKind=>kit_is)
  (case q_Mixed=>kit_is)
  (case q_NoPaper=>kit_is)
  (case q_NoRow=>kit_is)
  (case q_TooMany=>kit_is)
  (case q_Lacks=>kit_is)
  all_goals try k_is

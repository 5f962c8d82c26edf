import PyProof.Rows.All
import Wide.All
import OpenK.AllK
import Wide.FinOn
import Lean
import PyProof.EqAt
import PyProof.EqKinds
import PyProof.TupleCall
import KE.KRevIter
import KE.KUnpack
import KE.KIntText
import KE.KxLen
import PySem.Challenge.RW_strandwright_k65_papers_written_and_read
set_option maxHeartbeats 2000000
set_option Elab.async false
set_option linter.all false
set_option maxRecDepth 100000
set_option genSizeOfSpec false
set_option tactic.hygienic false
namespace PySem.W.Fast
def tw9242639120251946749:=0
def tw12777512050757916996:=0
def tw732616625875317688:=0
def tw11878832352297732606:=0
def tw8539790492588157929:=0
def tw18048224634113212192:=0
def tw1833133303456072279:=0
def tw15656669752435236173:=0
def tw11018570088018916631:=0
def tw17773813144011884930:=0
def tw4796133793374053137:=0
def tw13780638800158654262:=0
def tw9139024471147790066:=0
def tw4444492746978208872:=0
def tw9567300180236500600:=0
def tw1430548870742457221:=0
def tw7518702826003777599:=0
def tw16127366773849947341:=0
def tw9751609907782338810:=0
def tw17083170881373162340:=0
def tw543989645402121374:=0
def tw6894823053302334775:=0
def tw6864142055803437138:=0
def tw14064408636189817204:=0
def tw2676480699011920429:=0
def tw3558384373407270746:=0
def tw16137582891805522184:=0
def tw1058758557098532544:=0
def tw9412983572763428441:=0
def tw17097396044261035751:=0
def tw13006621211344093352:=0
def tw13333014336932374074:=0
def tw9922208511141683608:=0
def tw17043946197417829277:=0
def tw9991285378963126641:=0
def tw9233205467754231800:=0
def tw17611073632056406917:=0
def tw3554158120260882183:=0
def tw6707351943268852532:=0
def tw12923583149771809281:=0
def tw3422554674367685717:=0
def tw2521661550217176623:=0
def tw6658452801808166104:=0
end PySem.W.Fast
abbrev Aa:=@PySem.W.Frag
abbrev Ab:=@PySem.wpAny_bind
abbrev Ac:=@PySem.Heap.get?_push_of_some
abbrev Ad:=@decide_eq_true
abbrev Ae:=@decide_eq_false
abbrev Af:=@PySem.wpAny_pure
abbrev Ag:=@if_pos
abbrev Ah:=@PySem.Str.length_append
abbrev Ai:=@PySem.F.plainAttrs_str
abbrev Aj:=@PySem.Heap.lt_size
abbrev Ak:=@PySem.Heap.get?_push_size
abbrev Al:=@if_neg
abbrev Am:=@PySem.F.type_str_join
abbrev An:=@PySem.F.slot_str_join
abbrev Ao:=@PyProof.Rows.wpS_bind
abbrev Ap:=@of_decide_eq_true
abbrev Aq:=@PySem.W.mg_none_of
abbrev Ar:=@PySem.W.kia_one
abbrev As:=@PySem.W.mg_of
abbrev At:=@PyProof.Rows.wpS_pure
abbrev Au:=@PySem.wpAny_field
abbrev Av:=@PySem.F.type_str_split
abbrev Aw:=@PySem.F.slot_str_split
abbrev Ax:=@PySem.mem_of_lookup
abbrev Ay:=@PySem.wpAny_truthy_bool
abbrev Az:=@PySem.wpAny_callSpecial?_slot
abbrev AA:=@PySem.wpAny_mono
abbrev AB:=@PySem.PassesOwn.never
abbrev AC:=@Ne.symm
abbrev AD:=@PySem.wpAny_newObj_type
abbrev AE:=@PyProof.Rows.slot_tuple_getitem
abbrev AF:=@PySem.wpAny_seqItems
abbrev AG:=@PySem.wpAny_call_entry
abbrev AH:=@PySem.F.plainAttrs_list
abbrev AI:=@PySem.wpAny_setField_rec
abbrev AJ:=@PySem.wpAny_passesOwn
abbrev AK:=@PySem.wpAny_holding
abbrev AL:=@PySem.call_meets
abbrev AM:=@PySem.wpAny_getItem_str_slice
abbrev AN:=@PyProof.Rows.wpS_forRange
abbrev AO:=@PySem.wpAny_typeOf
abbrev AQ:=@Int.emod_nonneg
abbrev AR:=@PyProof.Rows.listItems_at
abbrev AT:=@PyProof.Rows.callWith_type1
abbrev AU:=@PySem.wpAny_rule
abbrev AV:=@PySem.typeIs_str
abbrev AW:=@PySem.Heap.size_push
abbrev AX:=@List.getElem?_append_left
abbrev AY:=@PySem.F.args_tuple_add_2
abbrev AZ:=@PySem.F.slot_list_index
abbrev A0:=@PySem.F.entry_tuple_add
abbrev A1:=@Array.size_range
abbrev A2:=@PySem.F.slot_tuple_add
abbrev A3:=@PySem.Heap.get?_update_other
abbrev A4:=@PySem.wpAny_loadPart'
abbrev A5:=@PySem.wpAny_execs_nil
abbrev A6:=@PySem.post_val_or_str
abbrev A7:=@PyProof.Rows.wpS_mono
abbrev A8:=@PySem.wpAny_updateSeq_pair
abbrev A9:=@Nat.sub_le_sub_right
abbrev Ba:=@ne_true_of_eq_false
abbrev Bb:=@List.mem_map_of_mem
abbrev Bc:=@List.filterMap_cons
abbrev Bd:=@PySem.wpAny_onRaise
abbrev Be:=@PyProof.Rows.listUpdate_at
abbrev Bg:=@List.any_cons
abbrev Bh:=@Bool.true_and
abbrev Bi:=@PySem.wpAny_Call_Name_kw
abbrev Bj:=@PySem.SeqAt.EqAt.str_int
abbrev Bk:=@PySem.SeqAt.EqAt.int_str
abbrev Bl:=@Int.natCast_nonneg
abbrev Bm:=@Int.emod_lt_of_pos
abbrev Bo:=@Bool.false_eq_true
abbrev Bp:=@PySem.wpAny_pyIter_list
abbrev Bq:=@PySem.W.kitx_list
abbrev Br:=@Nat.lt_trans
abbrev Bs:=@Nat.lt_succ_of_lt
abbrev Bt:=@List.map_id'
abbrev Bu:=@List.getElem?_map
abbrev Bv:=@PySem.noFill_tuple_add
abbrev Bw:=@PySem.StrLaws.subAt_eq
abbrev Bx:=@PySem.SeqAt.in_tupleAt
abbrev By:=@Nat.not_le_of_lt
abbrev Bz:=@Nat.lt_succ_self
abbrev BB:=@List.length_take
abbrev BC:=@List.getElem_inj
abbrev BD:=@List.ext_getElem
abbrev BE:=@List.take_append_of_le_length
abbrev BF:=@List.map_id
abbrev BG:=@List.eq_nil_of_length_eq_zero
abbrev BH:=@List.of_mem_zip
abbrev BI:=@PySem.SeqAt.RcNeAt.lists_lengths
abbrev BJ:=@List.getElem?_append_right
abbrev BK:=@PySem.Calls.Name_function_global
abbrev BL:=@List.drop_eq_getElem_cons
abbrev BM:=@PySem.SeqAt.EqAt.str_str
abbrev BN:=@List.eq_of_mem_replicate
abbrev BO:=@PySem.F.type_list_index
abbrev BP:=@PySem.F.slot_list_count
abbrev BQ:=@Nat.add_sub_cancel_left
abbrev BR:=@List.pairwise_singleton
abbrev BS:=@List.mem_singleton_self
abbrev BT:=@List.getElem?_replicate
abbrev BU:=@PySem.W.cellsFrom_some
abbrev BV:=@List.length_pos_of_mem
abbrev BW:=@List.getElem?_set_self
abbrev BX:=@List.drop_eq_nil_of_le
abbrev BY:=@List.all_map
abbrev BZ:=@List.getElem?_toArray
abbrev B0:=@Array.getElem?_toList
abbrev Za:=@List.length_map
abbrev Ya:=@List.getElem?_eq_getElem
abbrev Xa:=@Option.bind_some
abbrev Wa:=@List.mem_singleton
abbrev Va:=@List.mem_cons
abbrev Qa:=@List.length_cons
abbrev Yb:=@List.mem_map
abbrev Xb:=@Nat.le_refl
abbrev Wb:=@List.size_toArray
abbrev Vb:=@List.mem_cons_of_mem
abbrev Qb:=@List.length_append
abbrev Zc:=@List.mem_cons_self
abbrev Yc:=@Nat.lt_of_lt_of_le
abbrev Xc:=@List.mem_of_getElem?
abbrev Wc:=@Nat.le_trans
abbrev Vc:=@List.map_map
abbrev Qc:=@Bool.false_ne_true
abbrev Zd:=@Array.length_toList
abbrev Yd:=@Option.map_eq_some_iff
abbrev Xd:=@List.getElem?_eq_some_iff
abbrev Wd:=@List.map_append
abbrev Vd:=@List.getD_eq_getElem?_getD
abbrev Qd:=@Bu
abbrev Ze:=@List.mem_append
abbrev Ye:=@Bool.eq_iff_iff
abbrev Xe:=@BJ
abbrev We:=@Bo
abbrev Ve:=@List.pairwise_cons
abbrev Qe:=@List.mem_append_right
abbrev Zf:=@AX
abbrev Yf:=@List.length_replicate
abbrev Xf:=@List.map_cons
abbrev Wf:=@Bool.and_eq_true
abbrev Vf:=@Nat.ne_of_lt
abbrev Qf:=@List.all_eq_true
abbrev Zg:=@Nat.lt_irrefl
abbrev Yg:=@List.length_nil
abbrev Xg:=@List.getElem?_drop
abbrev Wg:=@BT
abbrev Vg:=@List.cons_append
abbrev Qg:=@List.getElem?_of_mem
abbrev Zh:=@List.nodup_cons
abbrev Yh:=@List.nil_append
abbrev Xh:=@List.mem_range
abbrev Wh:=@Nat.zero_le
abbrev Vh:=@List.append_nil
abbrev Qh:=@List.find?_cons
abbrev Zi:=@List.mem_iff_getElem
abbrev Yi:=@List.pairwise_map
abbrev Xi:=@Int.eq_ofNat_of_zero_le
abbrev Wi:=@Nat.add_le_add_left
abbrev Vi:=@List.getElem?_eq_none
abbrev Qi:=@List.getElem?_set
abbrev Zj:=@List.append_assoc
abbrev Yj:=@List.getElem_mem
abbrev Xj:=@Nat.le_add_right
abbrev Wj:=@Array.swapIfInBounds_def
abbrev Vj:=@Array.getElem?_map
abbrev Qj:=@List.take_of_length_le
abbrev Zk:=@Array.size_map
abbrev Yk:=@List.mem_append_left
abbrev Xk:=@List.length_drop
abbrev Wk:=@Nat.min_eq_left
abbrev Vk:=@Nat.le_of_lt
abbrev Qk:=@Nat.ne_of_gt
abbrev Zl:=@Nat.lt_of_le_of_lt
abbrev Yl:=@Nat.sub_add_cancel
abbrev Xl:=@Nat.zero_add
abbrev Wl:=@List.zip_cons_cons
abbrev Vl:=@Option.bind_eq_some_iff
abbrev Ql:=@Int.toNat_natCast
abbrev Zm:=@List.all_cons
abbrev Ym:=@Nat.le_of_not_lt
abbrev Xm:=@List.zipIdx_cons
abbrev Wm:=@Nat.lt_of_not_le
abbrev Vm:=@List.length_singleton
abbrev Qm:=@List.forIn_cons
namespace L2
open PySem PySem.Spec PyProof.Rows
abbrev Key:=Sum Int Str
def sA:Key->Value->Bool
 | .inl k,v=>Value.isInt k v
 | .inr x,v=>Value.isStrOf x v
def LG(w:World):Key->Int
 | .inl k=>hashInt k
 | .inr x=>hashStr w x
theorem cy:∀{k:Key}{v:Value},sA k v=true->(∃i t,k=Sum.inl i/\v=Value.int i t)∨(∃x t,k=Sum.inr x/\v=Value.str x t)
 | .inl i,v,h=>by
  obtain⟨t,e⟩:=Value.isInt_shape (k:=i) (v:=v) h;exact .inl ⟨i,t,rfl,e⟩
 | .inr x,v,h=>by
  obtain⟨t,e⟩:=Value.isStrOf_shape (x:=x) (v:=v) h;exact .inr ⟨x,t,rfl,e⟩
def zm(i:Int)(t:Tok):sA (.inl i) (.int i t)=true:=by simp[sA,Value.isInt]
def zn(x:Str)(t:Tok):sA (.inr x) (.str x t)=true:=by simp[sA,Value.isStrOf]
def HD(a b:Int):decide ((Sum.inl a:Key)=Sum.inl b)=(a == b):=by
 by_cases e:a=b
 ·subst e;simp
 ·have h:¬ (Sum.inl a:Key)=Sum.inl b:=fun q=>e (Sum.inl.inj q);rw[Ae h];exact(beq_eq_false_iff_ne.mpr e).symm
def HE(a b:Str):decide ((Sum.inr a:Key)=Sum.inr b)=decide (a=b):=by
 by_cases e:a=b
 ·subst e;simp
 ·have h:¬ (Sum.inr a:Key)=Sum.inr b:=fun q=>e (Sum.inr.inj q);rw[Ae h,Ae e]
def HF(a:Int)(b:Str):decide ((Sum.inl a:Key)=Sum.inr b)=false:=Ae (fun q=>nomatch q)
def HG(a:Str)(b:Int):decide ((Sum.inr a:Key)=Sum.inl b)=false:=Ae (fun q=>nomatch q)
def ij(prog:Program)(w:World):PySem.KeyKind prog w Key where
 is:=sA
 hash:=LG w
 inj:=fun v a b ha hb=>by
  rcases cy ha with⟨i,t,rfl,rfl⟩|⟨x,t,rfl,rfl⟩
  ·rcases cy hb with⟨j,u,rfl,e⟩|⟨y,u,rfl,e⟩
   ·injection e with e1 _;rw[e1]
   ·exact nomatch e
  ·rcases cy hb with⟨j,u,rfl,e⟩|⟨y,u,rfl,e⟩
   ·exact nomatch e
   ·injection e with e1 _;rw[e1]
 byValue:=fun k v h=>by
  rcases cy h with⟨i,t,rfl,rfl⟩|⟨x,t,rfl,rfl⟩<;>rfl
 pyHash:=fun hv h=>by
  rcases cy hv with⟨i,t,rfl,rfl⟩|⟨x,t,rfl,rfl⟩
  ·exact wpAny_pyHash_int h
  ·exact wpAny_pyHash_str h
 eqBool:=fun hu hv h=>by
  rcases cy hu with⟨i,t,rfl,rfl⟩|⟨x,t,rfl,rfl⟩
  ·rcases cy hv with⟨j,u,rfl,rfl⟩|⟨y,u,rfl,rfl⟩
   ·rw[HD]at h;exact wpAny_eqBool_int h
   ·rw[HF]at h;exact Bk i t y u _ _ _ _ h
  ·rcases cy hv with⟨j,u,rfl,rfl⟩|⟨y,u,rfl,rfl⟩
   ·rw[HG]at h;exact Bj x t j u _ _ _ _ h
   ·rw[HE]at h;exact wpAny_eqBool_str h
 «strs»:=fun k x t v h=>by
  rcases cy h with⟨i,u,rfl,e⟩|⟨y,u,rfl,e⟩
  ·exact nomatch e
  ·injection e with e1 _
   subst e1;cases v<;>rfl
def u6(prog:Program)(w:World)(i:Int)(t:Tok):(ij prog w).is (.inl i) (.int i t)=true:=zm i t
def fV(prog:Program)(w:World)(x:Str)(t:Tok):(ij prog w).is (.inr x) (.str x t)=true:=zn x t
end L2
namespace L2
open PySem PySem.Spec PyProof.Rows
inductive V where
 | non|bl (b:Bool)|int (i:Int)|str (x:Str)|byt (b:Array UInt8)|flt (b:UInt64)|ref (a:Addr)|ty (n:String)
 deriving DecidableEq
def RelV:V->Value->Prop
 | .non,u=>u=Value.none
 | .bl b,u=>u=Value.bool b
 | .int i,u=>∃t,u=Value.int i t
 | .str x,u=>∃t,u=Value.str x t
 | .byt b,u=>∃t,u=Value.bytes b t
 | .flt b,u=>∃t,u=Value.float b t
 | .ref a,u=>u=Value.ref a
 | .ty n,u=>u=Value.type n
abbrev Vals:List V->List Value->Prop:=Paired RelV
theorem Vals.length{xs:List V}{us:List Value}(r:Vals xs us):xs.length=us.length:=Paired.length r
theorem Vals.get:∀{xs:List V}{us:List Value}{i:Nat}{x:V},Vals xs us->xs[i]?=some x->∃u,us[i]?=some u/\RelV x u
 | _,_,_,_,.nil,e=>by simp at e
 | _,_,0,_,.cons r _,e=>by simp at e;subst e;exact⟨_,rfl,r⟩
 | _,_,i+1,x,.cons _ t,e=>by
  obtain⟨u,h1,h2⟩:=Vals.get (i:=i) (x:=x) t (by simpa using e)
  exact⟨u,by simpa using h1,h2⟩
theorem Vals.set(r:RelV x u):∀{xs:List V}{us:List Value}(i:Nat),Vals xs us->Vals (xs.set i x) (us.set i u)
 | _,_,_,.nil=>.nil
 | _,_,0,.cons _ t=>.cons r t
 | _,_,i+1,.cons q t=>.cons q (Vals.set r i t)
theorem Vals.append:∀{xs ys:List V}{us ws:List Value},Vals xs us->Vals ys ws->Vals (xs++ys) (us++ws)
 | _,_,_,_,.nil,s=>s
 | _,_,_,_,.cons r t,s=>.cons r (Vals.append t s)
theorem Vals.take:∀{xs:List V}{us:List Value}(n:Nat),Vals xs us->Vals (xs.take n) (us.take n)
 | _,_,0,_=>.nil
 | _,_,_+1,.nil=>.nil
 | _,_,n+1,.cons r t=>.cons r (Vals.take n t)
theorem Vals.drop:∀{xs:List V}{us:List Value}(n:Nat),Vals xs us->Vals (xs.drop n) (us.drop n)
 | _,_,0,r=>r
 | _,_,_+1,.nil=>.nil
 | _,_,n+1,.cons _ t=>Vals.drop n t
def RelO:Option V->Option Value->Prop
 | some v,some u=>RelV v u
 | none,none=>True
 | _,_=>False
def KV{κ:Type}:List (κ×V)->List (κ×Value)->Prop:=Paired fun(p:κ×V) (q:κ×Value)=>p.1=q.1/\RelV p.2 q.2
def kV:Key->V
 | .inl i=>.int i
 | .inr x=>.str x
inductive HO where
  | lst (xs:List V)
  | tup (xs:List V)
  | dK (kvs:List (Key×V))|dT (ep:Nat×List Addr) (kvs:List (List Key×V))
  | set (S:Int->Bool) (n:Nat)
  | ins (C dx:Addr) (fs:List (Str×V))
  | own (x:Addr)
  | xd (fs:List (Str×V))
  | met (f x:Addr)
  | rng (lo hi:Int)
  | frz (o:Obj) (u:HO)
  | tbl (ps:Array Value)
  | ext (φ:Heap->Prop)
abbrev Hp:=Addr->Option HO
def upd(H:Hp)(a:Addr)(o:HO):Hp:=fun b=>if b=a then some o else H b
def b8:upd H a o a=some o:=by unfold upd;rw[Ag rfl]
def bd(h:b≠a):upd H a o b=H b:=by unfold upd;rw[Al h]
def bw{H:Hp}{a b:Addr}{o:HO}(h:H a=some o)(h':H b=none):a≠b:=by
 intro e;subst e;rw[h]at h';cases h'
section
variable (P:Program)(w:World)
def ObjOk(H:Hp)(h:Heap)(a:Addr):HO->Prop
 | .lst xs=>xs.length<=sizeLine/\∃(its:List Value)(n:Nat),Vals xs its/\h.get? a=some { cls:=.type "list",data:=.seq its.toArray n }
 | .tup xs=>xs.length<=sizeLine/\∃its:List Value,Vals xs its/\IsTup h a its.toArray
 | .dK kvs=>kvs.length<=sizeLine/\(a == sysModules)=false/\∃vs,KV kvs vs/\h.DictOf (ij P w) a vs
 | .dT ep kvs=>kvs.length<=sizeLine/\(a == sysModules)=false/\∃xs:List (List Key×Addr×Value),
   Paired (fun(p:List Key×V) (q:List Key×Addr×Value)=>p.1=q.1/\H q.2.1=some (.tup (p.1.map kV))/\RelV p.2 q.2.2) kvs xs /\
   xs.map (·.2.1)=ep.2/\∃o es,h.get? a=some o/\o.ExactDict/\o.data=.dict es ep.1/\es.toList=xs.map (entryOfKey (tupleKind (ij P w)))/\(xs.map (·.1)).Nodup
 | .set S n=>h.SetOf (intKind P w) a S n
 | .ins C dx fs=>H dx=some (.own a)/\fs.length<=1000/\dx≠a/\h.get? a=some (PySem.W.instObj C dx) /\
   ∃mA,h.Ns1 dx mA/\(∀f,RelO (fs.lookup f) (mA f))/\PySem.Within mA (fs.map (·.1))
 | .own _=>∃o,h.get? a=some o
 | .xd fs=>∃mA,h.Ns1 a mA/\∀f,RelO (fs.lookup f) (mA f)
 | .rng lo hi=>∃t u v,h.get? a=some { cls:=.type "range",data:=.fields #[.int lo t,.int hi u,.int 1 v] }
 | .frz o u=>h.get? a=some o/\ObjOk H h a u
 | .tbl ps=>h.get? a=some { cls:=.none,data:=.fields ps }
 | .met f x=>h.get? a=some (PySem.W.methodObj (.ref f) (.ref x))
 | .ext φ=>φ h/\(∃o,h.get? a=some o)/\∀h1 h2:Heap,φ h1->(∀o,h1.get? a=some o->h2.get? a=some o)->φ h2
def HOk(H:Hp)(h:Heap):Prop:=∀a o,H a=some o->ObjOk P w H h a o
end
section
variable {P:Program}{w:World}{H H':Hp}{h h':Heap}{a:Addr}{o:HO}
theorem ObjOk.lt(x:ObjOk P w H h a o):a<h.objs.size:=by
 cases o with
 | lst xs=>obtain⟨_,_,_,_,e⟩:=x;exact Aj e
 | tup xs=>obtain⟨_,_,_,p⟩:=x;exact p.lt
 | dK kvs=>obtain⟨_,_,_,_,o,_,_,e,_⟩:=x;exact Aj e
 | dT ep kvs=>obtain⟨_,_,_,_,_,o,_,e,_⟩:=x;exact Aj e
 | set S n=>obtain⟨o,_,_,_,e,_⟩:=x;exact Aj e
 | ins C dx fs=>obtain⟨_,_,_,e,_⟩:=x;exact Aj e
 | own y=>obtain⟨_,e⟩:=x;exact Aj e
 | xd fs=>obtain⟨_,⟨_,_,_,e,_⟩,_⟩:=x;exact Aj e
 | rng lo hi=>obtain⟨_,_,_,e⟩:=x;exact Aj e
 | frz ob u=>obtain⟨e,_⟩:=x;exact Aj e
 | tbl ps=>exact Aj (show h.get? a=some _ from x)
 | met f y=>exact Aj (show h.get? a=some _ from x)
 | ext φ=>obtain⟨_,⟨_,e⟩,_⟩:=x;exact Aj e
theorem Paired.mapP:∀{l₁:List α}{l₂:List β},Paired F l₁ l₂->(∀a b,F a b->G a b)->Paired G l₁ l₂
 | _,_,.nil,_=>.nil
 | _,_,.cons r t,f=>.cons (f _ _ r) (Paired.mapP t f)
def ObjOk.stay(x:ObjOk P w H h a o)(k:∀b u,(b=a∨H b=some (.own a))->h.get? b=some u->h'.get? b=some u)
  (ho:∀b,H b=some (.own a)->H' b=some (.own a))(ht:∀b xs,H b=some (.tup xs)->H' b=some (.tup xs)):ObjOk P w H' h' a o:=by
 induction o with
 | lst xs=>obtain⟨z,its,n,r,e⟩:=x;exact⟨z,its,n,r,k _ _ (.inl rfl) e⟩
 | tup xs=>obtain⟨z,its,r,ob,e,c⟩:=x;exact⟨z,its,r,ob,k _ _ (.inl rfl) e,c⟩
 | dK kvs=>obtain⟨z,y,vs,r,ob,es,ep,e,c⟩:=x;exact⟨z,y,vs,r,ob,es,ep,k _ _ (.inl rfl) e,c⟩
 | dT ep kvs =>
  obtain⟨z,y,xs,r,ra,ob,es,e,c⟩:=x;exact⟨z,y,xs,Paired.mapP r fun p q z=>⟨z.1,ht _ _ z.2.1,z.2.2⟩,ra,ob,es,k _ _ (.inl rfl) e,c⟩
 | set S n=>obtain⟨ob,es,ep,t,e,c⟩:=x;exact⟨ob,es,ep,t,k _ _ (.inl rfl) e,c⟩
 | ins C dx fs =>
  obtain⟨d,z,ne,e,mA,⟨od,es,ep,e2,c⟩,r⟩:=x;exact⟨ho _ d,z,ne,k _ _ (.inl rfl) e,mA,⟨od,es,ep,k _ _ (.inr d) e2,c⟩,r⟩
 | own y=>obtain⟨ob,e⟩:=x;exact⟨ob,k _ _ (.inl rfl) e⟩
 | xd fs=>obtain⟨mA,⟨od,es,ep,e,c⟩,r⟩:=x;exact⟨mA,⟨od,es,ep,k _ _ (.inl rfl) e,c⟩,r⟩
 | rng lo hi=>obtain⟨t,u,v,e⟩:=x;exact⟨t,u,v,k _ _ (.inl rfl) e⟩
 | frz ob u ih=>obtain⟨e,q⟩:=x;exact⟨k _ _ (.inl rfl) e,ih q⟩
 | tbl ps =>
  have e:h.get? a=some { cls:=.none,data:=.fields ps }:=x;show h'.get? a=some { cls:=.none,data:=.fields ps };exact k a _ (.inl rfl) e
 | met f y =>
  have e:h.get? a=some (PySem.W.methodObj (.ref f) (.ref y)):=x;show h'.get? a=some (PySem.W.methodObj (.ref f) (.ref y));exact k a _ (.inl rfl) e
 | ext φ=>obtain⟨p,⟨o,e⟩,st⟩:=x;exact⟨st _ _ p fun o q=>k _ _ (.inl rfl) q,⟨o,k _ _ (.inl rfl) e⟩,st⟩
theorem HOk.lt(x:HOk P w H h)(e:H a=some o):a<h.objs.size:=(x a o e).lt
theorem HOk.fresh(x:HOk P w H h)(e:h.objs.size<=a):H a=none:=by
 cases q:H a with
 | none=>rfl
 | some u=>exact absurd (Yc (x.lt q) e) (Zg _)
def HOk.kept(x:HOk P w H h)(k:∀b u,h.get? b=some u->h'.get? b=some u):HOk P w H h':=fun a o e =>
 (x a o e).stay (fun b u _ q=>k b u q) (fun _ q=>q) fun _ _ q=>q
def HOk.laid(x:HOk P w H h)(k:∀b u,h.get? b=some u->h'.get? b=some u)(hp:h.objs.size<=a)(new:ObjOk P w (upd H a o) h' a o):HOk P w (upd H a o) h':=fun b u e=>by
 have hn:=x.fresh hp;by_cases hb:b=a
 ·subst hb;rw[b8]at e;cases e;exact new
 ·rw[bd hb]at e;exact(x b u e).stay (fun c v _ q=>k c v q) (fun c q=>by rw[bd (bw q hn)];exact q) fun c xs q=>by rw[bd (bw q hn)];exact q
end
def Rd(H:Hp)(a:Addr)(u:HO):Prop:=H a=some u∨∃o,H a=some (.frz o u)
def Rd.ok(r:Rd H a u)(x:HOk P w H h):ObjOk P w H h a u:=by
 rcases r with r|⟨o,r⟩
 ·exact x a u r
 ·obtain⟨_,q⟩:=x a _ r;exact q
def Mut:Option HO->Prop
 | some (.lst _)=>True
 | some (.dK _)=>True
 | some (.dT _ _)=>True
 | some (.set _ _)=>True
 | some (.ins _ _ _)=>True
 | some (.ext _)=>True
 | _=>False
section
variable {P:Program}{w:World}{H:Hp}{h h':Heap}{x e:Addr}{o':HO}
def HOk.write(ok:HOk P w H h)(mu:Mut (H x))(he:e=x∨H e=some (.own x))(k:∀b u,b≠e->h.get? b=some u->h'.get? b=some u)(heo:∃u,h'.get? e=some u)
  (new:ObjOk P w (upd H x o') h' x o'):HOk P w (upd H x o') h':=fun b u q=>by
 have nown:∀c y,H c=some (.own y)->c≠x:=fun c y r z=>by subst z;rw[r]at mu;exact mu
 have ntup:∀c xs,H c=some (.tup xs)->c≠x:=fun c xs r z=>by subst z;rw[r]at mu;exact mu
 by_cases hb:b=x
 ·subst hb;rw[b8]at q;cases q;exact new
 ·rw[bd hb]at q;by_cases hbe:b=e
  ·have q':H b=some (.own x):=by
    rcases he with z|z
    ·exact absurd (hbe.trans z) hb
    ·rw[hbe];exact z
   rw[q]at q';cases q';obtain⟨v,hv⟩:=heo;exact⟨v,by rw[hbe];exact hv⟩
  ·refine(ok b u q).stay (fun c v hc r=>k c v ?_ r) (fun c r=>by rw[bd (nown c b r)];exact r) fun c xs r=>by rw[bd (ntup c xs r)];exact r
   rcases hc with rfl|hc
   ·exact hbe
   ·rintro rfl;rcases he with z|z
    ·exact nown c b hc z
    ·rw[hc]at z;cases z;exact hb rfl
end
structure Un(fs ex:List Addr)(H H':Hp)(h h':Heap):Prop where
 keep:∀b o,h.get? b=some o->H b=none->b∉fs->b∉ex->h'.get? b=some o
 slot:∀b o,h.get? b=some o->H b=none->b∈fs->b∉ex->∃sl,h'.get? b=some { o with slots:=sl }
 free:∀b o,h.get? b=some o->H b=none->b∉ex->H' b=none
 there:∀b o,h.get? b=some o->b∉ex->∃o',h'.get? b=some o'
 tups:∀b xs,H b=some (.tup xs)->H' b=some (.tup xs)
 frzs:∀b o u,H b=some (.frz o u)->H' b=some (.frz o u)
 tbls:∀b ps,H b=some (.tbl ps)->∃more,H' b=some (.tbl (ps++more))
section
variable {fs fs' ex ex':List Addr}{H H1 H2:Hp}{h h1 h2 h':Heap}{a x e:Addr}{o:HO}
def Un.any(u:Un fs ex H H1 h h1)(q:h.get? b=some ob)(n:H b=none)(hx:b∉ex):∃sl,h1.get? b=some { ob with slots:=sl }:=by
 by_cases hb:b∈fs
 ·exact u.slot b ob q n hb hx
 ·exact⟨ob.slots,u.keep b ob q n hb hx⟩
def Un.kept(k:∀b u,h.get? b=some u->h'.get? b=some u):Un fs ex H H h h' :=
 ⟨fun b ob q _ _ _=>k b ob q,fun b ob q _ _ _=>⟨ob.slots,k b ob q⟩,fun _ _ _ n _=>n,fun b ob q _=>⟨ob,k b ob q⟩,fun _ _ q=>q,fun _ _ _ q=>q,fun _ ps q=>⟨#[],by rw[q];simp⟩⟩
def Un.refl:Un fs ex H H h h:=Un.kept fun _ _ q=>q
def Un.laid(k:∀b u,h.get? b=some u->h'.get? b=some u)(hp:h.objs.size<=a)(hn:H a=none):Un fs ex H (upd H a o) h h' where
 keep:=fun b u q _ _ _=>k b u q
 slot:=fun b u q _ _ _=>⟨u.slots,k b u q⟩
 free:=fun b u q n _=>by rw[bd (Vf (Yc (Aj q) hp))];exact n
 there:=fun b u q _=>⟨u,k b u q⟩
 tups:=fun b xs q=>by rw[bd (bw q hn)];exact q
 frzs:=fun b u xs q=>by rw[bd (bw q hn)];exact q
 tbls:=fun b ps q=>⟨#[],by rw[bd (bw q hn),q];simp⟩
def Un.write(mu:Mut (H x))(he:e=x∨H e=some (.own x))(k:∀b u,b≠e->h.get? b=some u->h'.get? b=some u)(heo:∃u,h'.get? e=some u):Un fs ex H (upd H x o) h h':=by
 have hx:∀b,H b=none->b≠x:=fun b n z=>by subst z;rw[n]at mu;exact mu
 have hb:∀b,H b=none->b≠e:=fun b n z=>by
  subst z;rcases he with r|r
  ·exact hx b n r
  ·rw[n]at r;cases r
 have hm:∀b u,H b=some u->¬ Mut (some u)->b≠x:=fun b u q nm z=>by subst z;rw[q]at mu;exact nm mu
 refine⟨fun b u q n _ _=>k b u (hb b n) q,fun b u q n _ _=>⟨u.slots,k b u (hb b n) q⟩,fun b u q n _=>by rw[bd (hx b n)];exact n,fun b u q _=>?_,
  fun b xs q=>by rw[bd (hm b _ q fun z=>z)];exact q,fun b u xs q=>by rw[bd (hm b _ q fun z=>z)];exact q,fun b ps q=>⟨#[],by rw[bd (hm b _ q fun z=>z),q];simp⟩⟩
 by_cases hbe:b=e
 ·subst hbe;exact heo
 ·exact⟨u,k b u hbe q⟩
end
def trk(h:Heap)(H:Hp):List Addr:=(List.range h.objs.size).filter fun a=>(H a).isSome
def tF(h:Heap)(H:Hp):Heap:=PySem.W.hideAll h (trk h H)
def zo(h:Heap)(H:Hp):(tF h H).objs.size=h.objs.size:=PySem.W.hideAll_size _ _
def CB{h:Heap}(e:h.get? b=some o)(n:H b=none):(tF h H).get? b=some o :=
 PySem.W.hideAll_get _ e fun hm=>by
  have q:(H b).isSome=true:=(List.mem_filter.mp hm).2;rw[n]at q;simp at q
theorem Fm{h:Heap}(e:(tF h H).get? b=some o):h.get? b=some o/\H b=none:=by
 have e':h.get? b=some o:=PySem.W.of_hideAll (trk h H) e;refine⟨e',?_⟩;cases q:H b with
 | none=>rfl
 | some x =>
  have hm:b∈trk h H:=List.mem_filter.mpr ⟨Xh.mpr (Aj e'),by simp[q]⟩
  have z:(tF h H).get? b=none:=PySem.W.hideAll_none (trk h H) hm;rw[z]at e;cases e
end L2
namespace L2
open PySem PySem.Spec PyProof.Rows
structure Mod(K:Aa)(mg:Str->Option Value)(base:Heap):Prop where
 kin:K.In base
 glob:base.Ns mainGlobals mg
 blt:∃mb,base.Ns builtinsNs mb/\∀x:Str,x≠"__name__"->mb x=bootBuiltins x
 nolimit:base.NoLimit
structure Cx where
 prog:Program
 w:World
 K:Aa
 mg:Str->Option Value
 base:Heap
 A:Around
 N:List Str
 s₀:Shared
 H₀:Hp
 env:Env
 outer:List Env
 stack:List Env
 ex:List Addr
 fn:Str->Bool
 calm:Bool
 pn:List (Addr×Obj)
 xe:Value->Shared->Prop
def frs(l:List Env):List Addr:=l.filterMap (·.frame)
abbrev Cx.fs(X:Cx):List Addr:=frs X.outer
def Vis(sc:Scope)(x:Str):Prop:=sc.names.lookup x=some .local∨sc.names.lookup x=some .cell∨sc.names.lookup x=some .free
def Loc(sc:Scope)(x:Str):Prop:=sc.names.lookup x=some .local∨sc.names.lookup x=some .cell
def Look(env:Env)(h:Heap)(m:Str->Option Value)(x:Str)(u:Value):Prop :=
 (env.kindOf x=some .local/\m x=some u)∨((env.kindOf x=some .cell∨env.kindOf x=some .free)/\∃c,env.cells.lookup x=some c/\h.IsCell c (some u))
structure Cx.Ok(X:Cx):Prop where
 mod:Mod X.K X.mg X.base
 kind:X.env.scope.kind=.function
 glob:X.env.globals=mainGlobals
 blt:X.env.builtins=builtinsNs
 above:X.s₀.heap.objs.size<=X.env.locals
 inj:∀x y c,X.env.cells.lookup x=some c->X.env.cells.lookup y=some c->x=y
 has:∀x,(X.env.kindOf x=some .cell∨X.env.kindOf x=some .free)->∃c,X.env.cells.lookup x=some c
 cab:∀x c,X.fn x=true->X.env.cells.lookup x=some c->X.s₀.heap.objs.size<=c
 hd:X.calm=true->X.A.handled=none
 frames:X.A.frames=some X.stack
 stk:X.stack=X.outer∨(X.stack=X.env::X.outer/\X.env.frame=some X.env.locals)
 exf:∀b∈X.ex,b≠X.env.locals/\∀x c,X.env.cells.lookup x=some c->c≠b
 bs:∀b o,X.base.get? b=some o->X.s₀.heap.get? b=some o/\X.H₀ b=none
 bsz:X.base.objs.size<=X.s₀.heap.objs.size
 noex:∀b o,X.base.get? b=some o->b∉X.ex
 exfs:∀b∈X.ex,b∉X.fs
 funs:X.s₀.heap.FunFrames X.base X.outer
 frf:∀b∈X.fs,X.H₀ b=none
structure Inv(X:Cx)(pins:List (Addr×Obj))(σ:List (Option V))(H:Hp)(s:Shared):Prop where
 ok:X.Ok
 os:s.os=X.s₀.os
 bare:AllBare s.gens
 base:Un X.fs X.ex X.H₀ H X.s₀.heap s.heap
 loc:∃m,s.heap.Ns X.env.locals m/\∀(i:Nat)(x:Str)(v:V),X.N[i]?=some x->σ[i]?=some (some v)->Vis X.env.scope x->∃u,RelV v u/\Look X.env s.heap m x u
 cell:∀x c,X.env.cells.lookup x=some c->∃v,s.heap.IsCell c v
 free:H X.env.locals=none
 freeC:∀x c,X.env.cells.lookup x=some c->H c=none
 pin:∀p∈X.pn++pins,s.heap.get? p.1=some p.2/\H p.1=none/\p.1≠X.env.locals/\p.1∉X.fs/\∀v,p.2.data≠.cell v
 hok:HOk X.prog X.w H s.heap
 len:σ.length=X.N.length
section
variable {X:Cx}{pins:List (Addr×Obj)}{σ:List (Option V)}{H H':Hp}{s:Shared}{h':Heap}
def Cx.Ok.nofr(ok:X.Ok)(e:X.base.get? b=some o):b∉X.fs:=fun hb=>by
 have:=(ok.funs.mem hb).1;rw[e]at this;cases this
theorem Inv.bs(I:Inv X pins σ H s):∀b o,X.base.get? b=some o->s.heap.get? b=some o/\H b=none:=fun b o e =>
 ⟨I.base.keep b o (I.ok.bs b o e).1 (I.ok.bs b o e).2 (I.ok.nofr e) (I.ok.noex b o e),I.base.free b o (I.ok.bs b o e).1 (I.ok.bs b o e).2 (I.ok.noex b o e)⟩
def Inv.bk(I:Inv X pins σ H s):∀b o,X.base.get? b=some o->s.heap.get? b=some o:=fun b o e=>(I.bs b o e).1
theorem Inv.mod(I:Inv X pins σ H s):Mod X.K X.mg X.base:=I.ok.mod
def Inv.kIn(I:Inv X pins σ H s):X.K.In s.heap:=I.ok.mod.kin.keeps I.bk
theorem Inv.lt(I:Inv X pins σ H s):X.env.locals<s.heap.objs.size:=let ⟨_,hn,_⟩:=I.loc;hn.lt
def Inv.sz(I:Inv X pins σ H s):X.s₀.heap.objs.size<=s.heap.objs.size:=Wc I.ok.above (Vk I.lt)
def Inv.nofs(I:Inv X pins σ H s)(h:s.heap.objs.size<=a):a∉X.fs:=fun hb=>by
 obtain⟨_,o,ho,_⟩:=I.ok.funs.mem hb;exact absurd (Yc (Aj ho) (Wc I.sz h)) (Zg _)
def Inv.cne(I:Inv X pins σ H s):∀x c,X.env.cells.lookup x=some c->c≠X.env.locals:=fun x c e z=>by
 obtain⟨v,o,ho,hd⟩:=I.cell x c e;obtain⟨m,⟨o',es,ep,ho',hd',_⟩,_⟩:=I.loc;rw[z,ho']at ho;cases ho;rw[hd']at hd;cases hd
theorem Inv.funs(I:Inv X pins σ H s):s.heap.FunFrames X.base X.outer:=by
 have all:∀(l:List Env),(∀b∈frs l,b∈X.fs)->X.s₀.heap.FunFrames X.base l->s.heap.FunFrames X.base l:=by
  intro l;induction l with
  | nil=>intro _ _;trivial
  | cons env r ih =>
   intro hs hl;obtain⟨hk,⟨L,o,hf,hn,ho,hd⟩,hr⟩:=hl;have hL:L∈X.fs:=hs L (by unfold frs;rw[Bc,hf];exact Zc)
   obtain⟨sl,e⟩:=I.base.slot L o ho (I.ok.frf L hL) hL fun z=>I.ok.exfs L z hL;exact⟨hk,⟨L,_,hf,hn,e,hd⟩,ih (fun b hb=>hs b (by unfold frs;rw[Bc,hf];exact Vb _ hb)) hr⟩
 exact all X.outer (fun _ hb=>hb) I.ok.funs
theorem Inv.stack(I:Inv X pins σ H s):s.heap.FunFrames X.base X.stack:=by
 rcases I.ok.stk with e|⟨e,hf⟩
 ·rw[e];exact I.funs
 ·rw[e];obtain⟨m,hn,_⟩:=I.loc;refine .cons (by rw[I.ok.kind];decide) hf hn ?_ I.funs
  exact Heap.get?_none_of_le (Wc I.ok.bsz I.ok.above)
def Inv.stkSub(I:Inv X pins σ H s):∀b∈frs X.stack,b∈X.env.locals::X.fs:=fun b hb=>by
 rcases I.ok.stk with e|⟨e,hf⟩
 ·rw[e]at hb;exact Vb _ hb
 ·rw[e]at hb;unfold frs at hb;rw[Bc,hf]at hb;exact hb
def Inv.stkFree(I:Inv X pins σ H s):∀b∈frs X.stack,H b=none:=fun b hb=>by
 rcases Va.mp (I.stkSub b hb) with e|hb
 ·rw[e];exact I.free
 ·obtain⟨_,o,ho,_⟩:=I.ok.funs.mem hb;exact I.base.free b o ho (I.ok.frf b hb) fun z=>I.ok.exfs b z hb
def Inv.step{g':Array GenState}{t':Nat}{d':Drawn}{ch:List Addr}(I:Inv X pins σ H s)
  (hch:∀b∈ch,(b∈X.ex∨X.s₀.heap.objs.size<=b)/\b≠X.env.locals/\(∀x c,X.env.cells.lookup x=some c->c≠b)/\∀p∈X.pn++pins,p.1≠b)
  (keep:∀b o,b≠X.env.locals->b∉X.fs->b∉ch->s.heap.get? b=some o->H b=none->h'.get? b=some o)
  (slot:∀b o,b≠X.env.locals->b∈X.fs->b∉ch->s.heap.get? b=some o->H b=none->∃sl,h'.get? b=some { o with slots:=sl }) (free:∀b o,b∉ch->s.heap.get? b=some o->H b=none->H' b=none)
  (there:∀b o,b∉ch->s.heap.get? b=some o->∃o',h'.get? b=some o')
  (tups:∀b xs,H b=some (.tup xs)->H' b=some (.tup xs)) (frzs:∀b o u,H b=some (.frz o u)->H' b=some (.frz o u)) (tbls:∀b ps,H b=some (.tbl ps)->∃more,H' b=some (.tbl (ps++more)))
  (ns:∀m,s.heap.Ns X.env.locals m->h'.Ns X.env.locals m) (hok:HOk X.prog X.w H' h') (hg:AllBare g') :
  Inv X pins σ H' { s with heap:=h',gens:=g',drawn:=d',toks:=t' }:=by
 have neL:∀b o,X.s₀.heap.get? b=some o->b≠X.env.locals:=fun b o e=>Vf (Yc (Aj e) I.ok.above);have neC:∀b o,X.s₀.heap.get? b=some o->b∉X.ex->b∉ch:=fun b o e hx hb=>by
  rcases(hch b hb).1 with z|z
  ·exact hx z
  ·exact absurd (Yc (Aj e) z) (Zg _)
 have cellK:∀x c,X.env.cells.lookup x=some c->∀v,s.heap.IsCell c v->h'.IsCell c v:=fun x c e v ⟨o,ho,hd⟩=>by
  have nch:c∉ch:=fun z=>(hch c z).2.2.1 x c e rfl;by_cases hc:c∈X.fs
  ·obtain⟨sl,q⟩:=slot c o (I.cne x c e) hc nch ho (I.freeC x c e);exact⟨_,q,hd⟩
  ·exact⟨o,keep c o (I.cne x c e) hc nch ho (I.freeC x c e),hd⟩
 refine⟨I.ok,I.os,hg,⟨fun b o e n hb hx=>?_,fun b o e n hb hx=>?_,fun b o e n hx=>?_,fun b o e hx=>?_,fun b xs e=>tups b xs (I.base.tups b xs e),fun b o xs e=>frzs b o xs (I.base.frzs b o xs e),fun b ps e=>?_⟩,?_,fun x c e=>?_,?_,fun x c e=>?_,fun p hp=>?_,hok,I.len⟩
 ·exact keep b o (neL b o e) hb (neC b o e hx) (I.base.keep b o e n hb hx) (I.base.free b o e n hx)
 ·obtain⟨sl,e1⟩:=I.base.slot b o e n hb hx;obtain⟨sl',e2⟩:=slot b _ (neL b o e) hb (neC b o e hx) e1 (I.base.free b o e n hx);exact⟨sl',e2⟩
 ·obtain⟨o',e1⟩:=I.base.there b o e hx;exact free b o' (neC b o e hx) e1 (I.base.free b o e n hx)
 ·obtain⟨o',e1⟩:=I.base.there b o e hx;exact there b o' (neC b o e hx) e1
 ·obtain⟨m1,e1⟩:=I.base.tbls b ps e;obtain⟨m2,e2⟩:=tbls b _ e1;exact⟨m1++m2,by rw[e2,Array.append_assoc]⟩
 ·obtain⟨m,hn,hl⟩:=I.loc;refine⟨m,ns m hn,fun i x v e1 e2 e3=>?_⟩;obtain⟨u,r,l⟩:=hl i x v e1 e2 e3;refine⟨u,r,?_⟩;rcases l with l|⟨k,c,e,z⟩
  ·exact .inl l
  ·exact .inr ⟨k,c,e,cellK x c e _ z⟩
 ·obtain⟨v,z⟩:=I.cell x c e;exact⟨v,cellK x c e v z⟩
 ·obtain⟨m,⟨o,_,_,ho,_⟩,_⟩:=I.loc;exact free _ o (fun z=>(hch _ z).2.1 rfl) ho I.free
 ·obtain⟨v,o,ho,hd⟩:=I.cell x c e;exact free c o (fun z=>(hch c z).2.2.1 x c e rfl) ho (I.freeC x c e)
 ·obtain⟨e,n,ne,nf,d⟩:=I.pin p hp;have nch:p.1∉ch:=fun z=>(hch p.1 z).2.2.2 p hp rfl;exact⟨keep p.1 p.2 ne nf nch e n,free p.1 p.2 nch e n,ne,nf,d⟩
def Inv.un{t':Nat}(I:Inv X pins σ H s)(u:Un X.fs [] H H' s.heap h')(hok:HOk X.prog X.w H' h'):Inv X pins σ H' { s with heap:=h',toks:=t' }:=by
 obtain⟨m,⟨o,es,ep,ho,r⟩,_⟩:=id I.loc;obtain⟨sl,hL⟩:=u.any ho I.free (by simp)
 exact I.step (g':=s.gens) (d':=s.drawn) (ch:=[]) (fun _ z=>nomatch z) (fun b o _ hb _ e n=>u.keep b o e n hb (by simp)) (fun b o _ hb _ e n=>u.slot b o e n hb (by simp)) (fun b o _ e n=>u.free b o e n (by simp)) (fun b o _ e=>u.there b o e (by simp)) u.tups u.frzs u.tbls (fun m' hm=>by
  obtain⟨o',es',ep',ho',r'⟩:=hm;rw[ho]at ho';cases ho'
  exact⟨_,es',ep',hL,r'⟩) hok I.bare
def Inv.call{g':Array GenState}{t':Nat}{d':Drawn}{ch:List Addr}(I:Inv X pins σ H s)(u:Un (frs X.stack) ch H H' s.heap h')(hok:HOk X.prog X.w H' h')(hg:AllBare g')
  (hch:∀b∈ch,(b∈X.ex∨X.s₀.heap.objs.size<=b)/\b≠X.env.locals/\(∀x c,X.env.cells.lookup x=some c->c≠b)/\∀p∈X.pn++pins,p.1≠b) :
  Inv X pins σ H' { s with heap:=h',gens:=g',drawn:=d',toks:=t' }:=by
 obtain⟨m,⟨o,es,ep,ho,r⟩,_⟩:=id I.loc;obtain⟨sl,hL⟩:=u.any ho I.free fun z=>(hch _ z).2.1 rfl
 exact I.step (ch:=ch) hch (fun b o hL hb hc e n=>u.keep b o e n (fun z=>(Va.mp (I.stkSub b z)).elim hL hb) hc) (fun b o _ _ hc e n=>u.any e n hc) (fun b o hc e n=>u.free b o e n hc) (fun b o hc e=>u.there b o e hc) u.tups u.frzs u.tbls (fun m' hm=>by
  obtain⟨o',es',ep',ho',r'⟩:=hm;rw[ho]at ho';cases ho'
  exact⟨_,es',ep',hL,r'⟩) hok hg
def Inv.turned{t':Nat}{it:Addr}(I:Inv X pins σ H s)(k:∀b o,b≠it->s.heap.get? b=some o->h'.get? b=some o)(hn:H it=none)(hL:it≠X.env.locals)
  (h1:it∈X.ex∨X.s₀.heap.objs.size<=it)(h2:∀x c,X.env.cells.lookup x=some c->c≠it)(h3:∀p∈X.pn++pins,p.1≠it):Inv X pins σ H { s with heap:=h',toks:=t' }:=by
 have nit:∀b u,H b=some u->b≠it:=fun b u e z=>by rw[z,hn]at e;cases e
 refine I.step (g':=s.gens) (d':=s.drawn) (ch:=[it]) (fun b hb=>?_) (fun b o _ _ hc e _=>k b o (fun z=>hc (by simp[z])) e) (fun b o _ _ hc e _=>⟨o.slots,k b o (fun z=>hc (by simp[z])) e⟩) (fun _ _ _ _ n=>n)
  (fun b o hc e=>⟨o,k b o (fun z=>hc (by simp[z])) e⟩) (fun _ _ e=>e) (fun _ _ _ e=>e) (fun b ps e=>⟨#[],by rw[e];simp⟩) (fun m hm=>?_) (fun b u e=>?_) I.bare
 ·have e:b=it:=by simpa using hb
  subst e;exact⟨h1,hL,h2,h3⟩
 ·obtain⟨o,es,ep,ho,r⟩:=hm;exact⟨o,es,ep,k _ o (AC hL) ho,r⟩
 ·refine(I.hok b u e).stay (fun c v hc q=>k c v ?_ q) (fun _ q=>q) fun _ _ q=>q;rcases hc with z|z
  ·rw[z];exact nit b u e
  ·exact nit c _ z
def Inv.tok(I:Inv X pins σ H s)(t:Nat):Inv X pins σ H { s with toks:=t }:=I.un (h':=s.heap) (t':=t) Un.refl I.hok
theorem Inv.kept{t':Nat}(I:Inv X pins σ H s)(k:∀b u,s.heap.get? b=some u->h'.get? b=some u):Inv X pins σ H { s with heap:=h',toks:=t' }:=I.un (Un.kept k) (I.hok.kept k)
theorem Inv.laid{t':Nat}(I:Inv X pins σ H s)(k:∀b u,s.heap.get? b=some u->h'.get? b=some u)(hp:s.heap.objs.size<=a)(new:ObjOk X.prog X.w (upd H a o) h' a o) :
  Inv X pins σ (upd H a o) { s with heap:=h',toks:=t' }:=I.un (Un.laid k hp (I.hok.fresh hp)) (I.hok.laid k hp new)
theorem Inv.write{t':Nat}(I:Inv X pins σ H s)(mu:Mut (H x))(he:e=x∨H e=some (.own x))(k:∀b u,b≠e->s.heap.get? b=some u->h'.get? b=some u)(heo:∃u,h'.get? e=some u)
  (new:ObjOk X.prog X.w (upd H x o) h' x o):Inv X pins σ (upd H x o) { s with heap:=h',toks:=t' }:=I.un (Un.write mu he k heo) (I.hok.write mu he k heo new)
def Inv.weak{σ':List (Option V)}(I:Inv X pins σ H s)(hl:σ'.length=σ.length)(w:∀(i:Nat) v,σ'[i]?=some (some v)->σ[i]?=some (some v)):Inv X pins σ' H s :=
 ⟨I.ok,I.os,I.bare,I.base,let ⟨m,hn,hl'⟩:=I.loc;⟨m,hn,fun i x v e1 e2 e3=>hl' i x v e1 (w i v e2) e3⟩,I.cell,I.free,I.freeC,I.pin,I.hok,hl.trans I.len⟩
def Inv.pins_of(I:Inv X pins σ H s)(h:∀p∈pins',s.heap.get? p.1=some p.2/\H p.1=none/\p.1≠X.env.locals/\p.1∉X.fs/\∀v,p.2.data≠.cell v):Inv X pins' σ H s :=
 ⟨I.ok,I.os,I.bare,I.base,I.loc,I.cell,I.free,I.freeC,fun p hp=>(Ze.mp hp).elim (fun z=>I.pin p (Yk _ z)) (h p),I.hok,I.len⟩
def u7{N:List Str}(hN:N.Nodup){i j:Nat}{x:Str}(a:N[i]?=some x)(b:N[j]?=some x):i=j:=by
 obtain⟨h1,e1⟩:=Xd.mp a;obtain⟨h2,e2⟩:=Xd.mp b;exact(BC hN).mp (e1.trans e2.symm)
def sB{M:Model}{A:Around}{E:Value->Shared->Prop}{i:Nat}{x:Str}{v:V}{u:Value}{Q:Unit->Shared->Prop}(I:Inv X pins σ H s)(hN:X.N.Nodup)(hi:X.N[i]?=some x)(hx:Loc X.env.scope x)(r:RelV v u)
  (h:∀s',Inv X pins (σ.set i (some v)) H s'->(∃a,Heap.SameBut a s.heap s'.heap/\(a=X.env.locals∨X.env.cells.lookup x=some a))->Q () s')(hf:X.fn x=true∨X.env.scope.names.lookup x=some .local:=by first|exact .inl rfl|exact .inr rfl|assumption):wpAny M A (storeName X.env x u) Q E s:=by
 obtain⟨m,hn,hl⟩:=id I.loc;have hcls:(X.env.scope.kind == .class||(X.env.scope.kind == .module&&X.env.locals != X.env.globals))=false:=by rw[I.ok.kind];rfl
 have hiσ:i<σ.length:=by rw[I.len];exact(Xd.mp hi).1
 have cne:=I.cne;have tracked:∀{a:Addr}{h':Heap},(∃o,s.heap.get? a=some o/\H a=none)->Heap.SameBut a s.heap h'->HOk X.prog X.w H h':=fun {a h'} ha hs b ob e=>by
  obtain⟨_,_,hfree⟩:=ha;refine(I.hok b ob e).stay (fun c w' hc q=>(hs.2 c ?_).trans q) (fun _ q=>q) fun _ _ q=>q;rintro rfl;rcases hc with rfl|hc
  ·rw[hfree]at e;cases e
  ·rw[hfree]at hc;cases hc
 rcases hx with hk|hk
 ·refine wpAny_storeName_local hk hn (fun h' hn' hs=>?_) hcls;obtain⟨oL,_,_,hoL,_⟩:=id hn;refine h _ ⟨I.ok,I.os,I.bare,⟨fun b o e n hb hx=>?_,fun b o e n hb hx=>?_,I.base.free,fun b o e hx=>?_,I.base.tups,I.base.frzs,I.base.tbls⟩,⟨_,hn',fun j y v' e1 e2 e3=>?_⟩,fun y c e=>?_,I.free,I.freeC,fun p hp=>?_,tracked ⟨oL,hoL,I.free⟩ hs,by simpa using I.len⟩ ⟨_,hs,.inl rfl⟩
  ·exact(hs.2 b (Vf (Yc (Aj e) I.ok.above))).trans (I.base.keep b o e n hb hx)
  ·obtain⟨sl,e1⟩:=I.base.slot b o e n hb hx;exact⟨sl,(hs.2 b (Vf (Yc (Aj e) I.ok.above))).trans e1⟩
  ·obtain⟨o',e1⟩:=I.base.there b o e hx;exact⟨o',(hs.2 b (Vf (Yc (Aj e) I.ok.above))).trans e1⟩
  ·by_cases hj:j=i
   ·subst hj;rw[hi]at e1;cases e1;rw[BW hiσ]at e2;cases e2;exact⟨u,r,.inl ⟨hk,by simp⟩⟩
   ·rw[List.getElem?_set_ne (AC hj)]at e2;obtain⟨u',r',q⟩:=hl j y v' e1 e2 e3;refine⟨u',r',?_⟩;rcases q with⟨k,e⟩|⟨k,c,e,z⟩
    ·refine .inl ⟨k,?_⟩;have:y≠x:=fun e=>hj (u7 hN e1 (e ▸ hi));simp[this,e]
    ·exact .inr ⟨k,c,e,z.sameBut hs (cne y c e)⟩
  ·obtain⟨w',z⟩:=I.cell y c e;exact⟨w',z.sameBut hs (cne y c e)⟩
  ·obtain⟨e,n,ne,nf,d⟩:=I.pin p hp;exact⟨(hs.2 p.1 ne).trans e,n,ne,nf,d⟩
 ·have hfn:X.fn x=true:=by
   rcases hf with z|z
   ·exact z
   ·rw[z]at hk;cases hk
  obtain⟨c,hc⟩:=I.ok.has x (.inl hk);obtain⟨w',z⟩:=I.cell x c hc;refine wpAny_storeName_cell I.ok.kind hk hc z (fun h' hc' hs=>?_);obtain⟨oc,hoc,hocd⟩:=id z;refine h { s with heap:=h' } ⟨I.ok,I.os,I.bare,⟨fun b o e n hb hx=>?_,fun b o e n hb hx=>?_,I.base.free,fun b o e hx=>?_,I.base.tups,I.base.frzs,I.base.tbls⟩,⟨m,hn.sameBut hs (AC (cne x c hc)),fun j y v' e1 e2 e3=>?_⟩,fun y c' e=>?_,I.free,I.freeC,fun p hp=>?_,tracked ⟨oc,hoc,I.freeC x c hc⟩ hs,by simpa using I.len⟩ ⟨c,hs,.inr hc⟩
  ·exact(hs.2 b (Vf (Yc (Aj e) (I.ok.cab x c hfn hc)))).trans (I.base.keep b o e n hb hx)
  ·obtain⟨sl,e1⟩:=I.base.slot b o e n hb hx;exact⟨sl,(hs.2 b (Vf (Yc (Aj e) (I.ok.cab x c hfn hc)))).trans e1⟩
  ·obtain⟨o',e1⟩:=I.base.there b o e hx;exact⟨o',(hs.2 b (Vf (Yc (Aj e) (I.ok.cab x c hfn hc)))).trans e1⟩
  ·by_cases hj:j=i
   ·subst hj;rw[hi]at e1;cases e1;rw[BW hiσ]at e2;cases e2;exact⟨u,r,.inr ⟨.inl hk,c,hc,hc'⟩⟩
   ·rw[List.getElem?_set_ne (AC hj)]at e2;obtain⟨u',r',q⟩:=hl j y v' e1 e2 e3;refine⟨u',r',?_⟩;rcases q with q|⟨k,c',e,z'⟩
    ·exact .inl q
    ·refine .inr ⟨k,c',e,z'.sameBut hs ?_⟩;rintro rfl;exact hj (u7 hN e1 (I.ok.inj _ _ _ e hc ▸ hi))
  ·by_cases hcc:c'=c
   ·subst hcc;exact⟨_,hc'⟩
   ·obtain⟨w2,z2⟩:=I.cell y c' e;exact⟨w2,z2.sameBut hs hcc⟩
  ·obtain⟨e,n,ne,nf,d⟩:=I.pin p hp;refine⟨(hs.2 p.1 ?_).trans e,n,ne,nf,d⟩;intro q;rw[q,hoc]at e;have q':oc=p.2:=Option.some.inj e;exact d w' (by rw[← q'];exact hocd)
def CC(I:Inv X pins σ H s)(hN:X.N.Nodup)(hi:X.N[i]?=some x)(hx:Loc X.env.scope x)(r:RelV v u)
  (h:∀s',Inv X pins (σ.set i (some v)) H s'->Q () s')(hf:X.fn x=true∨X.env.scope.names.lookup x=some .local:=by first|exact .inl rfl|exact .inr rfl|assumption):wpAny M A (storeName X.env x u) Q E s :=
 sB I hN hi hx r (fun s' I' _=>h s' I') hf
def Inv.call'{s':Shared}(I:Inv X pins σ H s)(ho:s'.os=s.os)(u:Un (frs X.stack) ch H H' s.heap s'.heap)(hok:HOk X.prog X.w H' s'.heap)(hg:AllBare s'.gens)
  (hch:∀b∈ch,(b∈X.ex∨X.s₀.heap.objs.size<=b)/\b≠X.env.locals/\(∀x c,X.env.cells.lookup x=some c->c≠b)/\∀p∈X.pn++pins,p.1≠b):Inv X pins σ H' s':=by
 obtain⟨h',g',d',t',o'⟩:=s';have e:o'=s.os:=ho;subst e;exact I.call (g':=g') (t':=t') (d':=d') u hok hg hch
end
abbrev XK:=Value->Option Addr->Hp->Prop
abbrev St:=List (Option V)
abbrev VK:=V->Hp->Prop
abbrev TE:=St->Hp->VK->Prop
abbrev TT:=St->Hp->(Bool->Hp->Prop)->Prop
abbrev TA:=St->Hp->(List V->Hp->Prop)->Prop
structure Ends where
 nx:St->Hp->Prop
 rt:VK
 bk:St->Hp->Prop:=fun _ _=>False
 ct:St->Hp->Prop:=fun _ _=>False
abbrev TS:=Ends->St->Hp->Prop
inductive EP(X:Cx)(pins:List (Addr×Obj))(σ:St)(Q:VK)(u:Value)(s':Shared):Prop
 | mk (v:V) (H':Hp) (I:Inv X pins σ H' s') (r:RelV v u) (q:Q v H')
def TP(X:Cx)(pins:List (Addr×Obj))(σ:St)(Q:Bool->Hp->Prop)(b:Bool)(s':Shared):Prop:=∃H',Inv X pins σ H' s'/\Q b H'
inductive AP(X:Cx)(pins:List (Addr×Obj))(σ:St)(Q:List V->Hp->Prop)(us:List Value)(s':Shared):Prop
 | mk (vs:List V) (H':Hp) (I:Inv X pins σ H' s') (r:Vals vs us) (q:Q vs H')
def SP(X:Cx)(pins:List (Addr×Obj))(D:Ends)(f:Flow)(s':Shared):Prop :=
 match f with
 | .next=>∃σ' H',Inv X pins σ' H' s'/\D.nx σ' H'
 | .brk=>∃σ' H',Inv X pins σ' H' s'/\D.bk σ' H'
 | .cont=>∃σ' H',Inv X pins σ' H' s'/\D.ct σ' H'
 | .ret u=>∃v σ' H',Inv X pins σ' H' s'/\RelV v u/\D.rt v H'
def PE(X:Cx)(e:Expr)(t:TE):Prop :=
 ∀(pins:List (Addr×Obj))(s:Shared)(σ:St)(H:Hp)(Q:VK),Inv X pins σ H s->t σ H Q->wpAny (model X.prog X.w) X.A (eval e X.env) (EP X pins σ Q) X.xe s
def PT(X:Cx)(e:Expr)(t:TT):Prop :=
 ∀(pins:List (Addr×Obj))(s:Shared)(σ:St)(H:Hp)(Q:Bool->Hp->Prop),Inv X pins σ H s->t σ H Q->wpAny (model X.prog X.w) X.A (isTrue e X.env (eval e X.env)) (TP X pins σ Q) X.xe s
def PW(X:Cx)(e:Expr)(t:TT):Prop :=
 ∀(whole:Sem Value)(pins:List (Addr×Obj))(s:Shared)(σ:St)(H:Hp)(Q:Bool->Hp->Prop),Inv X pins σ H s->t σ H Q->wpAny (model X.prog X.w) X.A (isTrue e X.env whole) (TP X pins σ Q) X.xe s
def PW.pt(h:PW X e t):PT X e t:=h _
def PA(X:Cx)(es:List Expr)(t:TA):Prop :=
 ∀(pos:Pos)(pins:List (Addr×Obj))(s:Shared)(σ:St)(H:Hp)(Q:List V->Hp->Prop),Inv X pins σ H s->t σ H Q->wpAny (model X.prog X.w) X.A (spliced (backTo pos (starEach es X.env))) (AP X pins σ Q) X.xe s
def PS(X:Cx)(st:Stmt)(t:TS):Prop :=
 ∀(pins:List (Addr×Obj))(s:Shared)(σ:St)(H:Hp)(D:Ends),Inv X pins σ H s->t D σ H->wpAny (model X.prog X.w) X.A (exec st X.env) (SP X pins D) X.xe s
def PSs(X:Cx)(st:List Stmt)(t:TS):Prop :=
 ∀(pins:List (Addr×Obj))(s:Shared)(σ:St)(H:Hp)(D:Ends),Inv X pins σ H s->t D σ H->wpAny (model X.prog X.w) X.A (execs st X.env) (SP X pins D) X.xe s
def thn(h:wpAny M A t Q E s)(hQ:∀a s,Q a s->Q' a s):wpAny M A t Q' E s:=AA h hQ fun _ _ x=>x
end L2
namespace L2
open PySem PySem.Spec PyProof.Rows
section
variable {X:Cx}
def zp(i:Nat):TE:=fun σ H Q=>∃v,σ[i]?=some (some v)/\Q v H
def tC(v:V):TE:=fun _ H Q=>Q v H
def HH(hN:X.N[i]?=some x)(hv:Vis X.env.scope x)(hd:(x == ("__debug__":Str))=false:=by decide)(hcd:(x == ("__classdict__":Str))=false:=by decide):PE X (.Name x pos) (zp i):=by
 intro pins s σ H Q I h;obtain⟨v,e,h⟩:=h;obtain⟨m,hn,hl⟩:=I.loc;obtain⟨u,r,l⟩:=hl i x v hN e hv;have fin:EP X pins σ Q u s:=⟨v,H,I,r,h⟩;rcases l with⟨hk,hm⟩|⟨hk,c,hc,hcell⟩
 ·exact wpAny_Name (wpAny_loadName_local I.ok.kind hk hn hm fin) hd
 ·rcases hk with hk|hk
  ·exact wpAny_Name (wpAny_loadName_cell I.ok.kind hk hc hcell fin) hd
  ·exact wpAny_Name (wpAny_loadName_free I.ok.kind hk hc hcell fin hcd) hd
def af{i j pos}:PE X (.Constant (.int i) j pos) (tC (.int i)):=fun _ _ _ H _ I h=>wpAny_Constant_int ⟨.int i,H,I.tok _,⟨_,rfl⟩,h⟩
def m9{b j pos}:PE X (.Constant (.bool b) j pos) (tC (.bl b)):=fun _ _ _ H _ I h=>Constant_bool ⟨.bl b,H,I,rfl,h⟩
def CD{j pos}:PE X (.Constant .none j pos) (tC .non):=fun _ _ _ H _ I h=>Constant_none ⟨.non,H,I,rfl,h⟩
def aw{x j pos}:PE X (.Constant (.str x) j pos) (tC (.str x)):=fun _ _ _ H _ I h=>Calls.Constant_str ⟨.str x,H,I.tok _,⟨_,rfl⟩,h⟩
def Gl(X:Cx)(x:Str):Prop:=X.env.kindOf x=some .globalImplicit
def na(I:Inv X pins σ H s)(hg:Gl X x)(hm:X.mg x=some u)(h:Q u s)
  (hd:(x == ("__debug__":Str))=false:=by decide):wpAny (model X.prog X.w) X.A (eval (.Name x pos) X.env) Q E s :=
 BK I.ok.kind hg (Calls.loadGlobal_global (by rw[I.ok.glob];exact I.mod.glob.keeps I.bk) hm h) hd
def qo(I:Inv X pins σ H s)(hg:Gl X x)(hm:X.mg x=none)(hv:bootBuiltins x=some u)(h:Q u s)
  (hn:x≠"__name__":=by decide)(hd:(x == ("__debug__":Str))=false:=by decide):wpAny (model X.prog X.w) X.A (eval (.Name x pos) X.env) Q E s:=by
 obtain⟨mb,h1,h2⟩:=I.mod.blt;exact BK I.ok.kind hg (Calls.loadGlobal_builtin (by rw[I.ok.glob];exact I.mod.glob.keeps I.bk) hm (by rw[I.ok.blt];exact h1.keeps I.bk) ((h2 x hn).trans hv) h) hd
def xR(hg:Gl X x)(hm:X.mg x=some u)(r:RelV v u)(hd:(x == ("__debug__":Str))=false:=by decide):PE X (.Name x pos) (tC v) :=
 fun _ _ _ H _ I h=>na I hg hm ⟨v,H,I,r,h⟩ hd
def Fn(hg:Gl X x)(hm:X.mg x=none)(hv:bootBuiltins x=some u)(r:RelV v u)(hn:x≠"__name__":=by decide)(hd:(x == ("__debug__":Str))=false:=by decide):PE X (.Name x pos) (tC v) :=
 fun _ _ _ H _ I h=>qo I hg hm hv ⟨v,H,I,r,h⟩ hn hd
variable {a b:Expr}{ta tb:TE}{pos:Pos}
def tB(t:TE):TT:=fun σ H Q=>t σ H fun x H1=>∃c,x=.bl c/\Q c H1
def cq{e:Expr}(h:PE X e t)(he:∀whole,isTrue e X.env whole=(do let v ← whole;standAt e.pos;holding [v] (truthy v)):=by intro _;rfl):PT X e (tB t):=by
 intro pins s σ H Q I hw;refine isTrue_plain (thn (h pins s σ H _ I hw) fun v s1 zz9=>?_) (he _);obtain⟨x,H1,I1,r1,q1⟩:=zz9;obtain⟨d,rfl,q⟩:=q1;cases r1;exact Ay ⟨H1,I1,q⟩
variable {tA tB':TT}{rest:List Expr}
def Kg(t u:TT):TT:=fun σ H Q=>t σ H fun c H1=>if c=true then u σ H1 Q else Q false H1
def tOr(t u:TT):TT:=fun σ H Q=>t σ H fun c H1=>if c=true then Q true H1 else u σ H1 Q
def Kh(t:TT):TT:=fun σ H Q=>t σ H fun c H1=>Q (!c) H1
theorem xS(ha:PT X a tA):PW X (.BoolOp .And [a] pos) tA:=by
 intro wh pins s σ H Q I h;refine isTrue_and (thn (ha pins s σ H Q I h) fun c s1 e=>?_);cases c with
 | true=>exact isTrue_and_nil e
 | false=>exact e
theorem gE(ha:PT X a tA):PW X (.BoolOp .Or [a] pos) tA:=by
 intro wh pins s σ H Q I h;refine isTrue_or (thn (ha pins s σ H Q I h) fun c s1 e=>?_);cases c with
 | false=>exact isTrue_or_nil e
 | true=>exact e
theorem CF(ha:PT X a tA)(hb:PW X (.BoolOp .And (b::rest) pos) tB'):PW X (.BoolOp .And (a::b::rest) pos) (Kg tA tB'):=by
 intro wh pins s σ H Q I h;refine isTrue_and (thn (ha pins s σ H _ I h) fun c s1 zz9=>?_);obtain⟨H1,I1,q1⟩:=zz9;cases c with
 | true=>exact hb wh pins s1 σ H1 Q I1 q1
 | false=>exact⟨H1,I1,q1⟩
theorem gF(ha:PT X a tA)(hb:PW X (.BoolOp .Or (b::rest) pos) tB'):PW X (.BoolOp .Or (a::b::rest) pos) (tOr tA tB'):=by
 intro wh pins s σ H Q I h;refine isTrue_or (thn (ha pins s σ H _ I h) fun c s1 zz9=>?_);obtain⟨H1,I1,q1⟩:=zz9;cases c with
 | true=>exact⟨H1,I1,q1⟩
 | false=>exact hb wh pins s1 σ H1 Q I1 q1
def dG(ha:PT X a tA):PT X (.UnaryOp .Not a pos) (Kh tA):=by
 intro pins s σ H Q I h;exact isTrue_not (ha pins s σ H (fun c H1=>Q (!c) H1) I h)
def GR(ta tb:TE):TE:=fun σ H Q=>ta σ H fun x H1=>∃c,x=.bl c/\if c=true then tb σ H1 Q else Q (.bl false) H1
def GS(ta:TE):TE:=fun σ H Q=>ta σ H fun x H1=>∃c,x=.bl c/\Q (.bl (!c)) H1
def gG{op}(h:PE X a t):PE X (.BoolOp op [a] pos) t:=fun pins s σ H Q I hw=>BoolOp_one (h pins s σ H Q I hw)
theorem eX(ha:PE X a ta)(hb:PE X (.BoolOp .And (b::rest) pos) tb):PE X (.BoolOp .And (a::b::rest) pos) (GR ta tb):=by
 intro pins s σ H Q I h;refine BoolOp_and (thn (ha pins s σ H _ I h) fun v s1 zz9=>?_);obtain⟨x,H1,I1,r1,q1⟩:=zz9;obtain⟨c,rfl,q1⟩:=q1;cases r1;refine Ay ?_;cases c with
 | true=>exact hb pins s1 σ H1 Q I1 q1
 | false=>exact⟨.bl false,H1,I1,rfl,q1⟩
def HI(ha:PE X a ta):PE X (.UnaryOp .Not a pos) (GS ta):=by
 intro pins s σ H Q I h;refine UnaryOp_ (thn (ha pins s σ H _ I h) fun v s1 zz9=>?_);obtain⟨x,H1,I1,r1,q1⟩:=zz9;obtain⟨c,rfl,q1⟩:=q1;cases r1;exact not_of (Ay ⟨.bl (!c),H1,I1,rfl,q1⟩)
def tIf(t:TT)(ta tb:TE):TE:=fun σ H Q=>t σ H fun c H1=>if c=true then ta σ H1 Q else tb σ H1 Q
theorem CG(hc:PT X c tA)(ha:PE X a ta)(hb:PE X b tb):PE X (.IfExp c a b pos) (tIf tA ta tb):=by
 intro pins s σ H Q I h;refine wpAny_IfExp (thn (hc pins s σ H _ I h) fun d s1 zz9=>?_);obtain⟨H1,I1,q1⟩:=zz9;cases d with
 | true=>exact ha pins s1 σ H1 Q I1 q1
 | false=>exact hb pins s1 σ H1 Q I1 q1
end
end L2
namespace L2
open PySem PySem.Spec PyProof.Rows
def SqL(K:Aa)(H:Hp)(a:Addr)(xs:List V):Prop :=
 Rd H a (.lst xs) ∨
  ∃(o:Obj)(its:Array Value)(n:Nat),K.lookup a=some o/\o.cls=.type "list"/\o.dict=none/\o.data=.seq its n/\its.size<=sizeLine/\Vals xs its.toList
def SqT(K:Aa)(H:Hp)(a:Addr)(xs:List V):Prop :=
 Rd H a (.tup xs) ∨
  ∃(o:Obj)(its:Array Value)(n:Nat),K.lookup a=some o/\o.cls=.type "tuple"/\o.data=.seq its n/\its.size<=sizeLine/\Vals xs its.toList
def LH:Value->Option V
 | .none=>some .non
 | .bool b=>some (.bl b)
 | .int i _=>some (.int i)
 | .str x _=>some (.str x)
 | .bytes b _=>some (.byt b)
 | .float b _=>some (.flt b)
 | .ref a=>some (.ref a)
 | .type n=>some (.ty n)
 | _=>none
theorem RelV.abs(r:RelV x u):LH u=some x:=by
 cases x with
 | non=>cases r;rfl
 | bl _=>cases r;rfl
 | int _=>obtain⟨t,rfl⟩:=r;rfl
 | str _=>obtain⟨t,rfl⟩:=r;rfl
 | byt _=>obtain⟨t,rfl⟩:=r;rfl
 | flt _=>obtain⟨t,rfl⟩:=r;rfl
 | ref _=>cases r;rfl
 | ty _=>cases r;rfl
theorem RelV.inj(r:RelV x u)(q:RelV y u):x=y:=Option.some.inj (r.abs.symm.trans q.abs)
theorem Vals.inj:∀{xs ys:List V}{us:List Value},Vals xs us->Vals ys us->xs=ys
 | _,_,_,.nil,.nil=>rfl
 | _,_,_,.cons r t,.cons r' t'=>by rw[r.inj r',Vals.inj t t']
section
variable {X:Cx}{pins:List (Addr×Obj)}{σ:St}{H:Hp}{s:Shared}{a:Addr}{xs ys:List V}
def Inv.list(I:Inv X pins σ H s)(h:SqL X.K H a xs):∃its:List Value,Vals xs its/\PlainL s.heap a its.toArray/\xs.length<=sizeLine:=by
 rcases h with h|⟨o,its,n,hk,hc,hd,hs,hz,r⟩
 ·obtain⟨z,its,n,r,e⟩:=h.ok I.hok;exact⟨its,r,⟨_,n,e,rfl,rfl,rfl⟩,z⟩
 ·refine⟨its.toList,r,⟨o,n,I.kIn a o hk,hc,hd,by simpa using hs⟩,?_⟩
  have e:=r.length;simp only[Zd]at e;lia
def Inv.tuple(I:Inv X pins σ H s)(h:SqT X.K H a xs):∃its:List Value,Vals xs its/\IsTup s.heap a its.toArray/\xs.length<=sizeLine:=by
 rcases h with h|⟨o,its,n,hk,hc,hs,hz,r⟩
 ·obtain⟨z,its,r,p⟩:=h.ok I.hok;exact⟨its,r,p,z⟩
 ·refine⟨its.toList,r,⟨o,I.kIn a o hk,hc,n,by simpa using hs⟩,?_⟩
  have e:=r.length;simp only[Zd]at e;lia
def Inv.list_inj(I:Inv X pins σ H s)(h:SqL X.K H a xs)(h':SqL X.K H a ys):xs=ys:=by
 obtain⟨its,r,⟨o,n,e,_,_,d⟩,_⟩:=I.list h;obtain⟨its',r',⟨o',n',e',_,_,d'⟩,_⟩:=I.list h';rw[e]at e';cases e';rw[d]at d';injection d' with d1 _;have:its=its':=by simpa using congrArg Array.toList d1
 subst this;exact r.inj r'
def Inv.tuple_inj(I:Inv X pins σ H s)(h:SqT X.K H a xs)(h':SqT X.K H a ys):xs=ys:=by
 obtain⟨its,r,⟨o,e,_,n,d⟩,_⟩:=I.tuple h;obtain⟨its',r',⟨o',e',_,n',d'⟩,_⟩:=I.tuple h';rw[e]at e';cases e';rw[d]at d';injection d' with d1 _;have:its=its':=by simpa using congrArg Array.toList d1
 subst this;exact r.inj r'
end
abbrev Cx.wish(X:Cx)(E:Value->Shared->Prop):Cx:={ X with xe:=E }
abbrev Cx.nox(X:Cx):Cx:=X.wish fun _ _=>False
theorem Cx.Ok.wish{X:Cx}(ok:X.Ok)(E:Value->Shared->Prop):(X.wish E).Ok :=
 ⟨ok.mod,ok.kind,ok.glob,ok.blt,ok.above,ok.inj,ok.has,ok.cab,ok.hd,ok.frames,ok.stk,ok.exf,ok.bs,ok.bsz,ok.noex,ok.exfs,ok.funs,ok.frf⟩
def Cx.Ok.unwish{X:Cx}(ok:(X.wish E).Ok):X.Ok :=
 ⟨ok.mod,ok.kind,ok.glob,ok.blt,ok.above,ok.inj,ok.has,ok.cab,ok.hd,ok.frames,ok.stk,ok.exf,ok.bs,ok.bsz,ok.noex,ok.exfs,ok.funs,ok.frf⟩
section
variable {X:Cx}{pins:List (Addr×Obj)}{σ:St}{H:Hp}{s:Shared}{E:Value->Shared->Prop}
theorem Inv.wish(I:Inv X pins σ H s)(E:Value->Shared->Prop):Inv (X.wish E) pins σ H s:=⟨I.ok.wish E,I.os,I.bare,I.base,I.loc,I.cell,I.free,I.freeC,I.pin,I.hok,I.len⟩
theorem Inv.unwish(I:Inv (X.wish E) pins σ H s):Inv X pins σ H s:=⟨I.ok.unwish,I.os,I.bare,I.base,I.loc,I.cell,I.free,I.freeC,I.pin,I.hok,I.len⟩
theorem SP.unwish(h:SP (X.wish E) pins D f s'):SP X pins D f s':=by
 cases f with
 | next=>obtain⟨σ',H',I,q⟩:=h;exact⟨σ',H',I.unwish,q⟩
 | brk=>obtain⟨σ',H',I,q⟩:=h;exact⟨σ',H',I.unwish,q⟩
 | cont=>obtain⟨σ',H',I,q⟩:=h;exact⟨σ',H',I.unwish,q⟩
 | ret u=>obtain⟨v,σ',H',I,r,q⟩:=h;exact⟨v,σ',H',I.unwish,r,q⟩
theorem PSs.nox{st:List Stmt}{t:TS}(h:PSs X.nox st t):PSs X st t:=fun pins s σ H D I hw =>
 AA (h pins s σ H D (I.wish _) hw) (fun _ _ q=>q.unwish) fun _ _ z=>False.elim z
end
section
variable {X:Cx}{st:Stmt}{rest:List Stmt}{t u:TS}{e:Expr}{te:TE}{pos:Pos}
def GU:TS:=fun D σ H=>D.nx σ H
def Ki(t u:TS):TS:=fun D σ H=>t { D with nx:=u D } σ H
def aB:PSs X [] GU:=fun _ _ σ H _ I h=>A5 ⟨σ,H,I,h⟩
theorem ag(h1:PS X st t)(h2:PSs X rest u):PSs X (st::rest) (Ki t u):=by
 intro pins s σ H D I h;refine wpAny_execs_cons (thn (h1 pins s σ H { D with nx:=u D } I h) fun f s1 q=>?_);cases f with
 | next =>
  obtain⟨σ',H',I',q⟩:=q;exact h2 pins s1 σ' H' D I' q
 | ret v=>exact q
 | brk=>exact q
 | cont=>exact q
theorem ao(h1:PS X st t):PSs X [st] t:=by
 intro pins s σ H D I h;refine wpAny_execs_cons (thn (h1 pins s σ H D I h) fun f s1 q=>?_);cases f with
 | next=>exact A5 q
 | ret v=>exact q
 | brk=>exact q
 | cont=>exact q
def Inv.quiet(I:Inv X pins σ H s):interactive X.env=false:=by simp[interactive,I.ok.kind]
def GW(te:TE):TS:=fun D σ H=>te σ H fun _ H1=>D.nx σ H1
def ik(he:PE X e te)(hs:swapsWith e none pos.line X.env=pure false:=by rfl):PS X (.Expr e pos) (GW te):=by
 intro pins s σ H D I h;exact wpAny_Expr_any (thn (he pins s σ H _ I h) fun v s1 ⟨x,H1,I1,r1,q1⟩=>⟨σ,H1,I1,q1⟩) I.quiet hs
def Kj(te:TE):TS:=fun D σ H=>te σ H D.rt
def ar(he:PE X e te):PS X (.Return (some e) pos) (Kj te):=by
 intro pins s σ H D I h;exact wpAny_Return_some (thn (he pins s σ H _ I h) fun v s1 ⟨x,H1,I1,r1,q1⟩=>⟨x,σ,H1,I1,r1,q1⟩)
def Kk(c:TT)(t u:TS):TS:=fun D σ H=>c σ H fun b H1=>if b=true then t D σ H1 else u D σ H1
theorem aU(hc:PT X c tc)(ha:PSs X a t)(hb:PSs X b u):PS X (.If c a b pos) (Kk tc t u):=by
 intro pins s σ H D I h;refine wpAny_If (thn (hc pins s σ H _ I h) fun d s1 zz9=>?_);obtain⟨H1,I1,q1⟩:=zz9;cases d with
 | true=>exact ha pins s1 σ H1 D I1 q1
 | false=>exact hb pins s1 σ H1 D I1 q1
def CH:TS:=fun _ _ _=>False
def bV:PS X st CH:=fun _ _ _ _ _ _ h=>h.elim
end
abbrev TG:=V->St->Hp->(St->Hp->Prop)->Prop
abbrev TGs:=List V->St->Hp->(St->Hp->Prop)->Prop
def PG(X:Cx)(target:Expr)(t:TG):Prop :=
 ∀(pins:List (Addr×Obj))(s:Shared)(σ:St)(H:Hp)(v:V)(u:Value)(Q:St->Hp->Prop),Inv X pins σ H s->RelV v u->t v σ H Q ->
  wpAny (model X.prog X.w) X.A (assign target X.env u) (fun _ s'=>∃σ' H',Inv X pins σ' H' s'/\Q σ' H') X.xe s
def PGs(X:Cx)(ts:List Expr)(t:TGs):Prop :=
 ∀(pins:List (Addr×Obj))(s:Shared)(σ:St)(H:Hp)(vs:List V)(us:List Value)(Q:St->Hp->Prop),Inv X pins σ H s->Vals vs us->t vs σ H Q ->
  wpAny (model X.prog X.w) X.A (assignInOrder ((assignEach ts X.env).map (·.2)) us) (fun _ s'=>∃σ' H',Inv X pins σ' H' s'/\Q σ' H') X.xe s
abbrev HJ:=V->V->V->Hp->(Hp->Prop)->Prop
def Kl(X:Cx)(t:HJ):Prop :=
 ∀(pins:List (Addr×Obj))(s:Shared)(σ:St)(H:Hp)(o i v:V)(ov iv u:Value)(Q:Hp->Prop),Inv X pins σ H s->RelV o ov->RelV i iv->RelV v u->t o i v H Q ->
  wpAny (model X.prog X.w) X.A (setItem ov iv u) (fun _ s'=>∃H',Inv X pins σ H' s'/\Q H') X.xe s
section
variable {X:Cx}{pos:Pos}
def qp(i:Nat):TG:=fun v σ H Q=>Q (σ.set i (some v)) H
def xT(hN:X.N.Nodup)(hi:X.N[i]?=some x)(hx:Loc X.env.scope x)(hf:X.fn x=true∨X.env.scope.names.lookup x=some .local:=by first|exact .inl rfl|exact .inr rfl|assumption):PG X (.Name x pos) (qp i):=by
 intro pins s σ H v u Q I r h;exact wpAny_assign_Name (CC I hN hi hx r (fun s' I'=>⟨_,H,I',h⟩) hf)
def Km:TGs:=fun vs σ H Q=>vs=[]/\Q σ H
def GX(t:TG)(u:TGs):TGs:=fun vs σ H Q=>∃v r,vs=v::r/\t v σ H fun σ' H'=>u r σ' H' Q
def tG:PGs X [] Km:=by
 intro pins s σ H vs us Q I r h;obtain⟨e,h⟩:=h;subst e;cases r;exact assignInOrder_nil ⟨σ,H,I,h⟩
def gH(h1:PG X e t)(h2:PGs X es u)
  (hs:(assignEach (e::es) X.env).map (·.2)=assign e X.env::(assignEach es X.env).map (·.2):=by rfl):PGs X (e::es) (GX t u):=by
 intro pins s σ H vs us Q I r h;obtain⟨v,vr,e1,h⟩:=h;subst e1;cases r with
 | cons r rr =>
  rw[hs];refine assignInOrder_cons (thn (h1 pins s σ H _ _ _ I r h) fun _ s1 zz9=>?_);obtain⟨σ1,H1,I1,q1⟩:=zz9;exact h2 pins s1 σ1 H1 _ _ Q I1 rr q1
def HK(K:Aa)(n:Nat)(t:TGs):TG:=fun v σ H Q=>∃a xs,v=.ref a/\SqT K H a xs/\xs.length=n/\t xs σ H Q
def HL(hc:X.calm=true)(h:PGs X es t)
  (hn:(assignEach es X.env).length=n:=by rfl)(hst:(assignEach es X.env).findIdx? (·.1)=none:=by rfl):PG X (.Tuple es k pos) (HK X.K n t):=by
 intro pins s σ H v u Q I r hw;obtain⟨a,xs,e1,hq,hl,hw⟩:=hw;subst e1;cases r;obtain⟨its,rv,ht,hz⟩:=I.tuple hq;refine assign_Tuple_tuple (I.ok.hd hc) ht (by simp[hn,← hl,rv.length]) hst fun h' hx=>?_
 have I1:Inv X pins σ H { s with heap:=h' }:=I.kept (t':=s.toks) fun b o e=>hx b o (Vf (Aj e)) e;exact h pins _ σ H xs _ Q I1 (by simpa using rv) hw
def Kn(to ti:TE)(t:HJ):TG:=fun v σ H Q=>to σ H fun o H1=>ti σ H1 fun i H2=>t o i v H2 fun H3=>Q σ H3
def ot(ho:PE X o to)(hi:PE X i ti)(hs:Kl X t)
  (ha:∀v,assign (.Subscript o i pos) X.env v=(do
   let ov ← holding [v] (eval o X.env)
   let iv ← holding [v,ov] (eval i X.env)
   standAt pos
   holding [v,ov,iv] (setItem ov iv v)
   release [v,ov,iv] []):=by intro _;rfl):PG X (.Subscript o i pos) (Kn to ti t):=by
 intro pins s σ H v u Q I r h;rw[ha];refine Ab (AK (thn (ho pins s σ H _ I h) fun ov s1 zz9=>?_));obtain⟨x,H1,I1,r1,q1⟩:=zz9;refine Ab (AK (thn (hi pins s1 σ H1 _ I1 q1) fun iv s2 zz9=>?_));obtain⟨y,H2,I2,r2,q2⟩:=zz9;refine Ab (wpAny_standAt (Ab (AK (thn (hs pins s2 σ H2 x y v ov iv u _ I2 r1 r2 r q2) fun _ s3 zz9=>?_))));obtain⟨H3,I3,q3⟩:=zz9;exact wpAny_release ⟨σ,H3,I3,q3⟩
def zq(te:TE)(g:TG):TS:=fun D σ H=>te σ H fun x H1=>g x σ H1 D.nx
def mt(he:PE X e te)(hg:PG X tg g)(hs:swapsWithSole [tg] e pos.line X.env=pure false:=by rfl)(hw:swappedStores [tg] e X.env=pure none:=by rfl)
  (h1:(assignEach [tg] X.env).map (·.2)=[assign tg X.env]:=by rfl):PS X (.Assign [tg] e pos) (zq te g):=by
 intro pins s σ H D I h;refine wpAny_Assign_stores (thn (he pins s σ H _ I h) fun v s1 zz9=>?_) hs hw;obtain⟨x,H1,I1,r1,q1⟩:=zz9;rw[h1];exact thn (hg pins s1 σ H1 x v _ I1 r1 q1) fun _ s2 q=>q
end
section
variable {X:Cx}{pos:Pos}
def CJ(c:TT)(tb:TS):TS:=fun D σ H=>∃W:Nat->St->Hp->Prop,(∃m,W m σ H)/\∀m σ H,W m σ H ->
 c σ H fun b H1=>if b=true then ∃N:St->Hp->Prop,(∀σ' H',N σ' H'->∃m',m'<m/\W m' σ' H')/\tb { D with nx:=N,ct:=N,bk:=D.nx } σ H1 else D.nx σ H1
theorem qq(hp:PassesOwn (model X.prog X.w) X.A X.env X.xe)(hc:PT X c tc)(hb:PSs X body tb):PS X (.While c body [] pos) (CJ tc tb):=by
 intro pins s σ H D I h;obtain⟨W,⟨m0,w0⟩,turn⟩:=h;refine wpAny_While (codeAny_whileLoop (fun n s'=>∃σ' H',Inv X pins σ' H' s'/\W n σ' H') ?_ m0 ⟨σ,H,I,w0⟩);rintro n s1 ⟨σ1,H1,I1,w1⟩;refine AJ hp (thn (hc pins s1 σ1 H1 _ I1 (turn n σ1 H1 w1)) fun b s2 zz9=>?_);obtain⟨H2,I2,q2⟩:=zz9;cases b with
 | true =>
  obtain⟨N,hN,q2⟩:=q2;rw[Ag rfl];refine AJ hp (thn (hb pins s2 σ1 H2 _ I2 q2) fun f s3 q3=>?_);cases f with
  | next =>
   obtain⟨σ3,H3,I3,n3⟩:=q3;obtain⟨m',hm,w3⟩:=hN σ3 H3 n3;exact⟨m',hm,σ3,H3,I3,w3⟩
  | cont =>
   obtain⟨σ3,H3,I3,n3⟩:=q3;obtain⟨m',hm,w3⟩:=hN σ3 H3 n3;exact⟨m',hm,σ3,H3,I3,w3⟩
  | brk=>exact q3
  | ret v=>exact q3
 | false =>
  rw[Al Qc];exact A5 ⟨σ1,H2,I2,q2⟩
end
structure It where
 go:Nat->Hp->Prop
 yld:Nat->Hp->V->Hp->Prop
 stop:Nat->Hp->Prop
def pI(X:Cx)(pins:List (Addr×Obj))(H:Hp)(b:Addr):Prop :=
 H b=none/\b≠X.env.locals/\b∉X.fs/\(b∈X.ex∨X.s₀.heap.objs.size<=b)/\(∀x c,X.env.cells.lookup x=some c->c≠b)/\∀p∈X.pn++pins,p.1≠b
def Inv.fpOk{s:Shared}(I:Inv X pins σ H s)(hb:s.heap.objs.size<=b)(hn:H' b=none):pI X pins H' b:=by
 refine⟨hn,Qk (Yc I.lt hb),I.nofs hb,.inr (Wc I.sz hb),fun x c e z=>?_,fun p hp z=>?_⟩
 ·obtain⟨v,q⟩:=I.cell x c e;exact absurd (Yc q.lt (by rw[z];exact hb)) (Zg _)
 ·exact absurd (Yc (Aj (I.pin p hp).1) (by rw[z];exact hb)) (Zg _)
structure Turn(P:Program)(w:World)(K:Aa)(tg:Expr)(J:It)(fp:List Addr)(it:Addr)(tn:Nat->Heap->Prop):Prop where
 mem:it∈fp
 obj:∀i h,tn i h->∀b∈fp,∃o,h.get? b=some o/\∀v,o.data≠.cell v
 keep:∀i h h',tn i h->(∀b∈fp,∀o,h.get? b=some o->h'.get? b=some o)->tn i h'
 item:∀(X:Cx),X.prog=P->X.w=w->X.K=K->X.calm=true->∀(i:Nat)(pins:List (Addr×Obj))(s:Shared)(σ:St)(H:Hp)(E:Value->Shared->Prop),Inv X pins σ H s->(∀b∈fp,pI X pins H b)->tn i s.heap->J.go i H ->
  wpAny (model P w) X.A (pyNext (.ref it)) (fun r s1=>∃u,r=some u /\
   wpAny (model P w) X.A (letOwnedTupleGo tg (.ref it) u) (fun _ s2=>∃x H',Inv X pins σ H' s2/\RelV x u/\J.yld i H x H'/\tn (i+1) s2.heap/\∀b∈fp,H' b=none) E s1) E s
 done:∀(X:Cx),X.prog=P->X.w=w->X.K=K->X.calm=true->∀(i:Nat)(pins:List (Addr×Obj))(s:Shared)(σ:St)(H:Hp)(E:Value->Shared->Prop),Inv X pins σ H s->(∀b∈fp,pI X pins H b)->tn i s.heap->J.stop i H ->
  wpAny (model P w) X.A (pyNext (.ref it)) (fun r s1=>r=none/\Inv X pins σ H s1) E s
 self:∀(A:Around)(i:Nat)(s:Shared)(Q:Value->Shared->Prop)(E:Value->Shared->Prop),tn i s.heap->Q (.ref it) s->wpAny (model P w) A (pyIter (.ref it)) Q E s
abbrev TI:=St->Hp->(It->Hp->Prop)->Prop
inductive PIE(X:Cx)(pins:List (Addr×Obj))(σ:St)(tg:Expr)(R:It->Hp->Prop)(itv:Value)(s2:Shared):Prop
 | mk (it:Addr) (fp:List Addr) (tn:Nat->Heap->Prop) (J:It) (H':Hp) (e:itv=.ref it) (I:Inv X pins σ H' s2) (T:Turn X.prog X.w X.K tg J fp it tn) (t0:tn 0 s2.heap) (fo:∀b∈fp,pI X pins H' b) (r:R J H')
def PI(X:Cx)(tg iter:Expr)(wi:TI):Prop :=
 ∀(pins:List (Addr×Obj))(s:Shared)(σ:St)(H:Hp)(R:It->Hp->Prop),Inv X pins σ H s->wi σ H R ->
  wpAny (model X.prog X.w) X.A (eval iter X.env) (fun v s1=>wpAny (model X.prog X.w) X.A (pyIter v) (PIE X pins σ tg R) X.xe s1) X.xe s
def u8{s : Shared}{o : Obj}(ho : s.heap.get? it = some o)(hc : o.cls = .type n)(hd : o.data = .fields vs)
    (hn : ["enumerate", "zip", "dict_itemiterator", "dict_reverseitemiterator", "odict_iterator", "itertools.zip_longest", "itertools.pairwise"].contains n = false)(hQ : Q () s) : wpAny M A (letOwnedTupleGo tg (.ref it) u) Q E s := by
  unfold letOwnedTupleGo;cases tg <;> first
    | exact Af hQ
    | (cases u <;> first
        | exact Af hQ
        | (refine Ab (wpAny_load ho ?_)
           rw [hc, hd];show wpAny M A (if (["enumerate", "zip", "dict_itemiterator", "dict_reverseitemiterator", "odict_iterator", "itertools.zip_longest", "itertools.pairwise"].contains n && vs[0]? == some (rawInt _)) = true then _ else _) Q E s;rw [Al (by intro h; rw [hn, Bool.false_and] at h; cases h)]
           exact Af hQ))
def Itl(K:Aa)(a:Addr):It :=
 ⟨fun i H=>∃xs x,SqL K H a xs/\xs[i]?=some x,fun i H x H'=>H'=H/\∀xs,SqL K H a xs->xs[i]?=some x,fun i H=>∃xs,SqL K H a xs/\xs.length<=i⟩
def Itt(K:Aa)(a:Addr):It :=
 ⟨fun i H=>∃xs x,SqT K H a xs/\xs[i]?=some x,fun i H x H'=>H'=H/\∀xs,SqT K H a xs->xs[i]?=some x,fun i H=>∃xs,SqT K H a xs/\xs.length<=i⟩
def Itr(lo:Int)(n:Nat):It:=⟨fun i _=>i<n,fun i H x H'=>H'=H/\x=.int (lo+i),fun i _=>n<=i⟩
def zr{P:Program}{w:World}{K:Aa}{tg:Expr}(a it:Addr):Turn P w K tg (Itl K a) [it] it (fun i h=>h.IsListIter it a i) where
 mem:=by simp
 obj:=fun i h st b hb=>by
  have e:b=it:=by simpa using hb
  subst e;obtain⟨o,e,c,d⟩:=st;exact⟨o,e,fun v z=>by rw[d]at z;cases z⟩
 keep:=fun i h h' st k=>st.at fun o e=>k it (by simp) o e
 item:=by
  intro X hP hw hK hc i pins s σ H E I hf st hg;subst hP hw hK;obtain⟨xs,x,hq,hx⟩:=hg;obtain⟨its,rv,p,hz⟩:=I.list hq;obtain⟨u,hu,ru⟩:=rv.get hx;obtain⟨f0,f1,f2,f3,f4,f5⟩:=hf it (by simp)
  refine wpAny_pyNext_list_item st p.isList (x:=u) (by simpa using hu) fun h' st' sb=>?_
  have I1:Inv X pins σ H { s with heap:=h' }:=I.turned (t':=s.toks) (fun b o hb e=>(sb.2 b hb).trans e) f0 f1 f3 f4 f5;obtain⟨o,e,c,d⟩:=id st';exact⟨u,rfl,u8 (s:={ s with heap:=h' }) e c d (by decide) ⟨x,H,I1,ru,⟨rfl,fun ys hy=>by rw[I.list_inj hy hq];exact hx⟩,st',fun b hb=>(hf b hb).1⟩⟩
 done:=by
  intro X hP hw hK hc i pins s σ H E I hf st hg;subst hP hw hK;obtain⟨xs,hq,hx⟩:=hg;obtain⟨its,rv,p,hz⟩:=I.list hq;obtain⟨f0,f1,f2,f3,f4,f5⟩:=hf it (by simp)
  have hl:=rv.length;exact wpAny_pyNext_list_end (I.ok.hd hc) st p.isList (by simp;lia) fun h' eb=>⟨rfl,I.turned (t':=s.toks) (fun b o hb e=>eb b o hb e) f0 f1 f3 f4 f5⟩
 self:=fun _ _ _ _ _ st h=>wpAny_pyIter_listiter st h
def wz{P:Program}{w:World}{K:Aa}{tg:Expr}(a it:Addr):Turn P w K tg (Itt K a) [it] it (fun i h=>h.IsTupleIter it a i) where
 mem:=by simp
 obj:=fun i h st b hb=>by
  have e:b=it:=by simpa using hb
  subst e;obtain⟨o,e,c,d⟩:=st;exact⟨o,e,fun v z=>by rw[d]at z;cases z⟩
 keep:=fun i h h' st k=>st.at fun o e=>k it (by simp) o e
 item:=by
  intro X hP hw hK hc i pins s σ H E I hf st hg;subst hP hw hK;obtain⟨xs,x,hq,hx⟩:=hg;obtain⟨its,rv,p,hz⟩:=I.tuple hq;obtain⟨u,hu,ru⟩:=rv.get hx;obtain⟨f0,f1,f2,f3,f4,f5⟩:=hf it (by simp)
  refine wpAny_pyNext_tuple_item st (show s.heap.IsTuple a its.toArray from p) (x:=u) (by simpa using hu) fun h' st' sb=>?_
  have I1:Inv X pins σ H { s with heap:=h' }:=I.turned (t':=s.toks) (fun b o hb e=>(sb.2 b hb).trans e) f0 f1 f3 f4 f5;obtain⟨o,e,c,d⟩:=id st';exact⟨u,rfl,u8 (s:={ s with heap:=h' }) e c d (by decide) ⟨x,H,I1,ru,⟨rfl,fun ys hy=>by rw[I.tuple_inj hy hq];exact hx⟩,st',fun b hb=>(hf b hb).1⟩⟩
 done:=by
  intro X hP hw hK hc i pins s σ H E I hf st hg;subst hP hw hK;obtain⟨xs,hq,hx⟩:=hg;obtain⟨its,rv,p,hz⟩:=I.tuple hq;obtain⟨f0,f1,f2,f3,f4,f5⟩:=hf it (by simp)
  have hl:=rv.length;exact wpAny_pyNext_tuple_end (I.ok.hd hc) st (show s.heap.IsTuple a its.toArray from p) (by simp;lia) fun h' eb=>⟨rfl,I.turned (t':=s.toks) (fun b o hb e=>eb b o hb e) f0 f1 f3 f4 f5⟩
 self:=fun _ _ _ _ _ st h=>wpAny_pyIter_tupleiter st h
def wA{P:Program}{w:World}{K:Aa}{tg:Expr}(it:Addr)(lo:Int)(n:Nat):Turn P w K tg (Itr lo n) [it] it (fun i h=>IsRangeIter h it (lo+(i:Nat)*1) ((n:Int)-(i:Nat)) 1) where
 mem:=by simp
 obj:=fun i h st b hb=>by
  have e:b=it:=by simpa using hb
  subst e
  exact⟨_,st,fun v z=>by
   have z':Data.fields _=Data.cell v:=z
   cases z'⟩
 keep:=fun i h h' st k=>k it (by simp) _ st
 item:=by
  intro X hP hw hK hc i pins s σ H E I hf st hg;subst hP hw hK;obtain⟨f0,f1,f2,f3,f4,f5⟩:=hf it (by simp)
  have W:=Walks.range (prog:=X.prog) (w:=X.w) (I.ok.hd hc) it lo 1 n;refine W.item i s _ _ hg st fun v h' tk hv st' kk=>?_;obtain⟨t,rfl⟩:=hv;have I1:Inv X pins σ H { s with heap:=h',toks:=tk }:=I.turned (fun b o hb e=>kk b o (by simpa using hb) e) f0 f1 f3 f4 f5
  refine⟨_,rfl,u8 (s:={ s with heap:=h',toks:=tk }) (n:="range_iterator") st' rfl rfl (by decide) ⟨.int (lo+i),H,I1,⟨t,?_⟩,⟨rfl,rfl⟩,st',fun b hb=>(hf b hb).1⟩⟩
  rw[Int.mul_one]
 done:=by
  intro X hP hw hK hc i pins s σ H E I hf st hg;subst hP hw hK;obtain⟨f0,f1,f2,f3,f4,f5⟩:=hf it (by simp)
  exact wpAny_pyNext_range_end (I.ok.hd hc) st (by have:n<=i:=hg;lia) fun h' eb=>⟨rfl,I.turned (t':=s.toks) (fun b o hb e=>eb b o hb e) f0 f1 f3 f4 f5⟩
 self:=fun _ _ _ _ _ st h=>wpAny_pyIter_rangeiter st h
end L2
namespace L2
open PySem PySem.Spec PyProof.Rows
section
variable {X:Cx}{tg:Expr}
def xU(K:Aa)(tl:TE):TI:=fun σ H R=>tl σ H fun x H1=>∃a,x=.ref a/\(∃xs,SqL K H1 a xs)/\R (Itl K a) H1
def HM(K:Aa)(tl:TE):TI:=fun σ H R=>tl σ H fun x H1=>∃a,x=.ref a/\(∃xs,SqT K H1 a xs)/\R (Itt K a) H1
def Fo{l:Expr}{tl:TE}(hl:PE X l tl):PI X tg l (xU X.K tl):=by
 intro pins s σ H R I h;refine thn (hl pins s σ H _ I h) fun v s1 zz9=>?_;obtain⟨x,H1,I1,r1,q1⟩:=zz9;obtain⟨a,e,⟨xs,hq⟩,q⟩:=q1;subst e;cases r1;obtain⟨its,rv,p,hz⟩:=I1.list hq;refine Bp p.isList ?_;refine⟨s1.heap.objs.size,[s1.heap.objs.size],_,_,H1,rfl,I1.kept (t':=s1.toks) fun b o e=>Ac _ e,zr a _,⟨_,Ak _ rfl,rfl,rfl⟩,fun b hb=>?_,q⟩;have e:b=s1.heap.objs.size:=by simpa using hb
 subst e;exact I1.fpOk (Xb _) (I1.hok.fresh (Xb _))
def HN{l:Expr}{tl:TE}(hl:PE X l tl):PI X tg l (HM X.K tl):=by
 intro pins s σ H R I h;refine thn (hl pins s σ H _ I h) fun v s1 zz9=>?_;obtain⟨x,H1,I1,r1,q1⟩:=zz9;obtain⟨a,e,⟨xs,hq⟩,q⟩:=q1;subst e;cases r1;obtain⟨its,rv,p,hz⟩:=I1.tuple hq;refine wpAny_pyIter_tuple (show s1.heap.IsTuple a its.toArray from p) ?_;refine⟨s1.heap.objs.size,[s1.heap.objs.size],_,_,H1,rfl,I1.kept (t':=s1.toks) fun b o e=>Ac _ e,wz a _,⟨_,Ak _ rfl,rfl,rfl⟩,fun b hb=>?_,q⟩;have e:b=s1.heap.objs.size:=by simpa using hb
 subst e;exact I1.fpOk (Xb _) (I1.hok.fresh (Xb _))
def CK{s:Shared}{R:It->Hp->Prop}{E:Value->Shared->Prop}{lo hi:Int}{t u v:Tok}{tk:Nat}(I:Inv X pins σ H s)(h1:-(2 ^ 62)<=lo)(h2:lo<2 ^ 62)(h3:-(2 ^ 62)<=hi)(h4:hi<2 ^ 62)
  (q:R (Itr lo (hi-lo).toNat) H):wpAny (model X.prog X.w) X.A (pyIter (.ref s.heap.objs.size)) (PIE X pins σ tg R) E { s with heap:=s.heap.push { cls:=.type "range",data:=.fields #[.int lo t,.int hi u,.int 1 v] },toks:=tk }:=by
 refine wpAny_pyIter_range (IsRange.new ..) (small_one h1 h2 h3 h4) ?_;have I1:Inv X pins σ H { s with heap:=s.heap.push { cls:=.type "range",data:=.fields #[.int lo t,.int hi u,.int 1 v] },toks:=tk }:=I.kept fun b o e=>Ac _ e
 refine⟨(s.heap.push { cls:=.type "range",data:=.fields #[.int lo t,.int hi u,.int 1 v] }).objs.size,[(s.heap.push { cls:=.type "range",data:=.fields #[.int lo t,.int hi u,.int 1 v] }).objs.size],_,_,H,rfl,
  I1.kept (t':=tk) fun b o e=>Ac _ e,wA _ lo (hi-lo).toNat,?_,fun b hb=>?_,q⟩
 ·have e1:lo+((0:Nat):Int)*1=lo:=by simp
  have e2:(((hi-lo).toNat:Nat):Int)-((0:Nat):Int)=Builtin.Range.rangeSize lo hi 1:=by rw[rangeSize_one];split<;>lia
  show IsRangeIter _ _ (lo+((0:Nat):Int)*1) ((((hi-lo).toNat:Nat):Int)-((0:Nat):Int)) 1;rw[e1,e2];exact Ak _ rfl
 ·have e:b=(s.heap.push { cls:=.type "range",data:=.fields #[.int lo t,.int hi u,.int 1 v] }).objs.size:=by simpa using hb
  subst e;exact I1.fpOk (Xb _) (I1.hok.fresh (Xb _))
def GY(ta:TA):TI:=fun σ H R=>ta σ H fun vs H1=>∃j:Int,vs=[.int j]/\-(2 ^ 62)<=j/\j<2 ^ 62/\R (Itr 0 j.toNat) H1
theorem cS{ta:TA}(hg:Gl X "range")(hm:X.mg "range"=none)(ha:PA X [a] ta)(hs:starEach [a] X.env=[(false,eval a X.env)]:=by rfl):PI X tg (.Call (.Name "range" p) [a] [] pos) (GY ta):=by
 intro pins s σ H R I h;refine Call_ (qo I hg hm boot_range (AT (thn (ha pos pins s σ H _ I h) fun us s1 zz9=>?_) hs rfl));obtain⟨vs,H1,I1,r1,q1⟩:=zz9;obtain⟨j,e,q1,q2,q⟩:=q1;subst e;cases r1 with
 | cons r rr =>
  cases rr;obtain⟨t,rfl⟩:=r;exact call_range_1 (CK I1 (by lia) (by lia) q1 q2 (by simpa using q))
def Ko(wi:TI)(g:TG)(tb:TS):TS:=fun D σ H=>wi σ H fun J H1=>∃W:Nat->Nat->St->Hp->Prop,(∃m,W 0 m σ H1)/\∀i m σ H,W i m σ H ->
 (J.stop i H/\D.nx σ H)∨(J.go i H/\∃N:St->Hp->Prop,(∀σ' H',N σ' H'->∃m',m'<m/\W (i+1) m' σ' H')/\∀x H',J.yld i H x H'->g x σ H' fun σ2 H2=>tb { D with nx:=N,ct:=N,bk:=D.nx } σ2 H2)
def qr(fp:List Addr)(h:Heap):List (Addr×Obj):=fp.filterMap fun b=>(h.get? b).map fun o=>(b,o)
def jh{h:Heap}(hb:b∈fp)(e:h.get? b=some o):(b,o)∈qr fp h:=List.mem_filterMap.mpr ⟨b,hb,by rw[e];rfl⟩
theorem zt{h:Heap}(hp:p∈qr fp h):p.1∈fp/\h.get? p.1=some p.2:=by
 obtain⟨b,hb,e⟩:=List.mem_filterMap.mp hp;cases q:h.get? b with
 | none=>rw[q]at e;cases e
 | some o =>
  rw[q]at e;have e':(b,o)=p:=Option.some.inj e;subst e';exact⟨hb,q⟩
def Inv.pinned{s:Shared}(I:Inv X pins σ H s)(hf:∀b∈fp,pI X pins H b)(ho:∀b∈fp,∃o,s.heap.get? b=some o/\∀v,o.data≠.cell v):Inv X (pins++qr fp s.heap) σ H s :=
 I.pins_of fun p hp=>(Ze.mp hp).elim (fun z=>I.pin p (Qe _ z)) fun z=>by
  obtain⟨hb,e⟩:=zt z;obtain⟨f0,f1,f2,_⟩:=hf p.1 hb;obtain⟨o,e',d⟩:=ho p.1 hb;rw[e]at e';cases e';exact⟨e,f0,f1,f2,d⟩
def Inv.unpinned(I:Inv X (pins++pl) σ H s):Inv X pins σ H s:=I.pins_of fun p hp=>I.pin p (Qe _ (Yk _ hp))
def ou(hp:PassesOwn (model X.prog X.w) X.A X.env X.xe)(hc:X.calm=true)(hi:PI X tg iter wi)(hg:PG X tg g)(hb:PSs X body tb)
  (hs:∀x,foldedSetIterable iter X.env x=pure x:=by intro _;rfl):PS X (.For tg iter body [] pos) (Ko wi g tb):=by
 intro pins s σ H D I h;refine wpAny_For (thn (hi pins s σ H _ I h) fun v s1 h1=>thn h1 fun itv s2 h2=>?_) hs;obtain⟨it,fp,tn,J,H2,e,I2,T,st2,f2,W,⟨m0,w0⟩,turn⟩:=h2;subst e;have stat:∀{H':Hp},(∀b∈fp,H' b=none)->∀b∈fp,pI X pins H' b:=fun hn b hb=>⟨hn b hb,(f2 b hb).2⟩;refine codeAny_forLoop_any (fun n s'=>∃i σ' H',Inv X pins σ' H' s'/\tn i s'.heap/\(∀b∈fp,H' b=none)/\W i n σ' H') ?_ m0 ⟨0,σ,H2,I2,st2,fun b hb=>(f2 b hb).1,w0⟩;rintro n s3 ⟨i,σ3,H3,I3,st3,fr3,w3⟩;rcases turn i n σ3 H3 w3 with⟨stop,qn⟩|⟨go,N,hN,step⟩
 ·refine AJ hp (thn (T.done X rfl rfl rfl hc i pins s3 σ3 H3 X.xe I3 (stat fr3) st3 stop) fun r s4 zz9=>?_);obtain⟨hr,I4⟩:=zz9;subst hr;exact A5 ⟨σ3,H3,I4,qn⟩
 ·refine AJ hp (thn (T.item X rfl rfl rfl hc i pins s3 σ3 H3 X.xe I3 (stat fr3) st3 go) fun r s4 zz9=>?_);obtain⟨u,hr,h4⟩:=zz9;subst hr;refine AJ hp (thn h4 fun _ s5 zz9=>?_);obtain⟨x,H5,I5,r5,y5,st5,fr5⟩:=zz9;have I5':=I5.pinned (stat fr5) (T.obj _ _ st5);refine AJ hp (thn (hg _ s5 σ3 H5 x u _ I5' r5 (step x H5 y5)) fun _ s6 zz9=>?_);obtain⟨σ6,H6,I6,q6⟩:=zz9;refine AJ hp (thn (hb _ s6 σ6 H6 _ I6 q6) fun f s7 q7=>?_);have again:∀{σ7:St}{H7:Hp},Inv X (pins++qr fp s5.heap) σ7 H7 s7->N σ7 H7->∃m,m<n/\∃i σ' H',Inv X pins σ' H' s7/\tn i s7.heap/\(∀b∈fp,H' b=none)/\W i m σ' H':=fun {σ7 H7} I7 n7=>by
   obtain⟨m',hm,w7⟩:=hN σ7 H7 n7;refine⟨m',hm,i+1,σ7,H7,I7.unpinned,T.keep _ _ _ st5 fun b hb o e=>(I7.pin (b,o) (Qe _ (Qe _ (jh hb e)))).1,fun b hb=>?_,w7⟩;obtain⟨o,e,d⟩:=T.obj _ _ st5 b hb;exact(I7.pin (b,o) (Qe _ (Qe _ (jh hb e)))).2.1
  cases f with
  | next=>obtain⟨σ7,H7,I7,n7⟩:=q7;exact again I7 n7
  | cont=>obtain⟨σ7,H7,I7,n7⟩:=q7;exact again I7 n7
  | brk=>obtain⟨σ7,H7,I7,q7⟩:=q7;exact⟨σ7,H7,I7.unpinned,q7⟩
  | ret v=>obtain⟨x7,σ7,H7,I7,r7,q7⟩:=q7;exact⟨x7,σ7,H7,I7.unpinned,r7,q7⟩
end
end L2
namespace L2
open PySem PySem.Spec PyProof.Rows
abbrev R2:=V->V->Hp->VK->Prop
def OpR(X:Cx)(f:Value->Value->Sem Value)(r:R2):Prop :=
 ∀(pins:List (Addr×Obj))(s:Shared)(σ:St)(H:Hp)(x y:V)(v u:Value)(Q:VK),Inv X pins σ H s->RelV x v->RelV y u->r x y H Q ->
  wpAny (model X.prog X.w) X.A (f v u) (EP X pins σ Q) X.xe s
def UnR(X:Cx)(f:Value->Sem Value)(r:V->Hp->VK->Prop):Prop :=
 ∀(pins:List (Addr×Obj))(s:Shared)(σ:St)(H:Hp)(x:V)(v:Value)(Q:VK),Inv X pins σ H s->RelV x v->r x H Q ->
  wpAny (model X.prog X.w) X.A (f v) (EP X pins σ Q) X.xe s
def CallR(X:Cx)(f:Value)(r:List V->Hp->VK->Prop):Prop :=
 ∀(pins:List (Addr×Obj))(s:Shared)(σ:St)(H:Hp)(xs:List V)(us:List Value)(Q:VK),Inv X pins σ H s->Vals xs us->r xs H Q ->
  wpAny (model X.prog X.w) X.A (call f us) (EP X pins σ Q) X.xe s
def tOp(r:R2)(ta tb:TE):TE:=fun σ H Q=>ta σ H fun x H1=>tb σ H1 fun y H2=>r x y H2 Q
def tUn(r:V->Hp->VK->Prop)(ta:TE):TE:=fun σ H Q=>ta σ H fun x H1=>r x H1 Q
def rI(C:Int->Int->Prop)(g:Int->Int->V):R2:=fun x y H Q=>∃i j,x=.int i/\y=.int j/\C i j/\Q (g i j) H
def rI0(g:Int->Int->V):R2:=fun x y H Q=>∃i j,x=.int i/\y=.int j/\Q (g i j) H
def rU(g:Int->V):V->Hp->VK->Prop:=fun x H Q=>∃i,x=.int i/\Q (g i) H
section
variable {X:Cx}{a b c:Expr}{ta tb tc:TE}{pos:Pos}
def HP(ha:PE X a ta)(hb:PE X b tb){R:V->V->Hp->Prop}(I:Inv X pins σ H s)
  (h:ta σ H fun x H1=>tb σ H1 fun y H2=>R x y H2){Q:Value->Shared->Prop}{f:Value->Value->Sem Value}
  (hf:∀v u s2 x y H2,Inv X pins σ H2 s2->RelV x v->RelV y u->R x y H2->wpAny (model X.prog X.w) X.A (f v u) Q X.xe s2) :
  wpAny (model X.prog X.w) X.A (eval a X.env) (fun v s₁=>wpAny (model X.prog X.w) X.A (eval b X.env) (fun u s₂=>wpAny (model X.prog X.w) X.A (f v u) Q X.xe s₂) X.xe s₁) X.xe s:=by
 refine thn (ha pins s σ H _ I h) fun v s1 zz9=>?_;obtain⟨x,H1,I1,r1,q1⟩:=zz9;refine thn (hb pins s1 σ H1 _ I1 q1) fun u s2 zz9=>?_;obtain⟨y,H2,I2,r2,q2⟩:=zz9;exact hf v u s2 x y H2 I2 r1 r2 q2
def bp{op:Operator}{r:R2}(ho:OpR X (binaryOp op) r)(ha:PE X a ta)(hb:PE X b tb):PE X (.BinOp a op b pos) (tOp r ta tb):=by
 intro pins s σ H Q I h;exact wpAny_BinOp (HP ha hb I h fun v u s2 x y H2 I2 rx ry q=>ho pins s2 σ H2 x y v u Q I2 rx ry q)
def xV(ho:UnR X (unaryOp op) r)(ha:PE X a ta):PE X (.UnaryOp op a pos) (tUn r ta):=by
 intro pins s σ H Q I h;exact UnaryOp_ (thn (ha pins s σ H _ I h) fun v s1 ⟨x,H1,I1,r1,q1⟩=>ho pins s1 σ H1 x v Q I1 r1 q1)
def opI{f:Value->Value->Sem Value}{C:Int->Int->Prop}{g:Int->Int->Int}
  (rule:∀(i j:Int)(t u:Tok)(s:Shared)(Q:Value->Shared->Prop)(E:Value->Shared->Prop),C i j->Q (.int (g i j) s.toks) { s with toks:=s.toks+1 }->wpAny (model X.prog X.w) X.A (f (.int i t) (.int j u)) Q E s) :
  OpR X f (rI C fun i j=>.int (g i j)):=by
 intro pins s σ H x y v u Q I rx ry h;obtain⟨i,j,rfl,rfl,hc,q⟩:=h;obtain⟨t,rfl⟩:=rx;obtain⟨t',rfl⟩:=ry;exact rule i j t t' s _ _ hc ⟨.int (g i j),H,I.tok _,⟨_,rfl⟩,q⟩
def LI{f:Value->Value->Sem Value}{g:Int->Int->Int}
  (rule:∀(i j:Int)(t u:Tok)(s:Shared)(Q:Value->Shared->Prop)(E:Value->Shared->Prop),Q (.int (g i j) s.toks) { s with toks:=s.toks+1 }->wpAny (model X.prog X.w) X.A (f (.int i t) (.int j u)) Q E s) :
  OpR X f (rI0 fun i j=>.int (g i j)):=by
 intro pins s σ H x y v u Q I rx ry h;obtain⟨i,j,rfl,rfl,q⟩:=h;obtain⟨t,rfl⟩:=rx;obtain⟨t',rfl⟩:=ry;exact rule i j t t' s _ _ ⟨.int (g i j),H,I.tok _,⟨_,rfl⟩,q⟩
def Fp{f:Value->Value->Sem Value}{g:Int->Int->Bool}
  (rule:∀(i j:Int)(t u:Tok)(s:Shared)(Q:Value->Shared->Prop)(E:Value->Shared->Prop),Q (.bool (g i j)) s->wpAny (model X.prog X.w) X.A (f (.int i t) (.int j u)) Q E s) :
  OpR X f (rI0 fun i j=>.bl (g i j)):=by
 intro pins s σ H x y v u Q I rx ry h;obtain⟨i,j,rfl,rfl,q⟩:=h;obtain⟨t,rfl⟩:=rx;obtain⟨t',rfl⟩:=ry;exact rule i j t t' s _ _ ⟨.bl (g i j),H,I,rfl,q⟩
def wB(i j:Int):Prop:=0<j/\j<1073741824
def CL(i j:Int):Prop:=0<=j/\j<=1000000/\i.natAbs<2 ^ 64
def CMul(i j:Int):Prop:=(-(2 ^ 64)<i/\i<2 ^ 64)∨(-(2 ^ 64)<j/\j<2 ^ 64)
def CMul.ok(h:CMul i j):IntMulOk i j:=by
 rcases h with⟨h1,h2⟩|⟨h1,h2⟩
 ·exact .of_left (intBits_le_64 h1 h2)
 ·exact .of_right (intBits_le_64 h1 h2)
def op_add:OpR X (binaryOp .Add) (rI0 fun i j=>.int (i+j)):=LI fun _ _ _ _ _ _ _ q=>add_int q
def op_mul:OpR X (binaryOp .Mult) (rI CMul fun i j=>.int (i*j)):=opI fun _ _ _ _ _ _ _ hc q=>mul_int q hc.ok
def lr:OpR X (binaryOp .FloorDiv) (rI wB fun i j=>.int (i / j)):=opI fun i j _ _ _ _ _ hc q=>by
 have h1:(0:Int)<j:=hc.1;have h2:j<1073741824:=hc.2;exact floordiv_int (by lia) (by rw[Int.fdiv_eq_ediv_of_nonneg i (by lia)];exact q) (.inl (PyProof.noPylong_small (by lia)))
def gI:OpR X (binaryOp .Mod) (rI (fun _ j=>0<j) fun i j=>.int (i % j)):=opI fun i j _ _ _ _ _ hc q=>by
 have h1:(0:Int)<j:=hc;exact mod_int' (by lia) (by rw[Int.fmod_eq_emod_of_nonneg i (by lia)];exact q)
def HQ:OpR X (binaryOp .Pow) (rI CL fun i j=>.int (i ^ j.toNat)):=opI fun _ _ _ _ _ _ _ hc q=>pow_int_small hc.1 hc.2.1 hc.2.2 q
def unI{f:Value->Sem Value}{g:Int->Int}
  (rule:∀(i:Int)(t:Tok)(s:Shared)(Q:Value->Shared->Prop)(E:Value->Shared->Prop),Q (.int (g i) s.toks) { s with toks:=s.toks+1 }->wpAny (model X.prog X.w) X.A (f (.int i t)) Q E s) :
  UnR X f (rU fun i=>.int (g i)):=by
 intro pins s σ H x v Q I rx h;obtain⟨i,rfl,q⟩:=h;obtain⟨t,rfl⟩:=rx;exact rule i t s _ _ ⟨.int (g i),H,I.tok _,⟨_,rfl⟩,q⟩
def tH:UnR X (unaryOp .USub) (rU fun i=>.int (-i)):=unI fun _ _ _ _ _ q=>neg_int q
end
def HR:V->V->Bool
 | .non,.non=>true|.non,.int _=>true|.int _,.non=>true|.non,.bl _=>true|.bl _,.non=>true|.non,.str _=>true|.str _,.non=>true
 | .int _,.int _=>true|.bl _,.bl _=>true|.str _,.str _=>true|.byt _,.byt _=>true
 | .int _,.str _=>true|.str _,.int _=>true|.bl _,.str _=>true|.str _,.bl _=>true
 | _,_=>false
def rEq:R2:=fun x y H Q=>HR x y=true/\Q (.bl (decide (x=y))) H
def rNe:R2:=fun x y H Q=>HR x y=true/\Q (.bl (!decide (x=y))) H
def xW:decide (V.int i=V.int j)=(i == j):=by
 rw[Ye];simp
def CM:decide (V.bl i=V.bl j)=(i == j):=by
 rw[Ye];simp
def xX:decide (V.str i=V.str j)=(i == j):=by
 rw[Ye];simp
def xY{i j:Array UInt8}:decide (V.byt i=V.byt j)=(i.toList == j.toList):=by
 rw[Ye];cases i;cases j;simp
section
variable {X:Cx}{a b c:Expr}{ta tb tc:TE}{pos:Pos}
def bu(I:Inv X pins σ H s)(q:Q (.bl k) H)(e:k=k'):EP X pins σ Q (.bool k') s:=by
 subst e;exact⟨.bl k,H,I,rfl,q⟩
theorem cg:OpR X (compareOp .Eq) rEq:=by
 intro pins s σ H x y v u Q I rx ry h;obtain⟨hs,q⟩:=h;cases x with
 | non =>
  cases rx;cases y with
  | non=>cases ry;exact PySem.EqNone.eq_none_none (bu I q (by simp))
  | bl j=>cases ry;exact PySem.EqNone.eq_none_bool (bu I q (by simp))
  | int j=>obtain⟨t',rfl⟩:=ry;exact PySem.EqNone.eq_none_int (bu I q (by simp))
  | str j=>obtain⟨t',rfl⟩:=ry;exact PySem.EqNone.eq_none_str (bu I q (by simp))
  | _=>exact absurd (show false=true from hs) Qc
 | bl i =>
  cases rx;cases y with
  | non=>cases ry;exact PySem.EqNone.eq_bool_none (bu I q (by simp))
  | bl j=>cases ry;exact eq_bool (bu I q CM)
  | str j=>obtain⟨t',rfl⟩:=ry;exact PySem.EqMixed.eq_bool_str (bu I q (by simp))
  | _=>exact absurd (show false=true from hs) Qc
 | int i =>
  obtain⟨t,rfl⟩:=rx;cases y with
  | non=>cases ry;exact PySem.EqNone.eq_int_none (bu I q (by simp))
  | int j=>obtain⟨t',rfl⟩:=ry;exact eq_int (bu I q xW)
  | str j=>obtain⟨t',rfl⟩:=ry;exact PySem.EqMixed.eq_int_str (bu I q (by simp))
  | _=>exact absurd (show false=true from hs) Qc
 | str i =>
  obtain⟨t,rfl⟩:=rx;cases y with
  | non=>cases ry;exact PySem.EqNone.eq_str_none (bu I q (by simp))
  | bl j=>cases ry;exact PySem.EqMixed.eq_str_bool (bu I q (by simp))
  | int j=>obtain⟨t',rfl⟩:=ry;exact PySem.EqMixed.eq_str_int (bu I q (by simp))
  | str j=>obtain⟨t',rfl⟩:=ry;exact eq_str (bu I q xX)
  | _=>exact absurd (show false=true from hs) Qc
 | byt i =>
  obtain⟨t,rfl⟩:=rx;cases y with
  | byt j=>obtain⟨t',rfl⟩:=ry;exact PySem.W.eq_bytes (bu I q xY)
  | _=>exact absurd (show false=true from hs) Qc
 | _=>cases y<;>exact absurd (show false=true from hs) Qc
theorem op_ne:OpR X (compareOp .NotEq) rNe:=by
 intro pins s σ H x y v u Q I rx ry h;obtain⟨hs,q⟩:=h;cases x with
 | non =>
  cases rx;cases y with
  | non=>cases ry;exact PySem.EqNone.ne_none_none (bu I q (by simp))
  | bl j=>cases ry;exact PySem.EqNone.ne_none_bool (bu I q (by simp))
  | int j=>obtain⟨t',rfl⟩:=ry;exact PySem.EqNone.ne_none_int (bu I q (by simp))
  | str j=>obtain⟨t',rfl⟩:=ry;exact PySem.EqNone.ne_none_str (bu I q (by simp))
  | _=>exact absurd (show false=true from hs) Qc
 | bl i =>
  cases rx;cases y with
  | non=>cases ry;exact PySem.EqNone.ne_bool_none (bu I q (by simp))
  | bl j=>cases ry;exact ne_bool (bu I q (congrArg not CM))
  | str j=>obtain⟨t',rfl⟩:=ry;exact PySem.EqMixed.ne_bool_str (bu I q (by simp))
  | _=>exact absurd (show false=true from hs) Qc
 | int i =>
  obtain⟨t,rfl⟩:=rx;cases y with
  | non=>cases ry;exact PySem.EqNone.ne_int_none (bu I q (by simp))
  | int j=>obtain⟨t',rfl⟩:=ry;exact ne_int (bu I q (congrArg not xW))
  | str j=>obtain⟨t',rfl⟩:=ry;exact PySem.EqMixed.ne_int_str (bu I q (by simp))
  | _=>exact absurd (show false=true from hs) Qc
 | str i =>
  obtain⟨t,rfl⟩:=rx;cases y with
  | non=>cases ry;exact PySem.EqNone.ne_str_none (bu I q (by simp))
  | bl j=>cases ry;exact PySem.EqMixed.ne_str_bool (bu I q (by simp))
  | int j=>obtain⟨t',rfl⟩:=ry;exact PySem.EqMixed.ne_str_int (bu I q (by simp))
  | str j=>obtain⟨t',rfl⟩:=ry;exact ne_str (bu I q (congrArg not xX))
  | _=>exact absurd (show false=true from hs) Qc
 | byt i =>
  obtain⟨t,rfl⟩:=rx;cases y with
  | byt j=>obtain⟨t',rfl⟩:=ry;exact PySem.W.ne_bytes (bu I q (congrArg not xY))
  | _=>exact absurd (show false=true from hs) Qc
 | _=>cases y<;>exact absurd (show false=true from hs) Qc
def op_lt:OpR X (compareOp .Lt) (rI0 fun i j=>.bl (decide (i<j))):=Fp fun _ _ _ _ _ _ _ q=>lt_int q
def xZ:OpR X (compareOp .LtE) (rI0 fun i j=>.bl (decide (i<=j))):=Fp fun _ _ _ _ _ _ _ q=>le_int q
def GZ:OpR X (compareOp .Gt) (rI0 fun i j=>.bl (decide (j<i))):=Fp fun _ _ _ _ _ _ _ q=>gt_int q
def Kr:OpR X (compareOp .GtE) (rI0 fun i j=>.bl (decide (j<=i))):=Fp fun _ _ _ _ _ _ _ q=>ge_int q
def zu:OpR X (compareOp .Lt) (fun x y H Q=>∃i j,x=.str i/\y=.str j/\Q (.bl (decide (i.cps.toList<j.cps.toList))) H):=by
 intro pins s σ H x y v u Q I rx ry h;obtain⟨i,j,rfl,rfl,q⟩:=h;obtain⟨t,rfl⟩:=rx;obtain⟨t',rfl⟩:=ry;exact lt_str (bu I q rfl)
def op_in_str:OpR X (compareOp .In) (fun x y H Q=>∃i j,x=.str i/\y=.str j/\Q (.bl (!(Builtin.Str.occurrences j i 0 j.length 1).isEmpty)) H):=by
 intro pins s σ H x y v u Q I rx ry h;obtain⟨i,j,rfl,rfl,q⟩:=h;obtain⟨t,rfl⟩:=rx;obtain⟨t',rfl⟩:=ry;exact in_str (bu I q rfl)
theorem CN:OpR X (compareOp .Is) (fun x y H Q=>y=.non/\Q (.bl (decide (x=.non))) H):=by
 intro pins s σ H x y v u Q I rx ry h;obtain⟨rfl,q⟩:=h;cases ry;refine is_none_gen (bu I q ?_);cases x<;>first
  | (cases rx;rfl)
  | (obtain⟨t,rfl⟩:=rx;rfl)
def op_notin_str:OpR X (compareOp .NotIn) (fun x y H Q=>∃i j,x=.str i/\y=.str j/\Q (.bl (!(!(Builtin.Str.occurrences j i 0 j.length 1).isEmpty))) H):=by
 intro pins s σ H x y v u Q I rx ry h;obtain⟨i,j,rfl,rfl,q⟩:=h;obtain⟨t,rfl⟩:=rx;obtain⟨t',rfl⟩:=ry;exact notIn_str (bu I q rfl)
def OpR.or(h:OpR X f r)(h':OpR X f r'):OpR X f (fun x y H Q=>r x y H Q∨r' x y H Q):=by
 intro pins s σ H x y v u Q I rx ry q;rcases q with q|q
 ·exact h pins s σ H x y v u Q I rx ry q
 ·exact h' pins s σ H x y v u Q I rx ry q
def CO(b:Expr)(h:op≠.In:=by decide)(h2:op≠.NotIn:=by decide):behindInMarks op b=false:=by
 have e1:(op == CmpOp.In)=false:=by cases op<;>first|rfl|exact absurd rfl h
 have e2:(op == CmpOp.NotIn)=false:=by cases op<;>first|rfl|exact absurd rfl h2
 cases b<;>simp[behindInMarks,e1,e2]
def nc(ho:OpR X (compareOp op) r)(ha:PE X a ta)(hb:PE X b tb)(hm:behindInMarks op b=false):PE X (.Compare a [op] [b] pos) (tOp r ta tb):=by
 intro pins s σ H Q I h;exact wpAny_Compare1 (HP ha hb I h fun v u s2 x y H2 I2 rx ry q=>ho pins s2 σ H2 x y v u Q I2 rx ry q) hm
def x6(t:TE):TT:=fun σ H Q=>t σ H fun x H'=>∃k,x=.bl k/\Q k H'
def eE(ho:OpR X (compareOp op) r)(ha:PE X a ta)(hb:PE X b tb)(hm:behindInMarks op b=false):PT X (.Compare a [op] [b] pos) (x6 (tOp r ta tb)):=by
 intro pins s σ H Q I h
 refine wpAny_isTrue_Compare1 (thn (ha pins s σ H _ I h) fun v s1 ⟨x,H1,I1,r1,q1⟩=>thn (hb pins s1 σ H1 _ I1 q1) fun u s2 ⟨y,H2,I2,r2,q2⟩ =>
  thn (ho pins s2 σ H2 x y v u _ I2 r1 r2 q2) fun c s3 ⟨z,H3,I3,r3,k,e,q3⟩=>?_) hm
 subst e;cases r3;exact Ay ⟨H3,I3,q3⟩
def CP(r r':R2)(ta tb tc:TE):TE:=fun σ H Q=>ta σ H fun x H1=>tb σ H1 fun y H2=>r x y H2 fun z H3=>∃k,z=.bl k /\
 (if k=true then tc σ H3 fun w' H4=>r' y w' H4 Q else Q (.bl false) H3)
def u9(ho:OpR X (compareOp op) r)(ho':OpR X (compareOp op') r')(ha:PE X a ta)(hb:PE X b tb)(hc:PE X c tc)
  (hm:lastMarks [op,op'] [b,c]=false:=by with_unfolding_all rfl):PT X (.Compare a [op,op'] [b,c] pos) (x6 (CP r r' ta tb tc)):=by
 intro pins s σ H Q I h
 refine isTrue_chain (thn (ha pins s σ H _ I h) fun v s1 ⟨x,H1,I1,r1,q1⟩=>test_link (thn (hb pins s1 σ H1 _ I1 q1) fun u s2 ⟨y,H2,I2,r2,q2⟩ =>
  thn (ho pins s2 σ H2 x y v u _ I2 r1 r2 q2) fun d s3 ⟨z,H3,I3,r3,k,e,q3⟩=>?_)) hm
 subst e;cases r3;refine Ay ?_;cases k with
 | false =>
  obtain⟨k',e',q'⟩:=q3;cases e';exact ite_ff ⟨H3,I3,q'⟩
 | true =>
  refine ite_tt (test_last (thn (hc pins s3 σ H3 _ I3 q3) fun w' s4 ⟨z',H4,I4,r4,q4⟩=>thn (ho' pins s4 σ H4 y z' u w' _ I4 r2 r4 q4) fun d' s5 zz9=>?_));obtain⟨z2,H5,I5,r5,k2,e2,q5⟩:=zz9;subst e2;cases r5;exact Ay ⟨H5,I5,q5⟩
def ox:(sizeLine:Nat)<2 ^ 63:=by rw[sizeLine_eq];decide
def op_add_str:OpR X (binaryOp .Add) (fun x y H Q=>∃i j,x=.str i/\y=.str j/\i.length+j.length<=sizeLine/\Q (.str (i++j)) H):=by
 intro pins s σ H x y v u Q I rx ry h;obtain⟨i,j,rfl,rfl,hz,q⟩:=h;obtain⟨t,rfl⟩:=rx;obtain⟨t',rfl⟩:=ry;exact add_str (fun t' tk=>⟨.str (i++j),H,I.tok _,⟨_,rfl⟩,q⟩) hz
theorem vals1(r:Vals [x] us):∃u,us=[u]/\RelV x u:=by
 cases r with
 | cons r1 r2=>cases r2;exact⟨_,rfl,r1⟩
theorem vals2(r:Vals [x,y] us):∃u w',us=[u,w']/\RelV x u/\RelV y w':=by
 cases r with
 | cons r1 r2 =>
  cases r2 with
  | cons r3 r4=>cases r4;exact⟨_,_,rfl,r1,r3⟩
def tK:CallR X (.type "str") (fun xs H Q=>∃i,xs=[.int i]/\i.natAbs.log2<1920/\Q (.str (toString i)) H):=by
 intro pins s σ H xs us Q I r h;obtain⟨i,rfl,hz,q⟩:=h;obtain⟨u,rfl,t,rfl⟩:=vals1 r;exact PySem.P.str_of_int hz ⟨.str _,H,I.tok _,⟨_,rfl⟩,q⟩
end
end L2
namespace L2
open PySem PySem.Spec PyProof.Rows
structure ObjM(h:Heap)(x dx C:Addr)(mA:Str->Option Value):Prop where
 obj:h.get? x=some (PySem.W.instObj C dx)
 ns:h.Ns1 dx mA
 ne:dx≠x
set_option tactic.hygienic true in
def zv{h:Heap}(n:h.Ns1 dx mA):∃od,h.get? dx=some od/\∀name,PySem.W.lookIn name od=some (mA name):=by
 obtain⟨o,es,ep,ho,hd,hk,_,hm⟩:=n;refine⟨o,ho,fun name=>?_⟩;have e:=hm name;unfold nsFind findBy at e;rw[← Array.find?_toList]at e;unfold PySem.W.lookIn;rw[hd];dsimp only;split
 ·rename_i y q
  rw[q]at e;exact congrArg some e
 ·rename_i q
  rw[q]at e;have a:es.toList.any (·.refKey)=false:=by
   rw[List.any_eq_false];intro y hy;obtain⟨z,t,hkey⟩:=hk y (Array.mem_toList_iff.mp hy);simp[DictEntry.refKey,hkey]
  have a':¬ es.toList.any (·.refKey)=true:=by rw[a];exact Qc
  rw[Al a'];exact congrArg some e
def ObjM.look(I:ObjM h x dx C mA):∃od,PySem.W.InstAt h x (PySem.W.instObj C dx) C (some od)/\∀name,PySem.W.lookIn name od=some (mA name) :=
 let ⟨od,ho,hl⟩:=zv I.ns
 ⟨od,⟨I.obj,rfl,rfl,ho⟩,hl⟩
theorem RelO.some_of(r:RelO (some v) o):∃u,o=some u/\RelV v u:=by
 cases o with
 | none=>exact(show False from r).elim
 | some u=>exact⟨u,rfl,r⟩
section
variable {P:Program}{w:World}{H H':Hp}{h h':Heap}{a C dx:Addr}{fs fs':List (Str×V)}
def Fq(hok:HOk P w H h)(e:H a=some (.ins C dx fs)):∃mA,ObjM h a dx C mA/\(∀f,RelO (fs.lookup f) (mA f))/\PySem.Within mA (fs.map (·.1))/\fs.length<=1000/\H dx=some (.own a):=by
 obtain⟨d,z,ne,ob,mA,n,r,q⟩:=(show ObjOk P w H h a (.ins C dx fs) from hok a _ e);exact⟨mA,⟨ob,n,ne⟩,r,q,z,d⟩
end
structure Cls(K:Aa)(C:Addr):Prop where
 pg:PySem.W.plainGet K C Str.empty=true
 hd:PySem.W.hasDictIn K C=true
 po:PySem.W.plainOver K C=true
 sa:PySem.W.findIn K (.ref C) "__setattr__"=some (some (.builtin "object.__setattr__"))
def Cls.get{K:Aa}{C:Addr}(c:Cls K C)(f:Str):PySem.W.plainGet K C f=true:=c.pg
section
variable {X:Cx}{pins:List (Addr×Obj)}{σ:St}{H:Hp}{s:Shared}{A:Around}{E:Value->Shared->Prop}{Q:Value->Shared->Prop}{c:Value}{b:Bool}
inductive TyOf(K:Aa)(H:Hp):V->Value->Prop where
 | non:TyOf K H .non (.type "NoneType")
 | bl (x:Bool):TyOf K H (.bl x) (.type "bool")
 | int (i:Int):TyOf K H (.int i) (.type "int")
 | str (x:Str):TyOf K H (.str x) (.type "str")
 | flt (x:UInt64):TyOf K H (.flt x) (.type "float")
 | lst {a:Addr} {xs:List V} (e:H a=some (.lst xs)):TyOf K H (.ref a) (.type "list")
 | frz {a:Addr} {o:Obj} {xs:List V} (e:H a=some (.frz o (.lst xs))):TyOf K H (.ref a) (.type "list")
 | tup {a:Addr} {xs:List V} (e:H a=some (.tup xs)):TyOf K H (.ref a) (.type "tuple")
 | dK {a:Addr} {kvs:List (Key×V)} (e:H a=some (.dK kvs)):TyOf K H (.ref a) (.type "dict")
 | dT {a:Addr} {ep:Nat×List Addr} {kvs:List (List Key×V)} (e:H a=some (.dT ep kvs)):TyOf K H (.ref a) (.type "dict")
 | ins {a C dx:Addr} {fs:List (Str×V)} (e:H a=some (.ins C dx fs)) (cl:Cls K C) (ha:PySem.W.findIn K (.ref C) "__class__"=some (some (.builtin "object.__class__")))
   (hn:PySem.W.specialIn K (.builtin "object.__class__") "__get__"=some (some (.builtin "getset_descriptor.__get__"))) (htk:PySem.W.takesIn K (.builtin "object.__class__")=some true)
   (hm:PySem.W.mroIn K C (.type "object")=some true):TyOf K H (.ref a) (.ref C)
def eY(I:Inv X pins σ H s)(rx:RelV x u)(ty:TyOf X.K H x t)(e:PySem.W.kitOne X.K t c=some b)(h:∀tk,Q (.bool b) { s with toks:=tk }) :
  wpAny (model X.prog X.w) A (call (.builtin "isinstance") [u,c]) Q E s:=by
 cases ty with
 | non=>cases (show u=Value.none from rx);exact Ar PySem.W.kitx_none I.kIn True.intro e (fun z=>nomatch z) h
 | bl y=>cases (show u=Value.bool y from rx);exact Ar PySem.W.kitx_bool I.kIn True.intro e (fun z=>nomatch z) h
 | int i=>obtain⟨t,q⟩:=(show ∃t,u=Value.int i t from rx);cases q;exact Ar PySem.W.kitx_int I.kIn True.intro e (fun z=>nomatch z) h
 | str y=>obtain⟨t,q⟩:=(show ∃t,u=Value.str y t from rx);cases q;exact Ar PySem.W.kitx_str I.kIn True.intro e (fun z=>nomatch z) h
 | flt y=>obtain⟨t,q⟩:=(show ∃t,u=Value.float y t from rx);cases q;exact Ar PySem.W.kitx_float I.kIn True.intro e (fun z=>nomatch z) h
 | @lst a xs ea =>
  cases (show u=Value.ref a from rx);obtain⟨_,_,n,_,h1⟩:=(show ObjOk X.prog X.w H s.heap a (.lst xs) from I.hok a _ ea);exact Ar Bq I.kIn ⟨_,h1,rfl⟩ e (fun z=>nomatch z) h
 | @frz a ob xs ea =>
  cases (show u=Value.ref a from rx);obtain⟨_,_,_,n,_,h1⟩:=(show ObjOk X.prog X.w H s.heap a (.frz ob (.lst xs)) from I.hok a _ ea);exact Ar Bq I.kIn ⟨_,h1,rfl⟩ e (fun z=>nomatch z) h
 | @tup a xs ea =>
  cases (show u=Value.ref a from rx);obtain⟨_,_,_,p⟩:=(show ObjOk X.prog X.w H s.heap a (.tup xs) from I.hok a _ ea);obtain⟨o,h1,h2,_⟩:=p;exact Ar PySem.W.kitx_tuple I.kIn ⟨o,h1,h2⟩ e (fun z=>nomatch z) h
 | @dK a kvs ea =>
  cases (show u=Value.ref a from rx);obtain⟨_,_,vs,_,p⟩:=(show ObjOk X.prog X.w H s.heap a (.dK kvs) from I.hok a _ ea);obtain⟨o,es,ep,h1,h2,_⟩:=p;exact Ar PySem.W.kitx_dict I.kIn ⟨o,h1,h2.1⟩ e (fun z=>nomatch z) h
 | @dT a ep kvs ea =>
  cases (show u=Value.ref a from rx);obtain⟨_,_,xs,_,_,o,es,h1,h2,_⟩:=(show ObjOk X.prog X.w H s.heap a (.dT ep kvs) from I.hok a _ ea);exact Ar PySem.W.kitx_dict I.kIn ⟨o,h1,h2.1⟩ e (fun z=>nomatch z) h
 | @ins a C dx fs ea cl ha hn htk hm =>
  cases (show u=Value.ref a from rx);obtain⟨mA,O,_⟩:=Fq I.hok ea;obtain⟨od,J,_⟩:=O.look;exact Ar (PySem.W.kitx_own (cl.get _) cl.hd ha hn htk hm) I.kIn J e (fun z=>nomatch z) h
end
end L2
namespace L2
open PySem PySem.Spec PyProof.Rows
structure Room(k:Nat)(A:Around):Prop where
 hd:A.handled=none
 dp:A.depth+3*k+5<recursionLimit
 un:A.units+16*k+200<cLine
def Room.mono(r:Room k A)(h:j<=k):Room j A:=⟨r.hd,by have:=r.dp;lia,by have:=r.un;lia⟩
theorem Room.deeper{A:Around}(r:Room (k+1) A)(env:Env):Room k (A.deeper env) :=
 ⟨r.hd,by have:=r.dp;show A.depth+1+3*k+5<_;lia,by have:=r.un;show A.units+3+16*k+200<_;lia⟩
theorem Room.depth{A:Around}(r:Room k A):A.depth<recursionLimit:=by have:=r.dp;lia
theorem Room.units{A:Around}(r:Room k A):A.units+64<cLine:=by have:=r.un;lia
def rL:TA:=fun _ H Q=>Q [] H
def dL(ta:TE)(tr:TA):TA:=fun σ H Q=>ta σ H fun x H1=>tr σ H1 fun xs H2=>Q (x::xs) H2
section
variable {X:Cx}{e:Expr}{es:List Expr}{te:TE}{t:TA}{pos:Pos}
def ac:PA X [] rL:=fun _ _ _ _ H Q I h=>Calls.spliced_nil ⟨[],H,I,.nil,h⟩
def pV(ha:PE X e te)(hr:PA X es t)(hs:starEach (e::es) X.env=(false,eval e X.env)::starEach es X.env:=by rfl):PA X (e::es) (dL te t):=by
 intro pos pins s σ H Q I h;rw[hs];show wpAny _ _ (spliced ((false,eval e X.env)::backTo pos (starEach es X.env))) _ _ s;refine Calls.spliced_cons (thn (ha pins s σ H _ I h) fun u s1 zz9=>?_);obtain⟨x,H1,I1,r1,q1⟩:=zz9;exact thn (hr pos pins s1 σ H1 _ I1 q1) fun us s2 ⟨xs,H2,I2,r2,q2⟩=>⟨x::xs,H2,I2,.cons r1 r2,q2⟩
def Ks(t:TA):TE:=fun σ H Q=>t σ H fun xs H1=>xs.length<=sizeLine/\∀p,H1 p=none->Q (.ref p) (upd H1 p (.tup xs))
def zw(t:TA):TE:=fun σ H Q=>t σ H fun xs H1=>xs.length<=sizeLine/\∀p,H1 p=none->Q (.ref p) (upd H1 p (.lst xs))
def bx{x1}(h:PA X es t):PE X (.Tuple es x1 pos) (Ks t):=by
 intro pins s σ H Q I hq;refine wpAny_Tuple_spliced (thn (h pos pins s σ H _ I hq) fun us s1 ⟨xs,H1,I1,r,z,q⟩=>⟨by rw[← r.length];exact z,?_⟩)
 have hf:H1 s1.heap.objs.size=none:=I1.hok.fresh (Xb _);refine⟨.ref s1.heap.objs.size,upd H1 s1.heap.objs.size (.tup xs),I1.laid (t':=s1.toks) (fun b u e=>Ac _ e) (Xb _) ?_,rfl,q _ hf⟩;exact⟨z,us,r,⟨_,Ak _ rfl,rfl,_,rfl⟩⟩
def bW(h:PA X es t):PE X (.List es pos) (zw t):=by
 intro pins s σ H Q I hq;refine wpAny_List_spliced (thn (h pos pins s σ H _ I hq) fun us s1 ⟨xs,H1,I1,r,z,q⟩=>⟨by rw[← r.length];exact z,?_⟩)
 have hf:H1 s1.heap.objs.size=none:=I1.hok.fresh (Xb _);refine⟨.ref s1.heap.objs.size,upd H1 s1.heap.objs.size (.lst xs),I1.laid (t':=s1.toks) (fun b u e=>Ac _ e) (Xb _) ?_,rfl,q _ hf⟩;exact⟨z,us,0,r,Ak _ rfl⟩
end
abbrev Sp:=List V->Hp->VK->XK->Prop
abbrev CXT:=List Env->Hp->Shared->XK->Value->Shared->Prop
structure Env0(P:Program)(w:World)(K:Aa)(mg:Str->Option Value)(base:Heap)(A:Around)(outer:List Env)(s:Shared)(H:Hp):Prop where
 frames:A.frames=some outer
 mod:Mod K mg base
 bs:∀b o,base.get? b=some o->s.heap.get? b=some o/\H b=none
 bsz:base.objs.size<=s.heap.objs.size
 funs:s.heap.FunFrames base outer
 frf:∀b∈frs outer,H b=none
 hok:HOk P w H s.heap
 bare:AllBare s.gens
def CE(outer:List Env)(P:Program)(w:World)(H:Hp)(s:Shared)(Q:VK)(u:Value)(s':Shared):Prop :=
 ∃v H',s'.os=s.os/\AllBare s'.gens/\Un (frs outer) [] H H' s.heap s'.heap/\HOk P w H' s'.heap/\RelV v u/\Q v H'
def CR(CX:CXT)(outer:List Env)(P:Program)(w:World)(H:Hp)(s:Shared)(Q:VK)(E:XK)(r:Result)(s':Shared):Prop :=
 match r with
 | .ok (.ret u)=>CE outer P w H s Q u s'
 | .ok _=>False
 | .error e=>CX outer H s E e s'
structure FnOk(P:Program)(w:World)(K:Aa)(mg:Str->Option Value)(base:Heap)(CX:CXT)(k:Nat)(f:Addr)(fd:FuncData)(ps:List Str)(sp:Sp):Prop where
 len:∀vs H Q E,sp vs H Q E->vs.length=ps.length
 run:∀(A:Around)(outer:List Env)(s:Shared)(H:Hp)(args:Args)(us:List Value)(vs:List V)(Q:VK)(E:XK),Room k A->Env0 P w K mg base A outer s H->BindsTo s fd args (ps.zip us)->Vals vs us->sp vs H Q E ->
  codeAny (model P w) A (.call (.ref f) args) (CR CX outer P w H s Q E) s
def FnOk.imp{P:Program}{w:World}{K:Aa}{mg:Str->Option Value}{base:Heap}{CX:CXT}{k:Nat}{f:Addr}{fd:FuncData}{ps:List Str}{sp sp':Sp}(F:FnOk P w K mg base CX k f fd ps sp)
  (h:∀vs H Q E,sp' vs H Q E->sp vs H Q E):FnOk P w K mg base CX k f fd ps sp' :=
 ⟨fun vs H Q E q=>F.len vs H Q E (h _ _ _ _ q),fun A outer s H args us vs Q E hr he hb hv hs=>F.run A outer s H args us vs Q E hr he hb hv (h _ _ _ _ hs)⟩
section
variable {X:Cx}{pins:List (Addr×Obj)}{σ:St}{H:Hp}{s s':Shared}
def Inv.env0(I:Inv X pins σ H s):Env0 X.prog X.w X.K X.mg X.base X.A X.stack s H :=
 ⟨I.ok.frames,I.ok.mod,I.bs,Wc I.ok.bsz I.sz,I.stack,I.stkFree,I.hok,I.bare⟩
def Inv.after(I:Inv X pins σ H s)(h:CE X.stack X.prog X.w H s Q u s'):EP X pins σ Q u s':=by
 obtain⟨v,H',os,bare,un,hok,r,q⟩:=h;obtain⟨hh,g,d,t,os'⟩:=s';obtain rfl:os'=s.os:=os;exact⟨v,H',I.call (h':=hh) (g':=g) (d':=d) (t':=t) (ch:=[]) un hok bare (fun b z=>absurd z (by simp)),r,q⟩
end
def CQ(sp:Sp)(dvs:List V)(E:XK)(t:TA):TE:=fun σ H Q=>t σ H fun vs H1=>sp (vs++dvs) H1 Q E
def Binds(K:Aa)(fd:FuncData)(ps:List Str)(ds:List Value):Prop :=
 ∀(s:Shared)(us:List Value),K.In s.heap->(us++ds).length=ps.length->BindsTo s fd ⟨us,[]⟩ (ps.zip (us++ds))
def Binds.all{K:Aa}{fd:FuncData}{ps:List Str}(h:∀us:List Value,us.length=ps.length->bindArgs fd ⟨us,[]⟩=pure (ps.zip us)):Binds K fd ps []:=fun s us _ hl=>by
 rw[Vh]at hl ⊢;exact .of_eq (h us hl)
def wC(CX:CXT)(X:Cx)(E:XK):Prop:=∀(pins:List (Addr×Obj))(σ:St)(H:Hp)(s:Shared)(e:Value)(s':Shared),Inv X pins σ H s->CX X.stack H s E e s'->X.xe e s'
section
variable {X:Cx}{CX:CXT}{k:Nat}{f C:Addr}{fd:FuncData}{ps:List Str}{sp:Sp}{dvs:List V}{ds:List Value}{E:XK}{x m:Str}{p pos apos:Pos}{e o:Expr}{es:List Expr}{ta:TE}{t:TA}
def HS(F:FnOk X.prog X.w X.K X.mg X.base CX k f fd ps sp)(hr:Room k X.A)(hb:Binds X.K fd ps ds)(hd:Vals dvs ds)(hx:wC CX X E)
  (I:Inv X pins σ H s)(r:Vals vs us)(h:sp (vs++dvs) H Q E):wpAny (model X.prog X.w) X.A (call (.ref f) us) (EP X pins σ Q) X.xe s:=by
 have r2:Vals (vs++dvs) (us++ds):=r.append hd;have hl:(us++ds).length=ps.length:=by rw[← r2.length];exact F.len _ _ _ _ h
 refine wpAny_call (codeAny_mono (F.run X.A X.stack s H ⟨us,[]⟩ (us++ds) (vs++dvs) Q E hr I.env0 (hb s us I.kIn hl) r2 h) fun r s' hq=>?_);cases r with
 | error e=>exact hx pins σ H s e s' I hq
 | ok fl =>
  cases fl with
  | ret u=>exact I.after hq
  | next=>exact False.elim hq
  | brk=>exact False.elim hq
  | cont=>exact False.elim hq
def Fr(F:FnOk X.prog X.w X.K X.mg X.base CX k f fd ps sp)(hr:Room k X.A)(hg:Gl X x)(hm:X.mg x=some (.ref f))(hk:PySem.W.keepIn X.K (.ref f)=true)(hb:Binds X.K fd ps ds)(hd:Vals dvs ds)(hx:wC CX X E)
  (ha:PA X (e::es) t)(hdb:(x == ("__debug__":Str))=false:=by decide)(he:starEach (e::es) X.env=(false,eval e X.env)::starEach es X.env:=by rfl)(hpl:(backTo pos (starEach es X.env)).any (·.1)=false:=by rfl) :
  PE X (.Call (.Name x p) (e::es) [] pos) (CQ sp dvs E t):=by
 intro pins s σ H Q I h;refine Bi (na I hg hm ?_ hdb);refine PySem.W.callWith_K (h₀:=X.base) I.ok.mod.kin hk (thn (ha pos pins s σ H _ I h) fun us s1 ⟨vs,H1,I1,r,q⟩=>⟨I1.kIn,?_⟩) he hpl;exact HS F hr hb hd hx I1 r q
end
structure FnScope(N P:List Str)(sc:Scope):Prop where
 kind:sc.kind=.function
 co:sc.isCoroutine=false
 gen:sc.isGenerator=false
 nd:N.Nodup
 pre:N.take P.length=P
 par:∀x∈P,sc.names.lookup x=some .local∨sc.names.lookup x=some .cell
 nofree:∀y∈sc.names,y.2≠.free
theorem sC{kindOf:Str->Option NameKind}{x:Str}:∀{binds:List (Str×Value)}{m:Str->Option Value},(∀v,(x,v)∉binds)->bindL kindOf binds m x=m x
 | [],_,_=>rfl
 | (n,v)::r,m,h=>by
  unfold bindL;rw[sC fun w hw=>h w (Vb _ hw)];split
  ·have:x≠n:=by rintro rfl;exact h v Zc
   simp[this]
  ·rfl
theorem sD{kindOf:Str->Option NameKind}{x:Str}:∀{binds:List (Str×Value)}{m:Str->Option Value},(∀v,(x,v)∉binds)->bindC kindOf binds m x=m x
 | [],_,_=>rfl
 | (n,v)::r,m,h=>by
  unfold bindC;rw[sD fun w hw=>h w (Vb _ hw)];split
  ·rfl
  ·have:x≠n:=by rintro rfl;exact h v Zc
   simp[this]
theorem sE{kindOf:Str->Option NameKind}{x:Str}{v:Value}:∀{P:List Str}{vs:List Value}{i:Nat}{m:Str->Option Value},P.Nodup->P[i]?=some x->vs[i]?=some v->kindOf x=some .local ->
  bindL kindOf (P.zip vs) m x=some v
 | [],_,_,_,_,h,_,_=>by simp at h
 | _::_,[],_,_,_,_,h,_=>by simp at h
 | p::P,w::vs,0,m,nd,h1,h2,hk=>by
  simp at h1 h2;subst h1;subst h2;show bindL kindOf ((p,w)::P.zip vs) m p=_;unfold bindL;rw[sC fun v hv=>(Zh.mp nd).1 (BH hv).1,Ag hk];simp
 | p::P,w::vs,i+1,m,nd,h1,h2,hk=>by
  show bindL kindOf ((p,w)::P.zip vs) m x=_;unfold bindL;exact sE (i:=i) (Zh.mp nd).2 (by simpa using h1) (by simpa using h2) hk
theorem sF{kindOf:Str->Option NameKind}{x:Str}{v:Value}:∀{P:List Str}{vs:List Value}{i:Nat}{m:Str->Option Value},P.Nodup->P[i]?=some x->vs[i]?=some v->kindOf x≠some .local ->
  bindC kindOf (P.zip vs) m x=some v
 | [],_,_,_,_,h,_,_=>by simp at h
 | _::_,[],_,_,_,_,h,_=>by simp at h
 | p::P,w::vs,0,m,nd,h1,h2,hk=>by
  simp at h1 h2;subst h1;subst h2;show bindC kindOf ((p,w)::P.zip vs) m p=_;unfold bindC;rw[sD fun v hv=>(Zh.mp nd).1 (BH hv).1,Al hk];simp
 | p::P,w::vs,i+1,m,nd,h1,h2,hk=>by
  show bindC kindOf ((p,w)::P.zip vs) m x=_;unfold bindC;exact sF (i:=i) (Zh.mp nd).2 (by simpa using h1) (by simpa using h2) hk
def start(N:List Str)(vs:List V):St:=vs.map some++List.replicate (N.length-vs.length) none
def wD(CX:CXT)(P:Program)(w:World)(K:Aa)(mg:Str->Option Value)(base:Heap)(N:List Str)(qual:Str)(scope:Scope)(f:Addr)(cd:Value)(A:Around)(outer:List Env)(s:Shared)(H:Hp)(E:XK):Cx where
 prog:=P
 w:=w
 K:=K
 mg:=mg
 base:=base
 A:=A.deeper (envOfC qual scope s.heap.objs.size f cd)
 N:=N
 s₀:=s
 H₀:=H
 env:=envOfC qual scope s.heap.objs.size f cd
 outer:=outer
 stack:=envOfC qual scope s.heap.objs.size f cd::outer
 ex:=[]
 calm:=true
 fn:=fun _=>true
 pn:=[]
 xe:=fun e s'=>wpAny (model P w) (A.deeper (envOfC qual scope s.heap.objs.size f cd)) (leaving (envOfC qual scope s.heap.objs.size f cd) e) (fun _ s''=>CX outer H s E e s'') (fun e' s''=>CX outer H s E e' s'') s'
def va{sc:Scope}(h:sc.names.lookup x=some .cell):∃c,(cellsFrom n sc.names []).lookup x=some c:=by
 have q:=BU sc.names n [] (.inl h);exact Option.isSome_iff_exists.mp q
def zx{CX:CXT}{P:Program}{w:World}{K:Aa}{mg:Str->Option Value}{base:Heap}{N ps:List Str}{qual:Str}{scope:Scope}{f:Addr}{cd:Value}{A:Around}{outer:List Env}{s s1:Shared}{H:Hp}{E:XK}{us:List Value}{vs:List V}
  (S:FnScope N ps scope)(hd:A.handled=none)(e0:Env0 P w K mg base A outer s H)(hl:vs.length=ps.length)(r:Vals vs us)
  (x:InCallC s s.heap.objs.size (bindL (envOfC qual scope s.heap.objs.size f cd).kindOf (ps.zip us) fun _=>none) (cellsFrom (s.heap.objs.size+1) scope.names []) (bindC (envOfC qual scope s.heap.objs.size f cd).kindOf (ps.zip us) fun _=>none) s1) :
  Inv (wD CX P w K mg base N qual scope f cd A outer s H E) [] (start N vs) H s1:=by
 have hpl:ps.length<=N.length:=by have:=congrArg List.length S.pre;rw[BB]at this;lia
 obtain⟨h1,tk,rfl,hk⟩:=x.done;have noA:∀b:Addr,b∉(wD CX P w K mg base N qual scope f cd A outer s H E).ex:=fun b z=>absurd (show b∈([]:List Addr) from z) (by simp)
 refine⟨⟨e0.mod,S.kind,rfl,rfl,Xb _,fun y z c h1 h2=>?_,fun y hy=>?_,fun y c _ h=>?_,fun _=>hd,Around.frames_deeper e0.frames,.inr ⟨rfl,rfl⟩,fun b z=>absurd z (noA b),e0.bs,e0.bsz,fun b _ _=>noA b,fun b z=>absurd z (noA b),e0.funs,e0.frf⟩,
  rfl,e0.bare,Un.kept hk,⟨_,x.toInCall.ns,fun i y v h1 h2 h3=>?_⟩,fun y c h=>⟨_,x.cell y c h⟩,e0.hok.fresh (Xb _),fun y c h=>?_,fun p hp=>absurd (show p∈([]:List (Addr×Obj)) from hp) (by simp),e0.hok.kept hk,?_⟩
 ·exact name_of_addr x.apart (Ax h1) (Ax h2)
 ·have hy:scope.names.lookup y=some .cell∨scope.names.lookup y=some .free:=hy;rcases hy with hy|hy
  ·exact va hy
  ·exact absurd rfl (S.nofree _ (Ax hy))
 ·exact Vk (x.above y c (Ax h))
 ·have hi:i<vs.length:=by
   unfold start at h2;by_cases hi:i<vs.length
   ·exact hi
   ·rw[Xe (by simpa using hi)]at h2
    rw[Wg]at h2;split at h2<;>cases h2
  have ha:vs[i]?=some v:=by
   unfold start at h2;rw[Zf (by simpa using hi),Qd]at h2
   cases e:vs[i]? with
   | none=>rw[e]at h2;cases h2
   | some a=>rw[e]at h2;cases h2;rfl
  obtain⟨u,hu,rv⟩:=r.get ha;have hp:ps[i]?=some y:=by
   rw[← S.pre,List.getElem?_take_of_lt (by lia)];exact h1
  have ndP:ps.Nodup:=by rw[← S.pre];exact S.nd.sublist (List.take_sublist _ _)
  refine⟨u,rv,?_⟩;rcases S.par y (Xc hp) with k|k
  ·exact .inl ⟨k,sE ndP hp hu k⟩
  ·obtain⟨c,e⟩:=va (n:=s.heap.objs.size+1) k;refine .inr ⟨.inl k,c,e,?_⟩;have q:=x.cell y c e;rw[sF ndP hp hu (by show scope.names.lookup y≠_;rw[k];decide)]at q
   exact q
 ·exact e0.hok.fresh (Vk (x.above y c (Ax h)))
 ·unfold start;show _=N.length;rw[Qb,Za,Yf];lia
def Kt{CX:CXT}{K:Aa}{mg:Str->Option Value}{k:Nat}{f:Addr}{name qual:Str}{params:Arguments}{body:List Stmt}{scope:Scope}{dV kV doc pm cdv ct oc:Value}{an od:Option Addr}
  {osl:Array (Option Value)}{N ps:List Str}{sp:Sp}(lk:K.lookup f=some ⟨oc,od,.func (PySem.W.fnOf name qual params body scope dV kV doc pm an cdv ct),osl⟩)(hcd:PySem.W.codeIn K cdv qual=true)(S:FnScope N ps scope)
  (len:∀vs H Q E,sp vs H Q E->vs.length=ps.length)
  (hbody:∀(A:Around)(outer:List Env)(s:Shared)(H:Hp)(vs:List V)(Q:VK)(E:XK),Room k (A.deeper (envOfC qual scope s.heap.objs.size f cdv))->sp vs H Q E ->
   ∃t,PSs (wD CX P w K mg base N qual scope f cdv A outer s H E) body t/\t { nx:=fun _ H'=>Q .non H',rt:=Q } (start N vs) H) :
  FnOk P w K mg base CX (k+1) f (PySem.W.fnOf name qual params body scope dV kV doc pm an cdv ct) ps sp:=by
 refine⟨len,fun A outer s H args us vs Q E hr e0 hb r hsp=>?_⟩;have hl:=len _ _ _ _ hsp;have KX:K.In s.heap:=e0.mod.kin.keeps fun b o e=>(e0.bs b o e).1;have lim:s.heap.NoLimit:=e0.mod.nolimit.keeps fun b o e=>(e0.bs b o e).1;have hkind:∀y∈ps.zip us,scope.names.lookup y.1=some .local∨(scope.names.lookup y.1=some .cell/\((cellsFrom (s.heap.objs.size+1) scope.names []).lookup y.1).isSome=true):=fun⟨n,v⟩ hy=>by
  rcases S.par n (BH hy).1 with q|q
  ·exact .inl q
  ·exact .inr ⟨q,BU _ _ _ (.inl q)⟩
 refine codeAny_call_function hr.depth (KX _ _ lk) rfl S.co S.gen rfl (PySem.W.codeRec_of KX hcd) (hb _ _ _ _ ?_);refine wpAny_newFunctionEnv_cells S.kind hkind fun env he s1 x=>?_;subst he;refine⟨lim.keeps x.toInCall.keep,codeAny_func ?_⟩;obtain⟨t,ht,hq⟩:=hbody A outer s H vs Q E (hr.deeper _) hsp;have I:Inv (wD CX P w K mg base N qual scope f cdv A outer s H E) [] (start N vs) H s1:=zx S hr.hd e0 hl r x;refine AA (ht [] s1 (start N vs) H _ I hq) (fun fl s' hs=>?_) fun e s' hs=>hs;have fin:∀{σ':St}{H':Hp}{v:V}{u:Value},Inv (wD CX P w K mg base N qual scope f cdv A outer s H E) [] σ' H' s'->RelV v u->Q v H'->CE outer P w H s Q u s' :=
  fun {σ' H' v u} J rv q=>⟨v,H',J.os,J.bare,J.base,J.hok,rv,q⟩
 cases fl with
 | ret u =>
  obtain⟨v,σ',H',J,rv,q⟩:=hs;exact fin J rv q
 | next =>
  obtain⟨σ',H',J,q⟩:=hs;exact fin (v:=V.non) (u:=Value.none) J rfl q
 | brk =>
  obtain⟨_,_,_,q⟩:=hs;exact False.elim q
 | cont =>
  obtain⟨_,_,_,q⟩:=hs;exact False.elim q
end L2
namespace L2
open PySem PySem.Spec PyProof.Rows
section
variable {X:Cx}{x:Str}{p pos:Pos}{e:Expr}{es:List Expr}{t:TA}{id T:String}{r:List V->Hp->VK->Prop}
def tCB(r:List V->Hp->VK->Prop)(t:TA):TE:=fun σ H Q=>t σ H fun vs H1=>r vs H1 Q
def bR(hc:CallR X (.builtin id) r)(hg:Gl X x)(hm:X.mg x=none)(hv:bootBuiltins x=some (.builtin id))(ha:PA X (e::es) t)(hn:x≠"__name__":=by decide)(hdb:(x == ("__debug__":Str))=false:=by decide)
  (he:starEach (e::es) X.env=(false,eval e X.env)::starEach es X.env:=by rfl) (hpl:(backTo pos (starEach es X.env)).any (·.1)=false:=by rfl):PE X (.Call (.Name x p) (e::es) [] pos) (tCB r t):=by
 intro pins s σ H Q I h;refine Bi (qo I hg hm hv ?_ hn hdb);exact PyProof.Rows.callWith_builtin1 (thn (ha pos pins s σ H _ I h) fun us s1 ⟨vs,H1,I1,r1,q1⟩=>hc pins s1 σ H1 vs us Q I1 r1 q1) he hpl
def bX(hc:CallR X (.type T) r)(hg:Gl X x)(hm:X.mg x=none)(hv:bootBuiltins x=some (.type T))(ha:PA X (e::es) t)(hn:x≠"__name__":=by decide)(hdb:(x == ("__debug__":Str))=false:=by decide)
  (he:starEach (e::es) X.env=(false,eval e X.env)::starEach es X.env:=by rfl) (hpl:(backTo pos (starEach es X.env)).any (·.1)=false:=by rfl):PE X (.Call (.Name x p) (e::es) [] pos) (tCB r t):=by
 intro pins s σ H Q I h;refine Bi (qo I hg hm hv ?_ hn hdb);exact AT (thn (ha pos pins s σ H _ I h) fun us s1 ⟨vs,H1,I1,r1,q1⟩=>hc pins s1 σ H1 vs us Q I1 r1 q1) he hpl
end
end L2
namespace L2
open PySem PySem.Spec PyProof.Rows
section
variable {κ:Type}[DecidableEq κ]
def wE(kvs:List (κ×V))(k:κ):Option V:=(kvs.find? fun kv=>decide (kv.1=k)).map (·.2)
def vb{p:κ×V}{r:List (κ×V)}{k:κ}(e:p.1=k):wE (p::r) k=some p.2:=by simp[wE,Qh,e]
def vc{p:κ×V}{r:List (κ×V)}{k:κ}(e:¬ p.1=k):wE (p::r) k=wE r k:=by simp[wE,Qh,e]
theorem RelO.isSome_eq{o:Option V}{u:Option Value}(r:RelO o u):o.isSome=u.isSome:=by
 cases o with
 | none=>cases u with
  | none=>rfl
  | some _=>exact(show False from r).elim
 | some _=>cases u with
  | none=>exact(show False from r).elim
  | some _=>rfl
theorem KV.val{kvs:List (κ×V)}{vs:List (κ×Value)}(r:KV kvs vs)(k:κ):RelO (wE kvs k) (valueAt vs k):=by
 unfold KV at r;induction r with
 | nil=>exact True.intro
 | @cons p q ps qs h t ih =>
  obtain⟨h1,h2⟩:=h;by_cases e:p.1=k
  ·have e':q.1=k:=h1.symm.trans e;have b:valueAt (q::qs) k=some q.2:=by simp[valueAt,Qh,e']
   rw[vb e,b];exact h2
  ·have e':¬ q.1=k:=fun z=>e (h1.trans z);have b:valueAt (q::qs) k=valueAt qs k:=by simp[valueAt,Qh,e']
   rw[vc e,b];exact ih
end
theorem G0(r:RelV (kV k) u):(ij P w).is k u=true:=by
 cases k with
 | inl i=>obtain⟨t,e⟩:=(show ∃t,u=Value.int i t from r);subst e;exact u6 P w i t
 | inr x=>obtain⟨t,e⟩:=(show ∃t,u=Value.str x t from r);subst e;exact fV P w x t
def Ku(i:Expr):Prop:=∀ov iv,subscripted i false ov iv=operate [ov,iv] (getItem ov iv)
def Fs{A:Around}{E:Value->Shared->Prop}{T id:String}{Q:Value->Shared->Prop}
  (hl:typeLookup (.type T) "__getitem__"=pure (some (.builtin id)))(hs:Ku slice)
  (h:wpAny (model prog w) A (eval value env) (fun o s₁=>wpAny (model prog w) A (eval slice env) (fun i s₂=>s₂.TypeIs o T/\wpAny (model prog w) A (getItem o i) Q E s₂) E s₁) E s) :
  wpAny (model prog w) A (eval (.Subscript value slice pos) env) Q E s:=by
 refine Subscript_ (AA h (fun o s₁ h₁=>AA h₁ (fun i s₂ h₂=>?_) fun _ _ x=>x) fun _ _ x=>x);obtain⟨hT,h₂⟩:=h₂;unfold subscriptTail;refine Ab ?_;rw[getitemInPython_of_ne hT.not_modules];refine Ab (wpAny_specialOf hT hl ?_);have fin:wpAny (model prog w) A (subscripted slice false o i) (fun r s₃=>wpAny (model prog w) A (letTemporaryGo value o r >>= fun _=>pure r) Q E s₃) E s₂:=by
  rw[hs o i];exact wpAny_operating (AA h₂ (fun r s₃ h₃=>Ab (wpAny_letTemporaryGo (Af h₃))) fun _ _ x=>x)
 first
  | exact Af (Ab fin)
  | exact Ab (Af (Ab fin))
  | exact Ab fin
end L2
namespace HT
open PySem PyProof.Rows
def rcLt_int(A:Around)(s:Shared)(a:Int)(t:Tok)(c:Int)(u:Tok)(prog:Program)(w:World)(E:Value->Shared->Prop)(Q:Value->Shared->Prop)(h:Q (.bool (decide (a<c))) s) :
  wpAny (model prog w) A (richCompare .Lt (.int a t) (.int c u)) Q E s :=
 (PyProof.Rows.lt_int h:wpAny (model prog w) A (compareOp .Lt (.int a t) (.int c u)) Q E s)
section
variable {prog:Program}{w:World}{A:Around}{E:Value->Shared->Prop}{s:Shared}
def cat_tup{vs ws:List Value}(ht:IsTup s.heap t vs.toArray)(hb:IsTup s.heap b ws.toArray)(hv:vs≠[])
  (h1:ws=[]->Q (.ref t) s)(h2:ws≠[]->Q (.ref s.heap.objs.size) { s with heap:=s.heap.push { cls:=.type "tuple",data:=.seq (vs++ws).toArray } })
  (hsz:vs.length+ws.length<=sizeLine):wpAny (model prog w) A (binaryOp .Add (.ref t) (.ref b)) Q E s:=by
 obtain⟨⟨cls,dd,data,sl⟩,ho,hc,n,hd⟩:=id ht;obtain⟨⟨cls2,dd2,data2,sl2⟩,ho2,hc2,n2,hd2⟩:=id hb;simp only at hc hd hc2 hd2;subst hc hd hc2 hd2;have e:vs.toArray++ws.toArray=(vs++ws).toArray:=by simp
 by_cases hw:ws=[]
 ·exact concat_meets ⟨_,ho,rfl⟩ ⟨_,ho2,rfl⟩ Bv seq_tuple_add A2 A0 (AY _ _)
   (tuple_addW1 t b vs.toArray ws.toArray n n2 dd dd2 sl sl2 (by simpa using hv) (by simp[hw])) ⟨ho,ho2,h1 hw⟩
 ·refine concat_meets ⟨_,ho,rfl⟩ ⟨_,ho2,rfl⟩ Bv seq_tuple_add A2 A0 (AY _ _)
   (tuple_addW2 t b vs.toArray ws.toArray n n2 dd dd2 sl sl2 (by simpa using hv) (by simpa using hw) (by rw[Wb,Wb];exact hsz)) ⟨ho,ho2,?_⟩
  rw[e];exact h2 hw
def sIx(n d:Nat):Option Int->Nat
 | none=>d
 | some v=>if v<0 then(v+(n:Int)).toNat else min v.toNat n
def sIx_none(n d:Nat):sIx n d none=d:=rfl
def sIx_nat(n d k:Nat):sIx n d (some (k:Int))=min k n:=by
 show(if (k:Int)<0 then((k:Int)+(n:Int)).toNat else min (k:Int).toNat n)=min k n;rw[Al (by lia),Ql]
theorem HU(n d:Nat)(hd:d<=n)(o:Option Int):sIx n d o<=n:=by
 cases o with
 | none=>exact hd
 | some v =>
  show(if v<0 then(v+(n:Int)).toNat else min v.toNat n)<=n;by_cases hv:v<0
  ·rw[Ag hv];lia
  ·rw[Al hv];exact Nat.min_le_right _ _
def clip_nat(v:Int)(n:Nat)(hv:¬ v<0):min v (n:Int)=((min v.toNat n:Nat):Int):=by
 obtain⟨k,rfl⟩:=Xi (Int.not_lt.mp hv);rw[Ql];rcases Nat.le_total k n with h|h
 ·rw[Wk h];exact Int.min_eq_left (Int.ofNat_le.mpr h)
 ·rw[Nat.min_eq_right h];exact Int.min_eq_right (Int.ofNat_le.mpr h)
def x8(v:Int)(n d:Nat):(if v<0 then max (v+(n:Int)) 0 else min v (n:Int))=((sIx n d (some v):Nat):Int):=by
 show(if v<0 then max (v+(n:Int)) 0 else min v (n:Int))=(((if v<0 then(v+(n:Int)).toNat else min v.toNat n):Nat):Int);by_cases hv:v<0
 ·rw[Ag hv,Ag hv];exact(Int.ofNat_toNat _).symm
 ·rw[Al hv,Al hv];exact clip_nat v n hv
def wF(lo hi:Option Int)(n:Nat):Builtin.Slice.sliceAdjust lo hi 1 (n:Int)=(((sIx n 0 lo:Nat):Int),((sIx n n hi:Nat):Int)):=by
 have h1:¬ ((1:Int)<0):=by lia
 unfold Builtin.Slice.sliceAdjust;simp only[h1,if_false];refine Prod.ext ?_ ?_
 ·cases lo with
  | none=>rfl
  | some v=>exact x8 v n 0
 ·cases hi with
  | none=>rfl
  | some v=>exact x8 v n n
def wG(i j:Nat):Builtin.Slice.slicePlaces (i:Int) (j:Int) 1=j-i:=by
 unfold Builtin.Slice.slicePlaces;have h1:(1:Int) > 0:=by lia
 simp only[h1,if_true,Int.ediv_one];split<;>lia
theorem qt(p:IsPart v o)(h:Q o s):wpAny (model prog w) A (Builtin.Slice.slicePartIndex v) Q E s:=by
 cases p with
 | none=>exact slicePart_none h
 | int i t=>exact slicePart_int h
def iZ{sl:Addr}{vl vu:Value}{lo hi:Option Int}{n:Nat}{Q:Int×Int×Nat->Shared->Prop}(hs:s.heap.IsSliceOf sl vl vu .none)(pl:IsPart vl lo)(pu:IsPart vu hi)
  (h:Q (((sIx n 0 lo:Nat):Int),1,sIx n n hi-sIx n 0 lo) s):wpAny (model prog w) A (Builtin.Slice.sliceApplied (.ref sl) (pure (n:Int))) Q E s:=by
 obtain⟨os,hos,hcs,hds⟩:=id hs;unfold Builtin.Slice.sliceApplied Builtin.Slice.sliceFields;refine Ab (Ab (Au hos hds (x:=vl) rfl (Ab (Au hos hds (x:=vu) rfl (Ab (Au hos hds (x:=.none) rfl (Af ?_)))))));refine Ab (slicePart_none ?_);show wpAny _ _ (if ((1:Int) == 0)=true then _ else _) _ _ s;rw[Al (by decide)]
 refine Ab (qt pl (Ab (qt pu (Ab (Af ?_)))));show wpAny _ _ (match Builtin.Slice.sliceAdjust lo hi 1 (n:Int) with|(lo,hi)=>pure (lo,(1:Int),Builtin.Slice.slicePlaces lo hi 1)) _ _ s
 rw[wF lo hi n];show wpAny _ _ (pure (((sIx n 0 lo:Nat):Int),(1:Int),Builtin.Slice.slicePlaces ((sIx n 0 lo:Nat):Int) ((sIx n n hi:Nat):Int) 1)) _ _ s;rw[wG];exact Af h
def CS(xs:Array Value)(i k:Nat):((List.range k).filterMap fun(m:Nat)=>xs[((i:Int)+(m:Int)*1).toNat]?).toArray=((xs.toList.drop i).take k).toArray:=by
 have e:(fun(m:Nat)=>xs[((i:Int)+(m:Int)*1).toNat]?)=fun m=>xs[i+m]?:=by
  funext m
  have:((i:Int)+(m:Int)*1).toNat=i+m:=by lia
  rw[this]
 rw[e];have:=pick_run xs i k;rw[List.filterMap_map]at this;have e2:((fun x=>xs[x]?) ∘ fun x=>i+x)=fun m=>xs[i+m]?:=rfl;rw[e2]at this;rw[this]
def getItem_tuple_cut{t sl:Addr}{items:Array Value}{vl vu:Value}{lo hi:Option Int}{Q:Value->Shared->Prop}(ht:IsTup s.heap t items)(hs:s.heap.IsSliceOf sl vl vu .none)(pl:IsPart vl lo)(pu:IsPart vu hi)
  (hw:¬ (sIx items.size 0 lo=0/\sIx items.size items.size hi=items.size))
  (h:Q (.ref s.heap.objs.size) { s with heap:=s.heap.push { cls:=.type "tuple",data:=.seq ((items.toList.drop (sIx items.size 0 lo)).take (sIx items.size items.size hi-sIx items.size 0 lo)).toArray } })
  (hsz:items.size<=sizeLine):wpAny (model prog w) A (getItem (.ref t) (.ref sl)) Q E s:=by
 have htake:sizeOk (.seq ((items.toList.drop (sIx items.size 0 lo)).take (sIx items.size items.size hi-sIx items.size 0 lo)).toArray):=by
  show((items.toList.drop (sIx items.size 0 lo)).take (sIx items.size items.size hi-sIx items.size 0 lo)).toArray.size<=sizeLine;rw[Wb,BB,Xk,Zd];exact Wc (Nat.min_le_right _ _) (Wc (Nat.sub_le _ _) hsz)
 have hj:sIx items.size items.size hi<=items.size:=HU _ _ (Xb _) hi;obtain⟨os,hos,hcs,hds⟩:=id hs;have hTs:s.TypeIs (.ref sl) "slice":=⟨os,hos,hcs⟩;unfold getItem
 try with_reducible refine AK ?_
 first|refine Ab (Af ?_)|skip
 refine Ab (wpAny_sequenceKey ht.typeIs (by decide) ?_)
 refine Ab (Az (name:=Str.ofString "__getitem__") ht.typeIs AE
  (AG AE ht.typeIs entry_tuple_getitem ?_ (args_tuple_getitem _ _)))
 show wpAny _ _ (Builtin.Tuple.tupleItemsOf (.ref t) >>= _) _ _ s;refine Ab (tupleItemsOf_ ht ?_);refine Ab (AO hTs ?_);rw[Ag (by decide)]
 refine Ab (iZ hs pl pu ?_);have hno:¬ ((((sIx items.size 0 lo:Nat):Int) == 0&&(1:Int) == 1&&(sIx items.size items.size hi-sIx items.size 0 lo) == items.size)=true):=by
  intro q;rw[Wf,Wf]at q;have q1:((sIx items.size 0 lo:Nat):Int)=0:=eq_of_beq q.1.1;have q2:sIx items.size items.size hi-sIx items.size 0 lo=items.size:=eq_of_beq q.2;exact hw ⟨by lia,by lia⟩
 show wpAny _ _ (if (((sIx items.size 0 lo:Nat):Int) == 0&&(1:Int) == 1&&(sIx items.size items.size hi-sIx items.size 0 lo) == items.size)=true then _ else _) _ _ s;rw[Al hno,CS]
 first
  | exact Ab (m:=Builtin.Tuple.tupleExact _) (AD (Af ⟨_,rfl,Af h⟩) htake)
  | exact Ab (m:=Builtin.Tuple.tupleExact _) (AD (Ab (Af (Af ⟨_,rfl,Af h⟩))) htake)
  | exact Ab (Ab (m:=Builtin.Tuple.tupleExact _) (AD (Af (Af ⟨_,rfl,Af h⟩)) htake))
  | exact Ab (Ab (m:=Builtin.Tuple.tupleExact _) (AD (Af ⟨_,rfl,Af h⟩) htake))
end
end HT
namespace L2
open PySem PySem.Spec PyProof.Rows
abbrev TO:=St->Hp->(Option Int->Hp->Prop)->Prop
def PO(X:Cx)(e:Option Expr)(t:TO):Prop :=
 ∀(pins:List (Addr×Obj))(s:Shared)(σ:St)(H:Hp)(Q:Option Int->Hp->Prop),Inv X pins σ H s->t σ H Q ->
  wpAny (model X.prog X.w) X.A (evalPart e X.env) (fun u s'=>∃o H',Inv X pins σ H' s'/\IsPart u o/\Q o H') X.xe s
def x9:TO:=fun _ H Q=>Q none H
def G1(t:TE):TO:=fun σ H Q=>t σ H fun x H1=>∃i,x=.int i/\Q (some i) H1
section
variable {X:Cx}{e:Expr}{te:TE}{lo hi:Option Expr}{tl th:TO}{pos p2:Pos}
def cn:PO X none x9:=by
 intro pins s σ H Q I h;rw[evalPart_none];exact Af ⟨none,H,I,.none,h⟩
def bP(h:PE X e te):PO X (some e) (G1 te):=by
 intro pins s σ H Q I hw;rw[evalPart_some];refine thn (h pins s σ H _ I hw) fun u s1 zz9=>?_;obtain⟨x,H1,I1,r1,q1⟩:=zz9;obtain⟨i,rfl,q⟩:=q1;obtain⟨t,rfl⟩:=r1;exact⟨some i,H1,I1,.int i t,q⟩
def SlR(X:Cx)(r:V->Option Int->Option Int->Hp->VK->Prop):Prop :=
 ∀(pins:List (Addr×Obj))(s:Shared)(σ:St)(H:Hp)(x:V)(v vl vu:Value)(lo hi:Option Int)(sl:Addr)(Q:VK),Inv X pins σ H s->RelV x v->s.heap.IsSliceOf sl vl vu .none->IsPart vl lo->IsPart vu hi->r x lo hi H Q ->
  ∃T id,typeLookup (.type T) "__getitem__"=pure (some (.builtin id))/\s.TypeIs v T/\wpAny (model X.prog X.w) X.A (getItem v (.ref sl)) (EP X pins σ Q) X.xe s
def SlR.or(h:SlR X r)(h':SlR X r'):SlR X (fun x lo hi H Q=>r x lo hi H Q∨r' x lo hi H Q):=by
 intro pins s σ H x v vl vu lo hi sl Q I rx hs pl pu q;rcases q with q|q
 ·exact h pins s σ H x v vl vu lo hi sl Q I rx hs pl pu q
 ·exact h' pins s σ H x v vl vu lo hi sl Q I rx hs pl pu q
def tSl(r:V->Option Int->Option Int->Hp->VK->Prop)(te:TE)(tl th:TO):TE:=fun σ H Q=>te σ H fun x H1=>tl σ H1 fun l H2=>th σ H2 fun u H3=>r x l u H3 Q
def bD(hr:SlR X r)(he:PE X e te)(hl:PO X lo tl)(hu:PO X hi th):PE X (.Subscript e (.Slice lo hi none p2) pos) (tSl r te tl th):=by
 intro pins s σ H Q I h;refine Subscript_ (thn (he pins s σ H _ I h) fun v s1 zz9=>?_);obtain⟨x,H1,I1,r1,q1⟩:=zz9;refine wpAny_Slice (thn (hl pins s1 σ H1 _ I1 q1) fun vl s2 ⟨l,H2,I2,pl,q2⟩=>thn (hu pins s2 σ H2 _ I2 q2) fun vu s3 zz9=>?_);obtain⟨u,H3,I3,pu,q3⟩:=zz9;rw[evalPart_none];refine Af ?_;have I4:Inv X pins σ H3 { s3 with heap:=s3.heap.push { cls:=.type "slice",data:=.fields #[vl,vu,.none] } }:=I3.kept (t':=s3.toks) fun b ob q=>Ac _ q;obtain⟨T,id,hT,ht,hg⟩:=hr pins { s3 with heap:=s3.heap.push { cls:=.type "slice",data:=.fields #[vl,vu,.none] } } σ H3 x v vl vu l u s3.heap.objs.size Q I4 r1 (Heap.IsSliceOf.new ..) pl pu q3;show wpAny (model X.prog X.w) X.A (subscriptTail e (.Slice lo hi none p2) v (.ref s3.heap.objs.size)) (EP X pins σ Q) X.xe { s3 with heap:=s3.heap.push { cls:=.type "slice",data:=.fields #[vl,vu,.none] } };exact tail_any (ops:=[.ref s3.heap.objs.size,v]) ht hT hg (by with_unfolding_all rfl)
def vd(xs:List V)(lo hi:Option Int):List V:=(xs.drop (HT.sIx xs.length 0 lo)).take (HT.sIx xs.length xs.length hi-HT.sIx xs.length 0 lo)
def pf(xs:List V)(lo hi:Option Int):(vd xs lo hi).length<=xs.length:=by
 unfold vd;rw[BB,Xk];lia
def HV(K:Aa):V->Option Int->Option Int->Hp->VK->Prop:=fun x lo hi H Q=>∃a xs,x=.ref a/\SqT K H a xs /\
 ¬ (HT.sIx xs.length 0 lo=0/\HT.sIx xs.length xs.length hi=xs.length)/\∀p,H p=none->Q (.ref p) (upd H p (.tup (vd xs lo hi)))
def HW:SlR X (HV X.K):=by
 intro pins s σ H x v vl vu lo hi sl Q I rx hs pl pu h;obtain⟨a,xs,rfl,hx,hw,q⟩:=h;cases rx;obtain⟨its,r,ht,hz⟩:=I.tuple hx;have hlen:its.toArray.size=xs.length:=by rw[Wb];exact r.length.symm
 refine⟨"tuple",_,AE.lookup,ht.typeIs,?_⟩;refine HT.getItem_tuple_cut ht hs pl pu (by rw[hlen];exact hw) ?_ (by rw[hlen];exact hz)
 rw[hlen];refine⟨.ref s.heap.objs.size,_,I.laid (t':=s.toks) (o:=.tup (vd xs lo hi)) (fun b ob q=>Ac _ q) (Xb _) ?_,rfl,q _ (I.hok.fresh (Xb _))⟩;exact⟨Wc (pf xs lo hi) hz,_,(r.drop (HT.sIx xs.length 0 lo)).take (HT.sIx xs.length xs.length hi-HT.sIx xs.length 0 lo),IsTup.new _ _⟩
def CT(K:Aa):R2:=fun x y H Q=>∃a b xs ys,x=.ref a/\y=.ref b/\SqT K H a xs/\SqT K H b ys/\xs≠[]/\xs.length+ys.length<=sizeLine /\
 (ys=[]->Q (.ref a) H)/\(ys≠[]->∀p,H p=none->Q (.ref p) (upd H p (.tup (xs++ys))))
theorem Vals.nil_iff(r:Vals xs us):us=[]↔xs=[]:=by
 cases r with
 | nil=>simp
 | cons _ _=>simp
def Ft:OpR X (binaryOp .Add) (CT X.K):=by
 intro pins s σ H x y v u Q I rx ry h;obtain⟨a,b,xs,ys,rfl,rfl,ha,hb,hx,hz,q1,q2⟩:=h;cases rx;cases ry;obtain⟨its,r1,p1,_⟩:=I.tuple ha;obtain⟨its2,r2,p2,_⟩:=I.tuple hb;refine HT.cat_tup p1 p2 (fun z=>hx (r1.nil_iff.mp z)) (fun z=>⟨.ref a,H,I,rfl,q1 (r2.nil_iff.mp z)⟩) (fun z=>?_) (by rw[← r1.length,← r2.length];exact hz)
 refine⟨.ref s.heap.objs.size,_,I.laid (t':=s.toks) (o:=.tup (xs++ys)) (fun b ob q=>Ac _ q) (Xb _) ?_,rfl,q2 (fun w=>z (r2.nil_iff.mpr w)) _ (I.hok.fresh (Xb _))⟩;exact⟨by rw[Qb];exact hz,_,r1.append r2,IsTup.new _ _⟩
end
end L2
namespace L2
open PySem PySem.Spec PyProof.Rows
def ixN(n:Nat)(i:Int):Option Nat:=if 0<=i then(if i<n then some i.toNat else none) else if -(n:Int)<=i then some (i+n).toNat else none
def atI{α:Type}(xs:List α)(i:Int):Option α:=(ixN xs.length i).bind fun j=>xs[j]?
def ya(h:ixN n i=some j):seqIndex? i n=some j/\j<n/\-(n:Int)<=i/\i<n:=by
 unfold ixN at h;by_cases h0:0<=i
 ·rw[Ag h0]at h;by_cases h1:i<n
  ·rw[Ag h1]at h;have e:i.toNat=j:=Option.some.inj h;exact⟨by rw[seqIndex_of h0 h1,e],by lia,by lia,h1⟩
  ·rw[Al h1]at h;cases h
 ·rw[Al h0]at h;by_cases h1:-(n:Int)<=i
  ·rw[Ag h1]at h;have e:(i+n).toNat=j:=Option.some.inj h;exact⟨by rw[seqIndex_neg (by lia) h1,e],by lia,h1,by lia⟩
  ·rw[Al h1]at h;cases h
theorem tL{xs:List α}(h:atI xs i=some v):∃j,seqIndex? i xs.length=some j/\xs[j]?=some v/\j<xs.length/\-(xs.length:Int)<=i/\i<xs.length:=by
 unfold atI at h;cases e:ixN xs.length i with
 | none=>rw[e]at h;cases h
 | some j =>
  rw[e]at h;obtain⟨h1,h2,h3,h4⟩:=ya e;exact⟨j,h1,h,h2,h3,h4⟩
def cb{α:Type}{xs:List α}{j:Nat}{v:α}(h:xs[j]?=some v):atI xs (j:Int)=some v:=by
 have hj:j<xs.length:=(Xd.mp h).1;have e:ixN xs.length (j:Int)=some j:=by
  unfold ixN;rw[Ag (by lia),Ag (by lia)];simp
 unfold atI;rw[e];exact h
def tM(b:Expr):Prop:=∀o i,subscripted b false o i=operate [o,i] (getItem o i)
def IxR(X:Cx)(r:R2):Prop :=
 ∀(value slice:Expr)(pins:List (Addr×Obj))(s:Shared)(σ:St)(H:Hp)(x y:V)(v u:Value)(Q:VK),Inv X pins σ H s->RelV x v->RelV y u->r x y H Q ->
  subscripted slice false v u=operate [v,u] (getItem v u)->wpAny (model X.prog X.w) X.A (subscriptTail value slice v u) (EP X pins σ Q) X.xe s
def MtR(X:Cx)(id:String)(r:V->List V->Hp->VK->Prop):Prop :=
 ∀(pins:List (Addr×Obj))(s:Shared)(σ:St)(H:Hp)(x:V)(xs:List V)(v:Value)(us:List Value)(Q:VK),Inv X pins σ H s->RelV x v->Vals xs us->r x xs H Q ->
  wpAny (model X.prog X.w) X.A (call (.builtin id) (v::us)) (EP X pins σ Q) X.xe s
section
variable {X:Cx}{a b:Expr}{ta tb:TE}{pos:Pos}
def IxR.or(h:IxR X r)(h':IxR X r'):IxR X (fun x y H Q=>r x y H Q∨r' x y H Q):=by
 intro value slice pins s σ H x y v u Q I rx ry q hs;rcases q with q|q
 ·exact h value slice pins s σ H x y v u Q I rx ry q hs
 ·exact h' value slice pins s σ H x y v u Q I rx ry q hs
def G2(hr:IxR X r)(ha:PE X a ta)(hb:PE X b tb)(hs:tM b):PE X (.Subscript a b pos) (tOp r ta tb):=by
 intro pins s σ H Q I h;exact Subscript_ (HP ha hb I h fun v u s2 x y H2 I2 rx ry q=>hr a b pins s2 σ H2 x y v u Q I2 rx ry q (hs _ _))
def HX(K:Aa):R2:=fun x y H Q=>∃p xs i v,x=.ref p/\y=.int i/\SqL K H p xs/\atI xs i=some v/\Q v H
def HY(K:Aa):R2:=fun x y H Q=>∃p xs i v,x=.ref p/\y=.int i/\SqT K H p xs/\atI xs i=some v/\Q v H
def HZ:R2:=fun x y H Q=>∃z i c,x=.str z/\y=.int i/\z.length<=sizeLine/\atI z.cps.toList i=some c/\Q (.str ⟨#[c]⟩) H
def ix_list:IxR X (HX X.K):=by
 intro value slice pins s σ H x y v u Q I rx ry h hs;obtain⟨p,xs,i,z,rfl,rfl,hq,he,q⟩:=h;cases rx;obtain⟨t,rfl⟩:=ry;obtain⟨its,r,pl,hz⟩:=I.list hq;obtain⟨j,h1,h2,h3,h4,h5⟩:=tL he;obtain⟨w,ew,rw'⟩:=r.get h2;have hl:=r.length;have hn:=ox;have fin:EP X pins σ Q w s:=⟨z,H,I,rw',q⟩;by_cases h0:0<=i
 ·have hj:i.toNat=j:=by
   rw[seqIndex_of h0 h5]at h1;exact Option.some.inj h1
  exact item_listR pl.isList h0 (by lia) (by rw[hj];simpa using ew) fin hs
 ·have hj:(i+(its.toArray.size:Int)).toNat=j:=by
   rw[seqIndex_neg (by lia) h4]at h1
   rw[Wb,← hl];exact Option.some.inj h1
  exact subscriptTail_builtinR (x:=w) pl.isList.typeIs slot_list_getitem.lookup
   (wpAny_getItem_list_neg (Q:=fun r s'=>r=w/\EP X pins σ Q r s') pl.isList (by lia) (by rw[Wb]<;>lia) (by lia) (by rw[hj];simpa using ew) ⟨rfl,fin⟩) hs
def ix_tup:IxR X (HY X.K):=by
 intro value slice pins s σ H x y v u Q I rx ry h hs;obtain⟨p,xs,i,z,rfl,rfl,hq,he,q⟩:=h;cases rx;obtain⟨t,rfl⟩:=ry;obtain⟨its,r,pl,hz⟩:=I.tuple hq;obtain⟨j,h1,h2,h3,h4,h5⟩:=tL he;obtain⟨w,ew,rw'⟩:=r.get h2;have hl:=r.length;have hn:=ox;have fin:EP X pins σ Q w s:=⟨z,H,I,rw',q⟩;exact subscriptTail_builtinR (x:=w) pl.typeIs slot_tuple_getitem.lookup
  (getItem_tuple (j:=j) (Q:=fun r s'=>r=w/\EP X pins σ Q r s') pl (by lia) (by lia) (by rw[Wb,← hl];exact h1) (by simpa using ew) ⟨rfl,fin⟩) hs
def ix_str:IxR X HZ:=by
 intro value slice pins s σ H x y v u Q I rx ry h hs;obtain⟨z,i,c,rfl,rfl,hz,he,q⟩:=h;obtain⟨t,rfl⟩:=rx;obtain⟨t',rfl⟩:=ry;obtain⟨j,h1,h2,h3,h4,h5⟩:=tL he;have hl:z.cps.toList.length=z.length:=by simp[Str.length]
 rw[hl]at h1 h4 h5;have hn:=ox
 exact tail_any (AV s z t) slot_str_getitem.lookup (getItem_str (c:=c) (by
  have e1:decide (i < -(2 ^ 63:Int))=false:=Ae (by lia)
  have e2:decide (i ≥ 2 ^ 63)=false:=Ae (by lia)
  rw[e1,e2,Bool.or_false]) (by rw[h1];simpa using h2) ⟨.str ⟨#[c]⟩,H,I.tok _,⟨_,rfl⟩,q⟩) hs
def rIx(K:Aa):R2:=fun x y H Q=>HX K x y H Q∨HY K x y H Q∨HZ x y H Q
def H0:IxR X (rIx X.K):=ix_list.or (ix_tup.or ix_str)
def wH(its:List Value)(n j:Nat)(u:Value):Obj.mapSeq (·.setIfInBounds j u) { cls:=.type "list",data:=.seq its.toArray n }={ cls:=.type "list",data:=.seq (its.set j u).toArray n }:=by
 simp[Obj.mapSeq]
theorem Inv.lst{s:Shared}(I:Inv X pins σ H s)(h:H p=some (.lst xs)) :
  ∃(its:List Value)(n:Nat),Vals xs its/\s.heap.get? p=some { cls:=.type "list",data:=.seq its.toArray n }/\xs.length<=sizeLine:=by
 obtain⟨z,its,n,r,e⟩:=I.hok p _ h;exact⟨its,n,r,e,z⟩
def Inv.lstUpd{s:Shared}{xs ys:List V}{its its':List Value}(I:Inv X pins σ H s)(h:H p=some (.lst xs))
  (ho:s.heap.get? p=some { cls:=.type "list",data:=.seq its.toArray n })(hf:f { cls:=.type "list",data:=.seq its.toArray n }={ cls:=.type "list",data:=.seq its'.toArray n' })(r:Vals ys its')(hz:ys.length<=sizeLine)(t:Nat) :
  Inv X pins σ (upd H p (.lst ys)) { s with heap:=s.heap.update p f,toks:=t }:=by
 have e:(s.heap.update p f).get? p=some { cls:=.type "list",data:=.seq its'.toArray n' }:=by
  rw[Heap.get?_update_self f ho (by rw[hf]<;>rfl),hf]
 refine I.write (x:=p) (e:=p) (by rw[h];trivial) (.inl rfl) (fun b u hb q=>(A3 _ _ (AC hb)).trans q) ⟨_,e⟩ ?_
 exact⟨hz,its',n',r,e⟩
def G3:V->V->V->Hp->(Hp->Prop)->Prop:=fun o i v H Q=>∃p xs k j,o=.ref p/\i=.int k/\H p=some (.lst xs)/\ixN xs.length k=some j/\Q (upd H p (.lst (xs.set j v)))
def set_list:Kl X G3:=by
 intro pins s σ H o i v ov iv u Q I ro ri rv h;obtain⟨p,xs,k,j,rfl,rfl,hp,hj,q⟩:=h;cases ro;obtain⟨t,rfl⟩:=ri;obtain⟨its,n,r,ho,hz⟩:=I.lst hp;obtain⟨h1,h2,h3,h4⟩:=ya hj;have hl:=r.length;have hn:=ox;have I':Inv X pins σ (upd H p (.lst (xs.set j v))) { s with heap:=s.heap.update p (Obj.mapSeq (·.setIfInBounds j u)) } :=
  I.lstUpd hp ho (wH its n j u) (r.set rv j) (by rw[List.length_set];exact hz) s.toks
 by_cases h0:0<=k
 ·have hk:k.toNat=j:=by
   rw[seqIndex_of h0 h4]at h1;exact Option.some.inj h1
  exact PySem.W.ki_setAt ho h0 (by lia) (by rw[Wb,← hl];exact h4) (by rw[hk];exact⟨_,I',q⟩)
 ·have hk:(k+(its.toArray.size:Int)).toNat=j:=by
   rw[seqIndex_neg (by lia) h3]at h1
   rw[Wb,← hl];exact Option.some.inj h1
  exact PySem.W.ki_setBack ho (by lia) (by rw[Wb,← hl];exact h3) (by lia) (by rw[hk];exact⟨_,I',q⟩)
def CU(i:Int)(n:Nat):max 0 (min (if i<0 then i+(n:Int) else i) (n:Int))=(((if i<0 then(i+(n:Int)).toNat else min i.toNat n):Nat):Int):=by
 by_cases h:i<0
 ·rw[Ag h,Ag h,Int.min_eq_left (by lia),Int.max_comm];exact(Int.ofNat_toNat _).symm
 ·rw[Al h,Al h,HT.clip_nat i n h];exact Int.max_eq_right (Bl _)
def tN(lo hi:Option Int)(n:Nat):(sliceBounds lo hi none n).1=((HT.sIx n 0 lo:Nat):Int)/\(sliceBounds lo hi none n).2.1=((HT.sIx n n hi:Nat):Int)/\(sliceBounds lo hi none n).2.2=1:=by
 refine⟨?_,?_,rfl⟩
 ·cases lo with
  | none=>simp[sliceBounds,HT.sIx]
  | some i=>exact CU i n
 ·cases hi with
  | none=>simp[sliceBounds,HT.sIx]
  | some i=>exact CU i n
def rM(its:List Value)(lo hi:Option Int):slicePick its.toArray lo hi none=((its.drop (HT.sIx its.length 0 lo)).take (HT.sIx its.length its.length hi-HT.sIx its.length 0 lo)).toArray:=by
 obtain⟨h1,h2,h3⟩:=tN lo hi its.toArray.size;unfold slicePick;rw[h1,h2,h3];simp only[sliceRange_one,pick_run,Wb]<;>rfl
def H9(K:Aa):V->Option Int->Option Int->Hp->VK->Prop:=fun x lo hi H Q=>∃a xs,x=.ref a/\SqL K H a xs/\∀p,H p=none->Q (.ref p) (upd H p (.lst (vd xs lo hi)))
def Fu:SlR X (H9 X.K):=by
 intro pins s σ H x v vl vu lo hi sl Q I rx hs pl pu h;obtain⟨a,xs,rfl,hx,q⟩:=h;cases rx;obtain⟨its,r,ht,hz⟩:=I.list hx;have hlen:=r.length;refine⟨"list",_,slot_list_getitem.lookup,ht.isList.typeIs,?_⟩;refine wpAny_getItem_list_slice ht.isList hs pl pu .none (by simp) ?_ (by rw[Wb]<;>lia)
 rw[rM,← hlen];refine⟨.ref s.heap.objs.size,_,I.laid (t':=s.toks) (o:=.lst (vd xs lo hi)) (fun b ob q=>Ac _ q) (Xb _) ?_,rfl,q _ (I.hok.fresh (Xb _))⟩;exact⟨Wc (pf xs lo hi) hz,_,0,(r.drop (HT.sIx xs.length 0 lo)).take (HT.sIx xs.length xs.length hi-HT.sIx xs.length 0 lo),Ak _ rfl⟩
def ma:V->Bool
 | .non=>true
 | .bl _=>true
 | .int _=>true
 | .str _=>true
 | _=>false
def eqV:V->V->Bool
 | .non,.non=>true
 | .bl a,.bl b=>a == b
 | .bl a,.int b=>(if a then 1 else 0) == b
 | .int a,.bl b=>a == (if b then 1 else 0)
 | .int a,.int b=>a == b
 | .str a,.str b=>a == b
 | _,_=>false
theorem Ia(ry:RelV y u)(rx:RelV x v)(fy:ma y=true)(fx:ma x=true):SeqAt.EqAt A s u v (eqV y x):=by
 cases y with
 | non =>
  cases ry;cases x with
  | non=>cases rx;exact SeqAt.EqAt.same _
  | bl b=>cases rx;exact SeqAt.EqAt.none_bool b
  | int b=>obtain⟨t,rfl⟩:=rx;exact SeqAt.EqAt.none_int b t
  | str b=>obtain⟨t,rfl⟩:=rx;exact SeqAt.EqAt.none_str b t
  | _=>exact absurd (show false=true from fx) Qc
 | bl a =>
  cases ry;cases x with
  | non=>cases rx;exact SeqAt.EqAt.bool_none a
  | bl b=>cases rx;exact SeqAt.EqAt.bool_bool a b
  | int b=>obtain⟨t,rfl⟩:=rx;exact SeqAt.EqAt.bool_int a b t
  | str b=>obtain⟨t,rfl⟩:=rx;exact SeqAt.EqAt.bool_str a b t
  | _=>exact absurd (show false=true from fx) Qc
 | int a =>
  obtain⟨t',rfl⟩:=ry;cases x with
  | non=>cases rx;exact SeqAt.EqAt.int_none a t'
  | bl b=>cases rx;exact SeqAt.EqAt.int_bool a t' b
  | int b=>obtain⟨t,rfl⟩:=rx;exact SeqAt.EqAt.int_int a t' b t
  | str b=>obtain⟨t,rfl⟩:=rx;exact Bk a t' b t
  | _=>exact absurd (show false=true from fx) Qc
 | str a =>
  obtain⟨t',rfl⟩:=ry;cases x with
  | non=>cases rx;exact SeqAt.EqAt.str_none a t'
  | bl b=>cases rx;exact SeqAt.EqAt.str_bool a t' b
  | int b=>obtain⟨t,rfl⟩:=rx;exact Bj a t' b t
  | str b=>obtain⟨t,rfl⟩:=rx;exact SeqAt.EqAt.str_str a t' b t
  | _=>exact absurd (show false=true from fx) Qc
 | _=>exact absurd (show false=true from fy) Qc
def eqU(x:V)(u:Value):Bool:=match u with
 | .none=>eqV .non x
 | .bool b=>eqV (.bl b) x
 | .int i _=>eqV (.int i) x
 | .str z _=>eqV (.str z) x
 | _=>false
theorem CV(r:RelV y u)(f:ma y=true):eqU x u=eqV y x:=by
 cases y with
 | non=>cases r;rfl
 | bl b=>cases r;rfl
 | int i=>obtain⟨t,rfl⟩:=r;rfl
 | str z=>obtain⟨t,rfl⟩:=r;rfl
 | _=>exact absurd (show false=true from f) Qc
theorem ng:∀{xs:List V}{us:List Value},Vals xs us->xs.all ma=true->us.any (eqU x)=xs.any fun y=>eqV y x
 | _,_,.nil,_=>rfl
 | y::xs,u::us,.cons r t,f=>by
  rw[Zm,Wf]at f;rw[Bg,Bg,CV r f.1,ng t f.2]
theorem kA(rx:RelV x v)(fx:ma x=true):∀{xs:List V}{us:List Value},Vals xs us->xs.all ma=true->∀u∈us,SeqAt.EqAt A s u v (eqU x u)
 | _,_,.nil,_=>fun u hu=>by cases hu
 | y::xs,u::us,.cons r t,f=>fun u' hu=>by
  rw[Zm,Wf]at f;rcases Va.mp hu with rfl|hu
  ·rw[CV r f.1];exact Ia r rx f.1 fx
  ·exact kA rx fx t f.2 u' hu
def inV(x:V)(xs:List V):Bool:=xs.any fun y=>eqV y x
def rIn(K:Aa)(neg:Bool):R2:=fun x y H Q=>∃p xs,y=.ref p/\(SqL K H p xs∨SqT K H p xs)/\ma x=true/\xs.all ma=true/\Q (.bl (if neg then !inV x xs else inV x xs)) H
def zy:OpR X (compareOp .In) (rIn X.K false):=by
 intro pins s σ H x y v u Q I rx ry h;obtain⟨p,xs,rfl,hq,fx,fs,q⟩:=h;cases ry;rcases hq with hq|hq
 ·obtain⟨its,r,pl,hz⟩:=I.list hq;refine SeqAt.in_listAt (eqU x) pl.isList (fun w hw=>kA rx fx r fs w (by simpa using hw)) ⟨.bl _,H,I,rfl,?_⟩
  rw[show its.toArray.any (eqU x)=its.any (eqU x) by simp,ng r fs]
  exact q
 ·obtain⟨its,r,pl,hz⟩:=I.tuple hq;refine Bx (eqU x) pl (fun w hw=>kA rx fx r fs w (by simpa using hw)) ⟨.bl _,H,I,rfl,?_⟩
  rw[show its.toArray.any (eqU x)=its.any (eqU x) by simp,ng r fs]
  exact q
def tO:OpR X (compareOp .NotIn) (rIn X.K true):=by
 intro pins s σ H x y v u Q I rx ry h;obtain⟨p,xs,rfl,hq,fx,fs,q⟩:=h;cases ry;rcases hq with hq|hq
 ·obtain⟨its,r,pl,hz⟩:=I.list hq;refine SeqAt.notIn_listAt (eqU x) pl.isList (fun w hw=>kA rx fx r fs w (by simpa using hw)) ⟨.bl _,H,I,rfl,?_⟩
  rw[show its.toArray.any (eqU x)=its.any (eqU x) by simp,ng r fs]
  exact q
 ·obtain⟨its,r,pl,hz⟩:=I.tuple hq;refine SeqAt.notIn_tupleAt (eqU x) pl (fun w hw=>kA rx fx r fs w (by simpa using hw)) ⟨.bl _,H,I,rfl,?_⟩
  rw[show its.toArray.any (eqU x)=its.any (eqU x) by simp,ng r fs]
  exact q
def tP:CallR X (.builtin "len") (fun xs H Q=>∃p ys,xs=[.ref p]/\(SqL X.K H p ys∨SqT X.K H p ys)/\Q (.int ys.length) H):=by
 intro pins s σ H xs us Q I r h;obtain⟨p,ys,rfl,hq,q⟩:=h;obtain⟨u,rfl,rx⟩:=vals1 r;cases rx;have hn:=ox;rcases hq with hq|hq
 ·obtain⟨its,r',pl,hz⟩:=I.list hq;have hlen:=r'.length;exact Calls.call_len_list pl.isList (by simp only[Wb]<;>lia) ⟨.int ys.length,H,I.tok _,⟨s.toks+1,by rw[Wb,hlen]⟩,q⟩
 ·obtain⟨its,r',pl,hz⟩:=I.tuple hq;have hlen:=r'.length;exact len_tuple pl (by simp only[Wb]<;>lia) ⟨.int ys.length,H,I.tok _,⟨s.toks+1,by rw[Wb,hlen]⟩,q⟩
def tQ:CallR X (.builtin "len") (fun xs H Q=>∃z,xs=[.str z]/\z.length<=sizeLine/\Q (.int z.length) H):=by
 intro pins s σ H xs us Q I r h;obtain⟨z,rfl,hz,q⟩:=h;obtain⟨u,rfl,t,rfl⟩:=vals1 r;have hn:=ox;exact len_str (by lia) ⟨.int z.length,H,I.tok _,⟨_,rfl⟩,q⟩
def CallR.or(h:CallR X f r)(h':CallR X f r'):CallR X f (fun xs H Q=>r xs H Q∨r' xs H Q):=by
 intro pins s σ H xs us Q I rs q;rcases q with q|q
 ·exact h pins s σ H xs us Q I rs q
 ·exact h' pins s σ H xs us Q I rs q
def tR:CallR X (.type "list") (fun xs H Q=>∃p ys,xs=[.ref p]/\(SqL X.K H p ys∨SqT X.K H p ys)/\∀l,H l=none->Q (.ref l) (upd H l (.lst ys))):=by
 intro pins s σ H xs us Q I r h;obtain⟨p,ys,rfl,hq,q⟩:=h;obtain⟨u,rfl,rx⟩:=vals1 r;cases rx;have fin:∀(its:List Value),Vals ys its->ys.length<=sizeLine->∀(h':Heap)(c':Nat),(∀b o',s.heap.get? b=some o'->h'.get? b=some o') ->
   h'.get? s.heap.objs.size=some { cls:=.type "list",dict:=none,data:=.seq its.toArray c',slots:=#[] }->EP X pins σ Q (.ref s.heap.objs.size) { s with heap:=h' }:=fun its r' hz h' c' kp e =>
  ⟨.ref s.heap.objs.size,_,I.laid (t':=s.toks) kp (Xb _) (show ObjOk X.prog X.w _ h' _ (.lst ys) from⟨hz,its,c',r',e⟩),rfl,q _ (I.hok.fresh (Xb _))⟩
 rcases hq with hq|hq
 ·obtain⟨its,r',pl,hz⟩:=I.list hq;have hlen:=r'.length;obtain⟨o,ho,hc,n,hd⟩:=pl.isList;exact call_list_seq p (.inl rfl) ho hc hd (fun h' c' kp e=>fin its r' hz h' c' kp e) (by simp only[Wb]<;>lia)
 ·obtain⟨its,r',pl,hz⟩:=I.tuple hq;have hlen:=r'.length;obtain⟨o,ho,hc,n,hd⟩:=pl;exact call_list_seq p (.inr rfl) ho hc hd (fun h' c' kp e=>fin its r' hz h' c' kp e) (by simp only[Wb]<;>lia)
def rN:CallR X (.type "tuple") (fun xs H Q=>∃p ys,xs=[.ref p]/\((SqL X.K H p ys/\∀l,H l=none->Q (.ref l) (upd H l (.tup ys)))∨(SqT X.K H p ys/\Q (.ref p) H))):=by
 intro pins s σ H xs us Q I r h;obtain⟨p,ys,rfl,h⟩:=h;obtain⟨u,rfl,rx⟩:=vals1 r;cases rx;rcases h with⟨hq,q⟩|⟨hq,q⟩
 ·obtain⟨its,r',pl,hz⟩:=I.list hq;have hlen:=r'.length;refine call_tuple_list pl.isList (fun h' kp=>?_) (by simp only[Wb]<;>lia)
  have I1:Inv X pins σ H { s with heap:=h' }:=I.kept (t':=s.toks) kp;have I2:Inv X pins σ (upd H h'.objs.size (.tup ys)) { s with heap:=h'.push { cls:=.type "tuple",data:=.seq its.toArray } } :=
   I1.laid (t':=s.toks) (fun b o e=>Ac _ e) (Xb _) (show ObjOk X.prog X.w _ _ _ (.tup ys) from⟨hz,its,r',IsTup.new _ _⟩)
  exact⟨.ref h'.objs.size,_,I2,rfl,q _ (I1.hok.fresh (Xb _))⟩
 ·obtain⟨its,r',pl,hz⟩:=I.tuple hq;exact call_tuple_same pl ⟨.ref p,H,I,rfl,q⟩
def tyV(K:Aa)(T:String)(x:V)(H:Hp):Prop:=match x with
 | .str _=>T="str"
 | .int _=>T="int"
 | .ref p=>(T="list"/\∃xs,SqL K H p xs)∨(T="tuple"/\∃o,K.lookup p=some o/\o.cls=.type "tuple"/\o.dict=none) ∨
   (T="dict"/\((∃kvs,H p=some (.dK kvs))∨∃ep kvs,H p=some (.dT ep kvs)))∨(T="set"/\∃S n,H p=some (.set S n))
 | _=>False
def Ib{s:Shared}(I:Inv X pins σ H s)(r:RelV x v)(ty:tyV X.K T x H) :
  s.TypeIs v T/\∀a,v=.ref a->∃ob,s.heap.get? a=some ob/\ob.dict=none:=by
 cases x with
 | str z =>
  obtain⟨t,rfl⟩:=r;cases (show T="str" from ty);exact⟨AV s z t,fun _ e=>nomatch e⟩
 | int i =>
  obtain⟨t,rfl⟩:=r;cases (show T="int" from ty);exact⟨typeIs_int s i t,fun _ e=>nomatch e⟩
 | ref p =>
  cases r;rcases ty with⟨rfl,xs,hq⟩|⟨rfl,o,hk,hc,hd⟩|⟨rfl,hk⟩|⟨rfl,S,n,hk⟩
  ·obtain⟨its,_,pl,_⟩:=I.list hq;refine⟨pl.isList.typeIs,fun a e=>?_⟩;cases e;obtain⟨o,n,e,c,hd,_⟩:=pl;exact⟨o,e,hd⟩
  ·refine⟨⟨o,I.kIn p o hk,hc⟩,fun a e=>?_⟩;cases e;exact⟨o,I.kIn _ o hk,hd⟩
  ·have z:∃o,s.heap.get? p=some o/\o.ExactDict:=by
    rcases hk with⟨kvs,hk⟩|⟨ep,kvs,hk⟩
    ·obtain⟨_,_,_,_,o,_,_,e,ex,_⟩:=I.hok p _ hk;exact⟨o,e,ex⟩
    ·obtain⟨_,_,_,_,_,o,_,e,ex,_⟩:=I.hok p _ hk;exact⟨o,e,ex⟩
   obtain⟨o,e,ex⟩:=z;refine⟨⟨o,e,ex.1⟩,fun a e2=>?_⟩;cases e2;exact⟨o,e,ex.2.1⟩
  ·obtain⟨o,_,_,_,e,ex,_⟩:=I.hok p _ hk;refine⟨⟨o,e,ex.1⟩,fun a e2=>?_⟩;cases e2;exact⟨o,e,ex.2.1⟩
 | _=>exact False.elim ty
def tBM(K:Aa)(T:String)(r:V->List V->Hp->VK->Prop)(to:TE)(t:TA):TE:=fun σ H Q=>to σ H fun x H1=>tyV K T x H1/\t σ H1 fun xs H2=>r x xs H2 Q
variable {o e:Expr}{es:List Expr}{to:TE}{t:TA}{name:Str}{apos cpos:Pos}{T id:String}{r:V->List V->Hp->VK->Prop}
def cA(pa:PlainAttrs T)(slot:Slot T name id)(hty:typeOf (.builtin id)=pure (.type "method_descriptor"))(hm:MtR X id r)(ho:PE X o to)(ha:PA X (e::es) t)
  (hbase:attributeBase o name X.env (eval o X.env)=eval o X.env:=by rfl)
  (hfew:((backTo cpos (starEach (e::es) X.env)).all (fun x=>!x.1)&&(backToKw cpos (keywordEach [] X.env)).all (fun x=>x.1.isSome)
   && decide ((e::es).length+([]:List Keyword).length+(if ([]:List Keyword).isEmpty then 0 else 1)<30))=true:=by rfl)
  (hline:(apos.endLine == cpos.line)=true:=by rfl) (hs:starEach (e::es) X.env=(false,eval e X.env)::starEach es X.env:=by rfl) (hplain:(backTo cpos (starEach es X.env)).any (·.1)=false:=by rfl) :
  PE X (.Call (.Attribute o name apos) (e::es) [] cpos) (tBM X.K T r to t):=by
 intro pins s σ H Q I h;refine wpAny_Call_method_late hbase hfew hline rfl (thn (ho pins s σ H _ I h) fun v s1 zz9=>?_);obtain⟨x,H1,I1,r1,ty,q1⟩:=zz9;obtain⟨h1,h2⟩:=Ib I1 r1 ty;refine⟨T,id,pa,slot,hty,h1,h2,?_⟩;have hA:=ha cpos pins s1 σ H1 _ I1 q1;rw[hs]at hA ⊢;refine Calls.callWith_builtin (by show(false||(backTo cpos (starEach es X.env)).any (·.1))=false;rw[hplain]<;>rfl) (Calls.evalArgs_plain ?_)
 exact thn hA fun us s2 ⟨vs,H2,I2,r2,q2⟩=>hm pins s2 σ H2 x vs v us Q I2 r1 r2 q2
end
end L2
namespace L2
open PySem PySem.Spec PyProof.Rows
def MtM(X:Cx)(id:String)(r:V->List V->Hp->VK->Prop):Prop :=
 ∀(pins:List (Addr×Obj))(s:Shared)(σ:St)(H:Hp)(x:V)(xs:List V)(v:Value)(us:List Value)(Q:VK),Inv X pins σ H s->RelV x v->Vals xs us->r x xs H Q ->
  wpAny (model X.prog X.w) X.A (call (.builtin id) (v::us)) (EP X pins σ Q) X.xe s
theorem Vals.one:∀{x:V}{us:List Value},Vals [x] us->∃u,us=[u]/\RelV x u
 | _,_,.cons r .nil=>⟨_,rfl,r⟩
section
variable {X:Cx}{pins:List (Addr×Obj)}{σ:St}{H:Hp}{s:Shared}{l b:Addr}{xs ys zs:List V}
def Inv.lset{its its':List Value}{t':Nat}(I:Inv X pins σ H s)(hH:H l=some (.lst xs))
  (e:s.heap.get? l=some { cls:=.type "list",data:=.seq its.toArray n })(hf:f its.toArray=its'.toArray)(hv:Vals ys its')(hz:ys.length<=sizeLine) :
  Inv X pins σ (upd H l (.lst ys)) { s with heap:=s.heap.update l (Obj.mapSeq f),toks:=t' }:=by
 have q:=PySem.IsL.update e f;rw[hf]at q;refine I.write (x:=l) (e:=l) (by rw[hH];exact trivial) (.inl rfl) (fun b' u hb hu=>(A3 s.heap (Obj.mapSeq f) (AC hb)).trans hu) ⟨_,q⟩ ?_
 exact⟨hz,its',_,hv,q⟩
def Inv.lnew{t':Nat}(I:Inv X pins σ H s)(hv:Vals ys its)(hz:ys.length<=sizeLine) :
  Inv X pins σ (upd H s.heap.objs.size (.lst ys)) { s with heap:=s.heap.push { cls:=.type "list",data:=.seq its.toArray },toks:=t' } :=
 I.laid (fun _ _ q=>Ac _ q) (Xb _) ⟨hz,its,0,hv,Ak _ rfl⟩
theorem Inv.fresh(I:Inv X pins σ H s):H s.heap.objs.size=none:=I.hok.fresh (Xb _)
def Inv.lstM(I:Inv X pins σ H s)(hH:H l=some (.lst xs)):xs.length<=sizeLine/\∃(its:List Value)(n:Nat),Vals xs its/\xs.length=its.length/\s.heap.get? l=some { cls:=.type "list",data:=.seq its.toArray n }:=by
 obtain⟨z,its,n,r,e⟩:=I.hok l _ hH;exact⟨z,its,n,r,r.length,e⟩
def ve(h:n<=sizeLine):Builtin.List.listTooLong n=false:=by
 unfold Builtin.List.listTooLong;exact Ae (by lia)
end
section
variable {X:Cx}
def tS:V->List V->Hp->VK->Prop:=fun x vs H Q=>∃l xs y,x=.ref l/\vs=[y]/\H l=some (.lst xs)/\xs.length<sizeLine/\Q .non (upd H l (.lst (xs++[y])))
def zF:MtM X "list.append" tS:=by
 intro pins s σ H x vs v us Q I rx rv h;obtain⟨l,xs,y,rfl,rfl,hH,hz,q⟩:=h;cases rx;obtain⟨u,rfl,ru⟩:=rv.one;obtain⟨z,its,n,r,hl,e⟩:=I.lstM hH;refine AL F.slot_list_append ⟨_,e,rfl⟩ F.entry_list_append (F.args_list_append_2 _ _) (PySem.list_append l its.toArray n u (by rw[Wb];lia)) ⟨e,?_⟩
 refine⟨.non,_,I.lset (its':=its++[u]) hH e (by simp) (r.append (.cons ru .nil)) ?_,rfl,q⟩
 rw[Qb,Vm];lia
def yb:V->List V->Hp->VK->Prop:=fun x vs H Q=>∃l b xs zs,x=.ref l/\vs=[.ref b]/\H l=some (.lst xs)/\H b=some (.lst zs)/\xs.length+zs.length<=sizeLine/\Q .non (upd H l (.lst (xs++zs)))
def zG:MtM X "list.extend" yb:=by
 intro pins s σ H x vs v us Q I rx rv h;obtain⟨l,b,xs,zs,rfl,rfl,hH,hB,hz,q⟩:=h;cases rx;obtain⟨u,rfl,ru⟩:=rv.one;cases ru;obtain⟨z,its,n,r,hl,e⟩:=I.lstM hH;obtain⟨z2,its2,n2,r2,hl2,e2⟩:=I.lstM hB;have hsz:its.toArray.size+its2.toArray.size<=sizeLine:=by rw[Wb,Wb];lia
 have hlong:¬ (!its.toArray.isEmpty&&Builtin.List.listTooLong (its.toArray.size+its2.toArray.size))=true:=by
  rw[ve hsz,Bool.and_false];exact Qc
 refine AL F.slot_list_extend ⟨_,e,rfl⟩ F.entry_list_extend (F.args_list_extend_2 _ _)
  (AutoSeq1.list_extend_list_list_0 l its.toArray n b its2.toArray n2 hlong (by rw[Wb];lia) (by lia)) ⟨e,e2,?_⟩
 refine⟨.non,_,I.lset (its':=its++its2) hH e (by simp) (r.append r2) ?_,rfl,q⟩
 rw[Qb];lia
def Ic:R2:=fun x y H Q=>∃l b xs zs,x=.ref l/\y=.ref b/\H l=some (.lst xs)/\H b=some (.lst zs)/\xs.length+zs.length<=sizeLine/\∀p,H p=none->Q (.ref p) (upd H p (.lst (xs++zs)))
def op_cat:OpR X (binaryOp .Add) Ic:=by
 intro pins s σ H x y v u Q I rx ry h;obtain⟨l,b,xs,zs,rfl,rfl,hH,hB,hz,q⟩:=h;cases rx;cases ry;obtain⟨z,its,n,r,hl,e⟩:=I.lstM hH;obtain⟨z2,its2,n2,r2,hl2,e2⟩:=I.lstM hB;refine PySem.P.add_list e e2 ?_ (by rw[Wb,Wb];lia)
 have ea:its.toArray++its2.toArray=(its++its2).toArray:=by simp
 rw[ea];exact⟨.ref _,_,I.lnew (t':=s.toks) (r.append r2) (by rw[Qb];lia),rfl,q _ I.fresh⟩
end
end L2
namespace Att
open PySem PySem.W PySem.Calls PyProof.Rows
theorem pJ:∀(ns:List Int)(vs:List Value),WellAll P h vs (ns.map WData.int)->IntsAre vs ns:=by
 intro ns;induction ns with
 | nil =>
  intro vs w;rw[List.map_nil]at w;cases w;exact .nil
 | cons n ns ih =>
  intro vs w;rw[Xf]at w;cases w with
  | cons a b =>
   cases a;exact .cons _ _ (ih _ b)
def zH{l:OpenLaw}(hn:l.most=some n){h:Heap}
  (hpre:l.row.toRowW.claim.pre args=true)(hwl:WellAll P h vals args) :
  ∃a vs ns,vals=[Value.ref a]/\args=[WData.list (ns.map WData.int)]/\h.get? a=some { cls:=.type "list",data:=.seq vs.toArray }/\IntsAre vs ns/\ns.length<=n:=by
 have hsh:WShape.hasAll [] args [.list .int]=true:=(pre_splitW hpre).1;have hc:l.pre.holds [] { args:=args }=true:=(pre_splitW hpre).2;obtain⟨d,r,rfl,h1,h2⟩:=hasAllW_cons hsh;obtain rfl:=hasAllW_nil h2;obtain⟨xs,rfl,h3⟩:=hasW_list h1;obtain⟨ns,rfl⟩:=items_int h3;have hlen:ns.length<=n:=by
  unfold OpenLaw.pre at hc;have h4:(WTm.not (.lt (.lit (.int (n:Int))) (.len (.arg 0)))).holds [] { args:=[.list (ns.map .int)] }=true:=by
   have h4:=(holds_andW hc).1;rw[hn]at h4;exact h4
  have h5:=condW_of h4 (w_not (w_lt w_lit (w_len_list (w_arg rfl))));rw[Za]at h5;refine Ym fun q=>?_;have q':(n:Int)<((ns.length:Nat):Int):=by lia
  first
   | (rw[Ad q']at h5;exact absurd h5 (by decide))
   | (simp at h5;lia)
 cases hwl with
 | cons w1 w2 =>
  cases w2;cases w1 with
  | list ho hall=>exact⟨_,_,ns,rfl,rfl,ho,pJ ns _ hall,hlen⟩
def zJ(l:OpenLaw)(args:List WData):l.row.toRowW.claim.post args (.bool true) args=true :=
 postW_of (r:=l.row.toRowW) (X:=(true == true))
  (show WShape.has [] (.bool true) .bool=true by first|rfl|decide|simp[WShape.has,WShape.arms,WShape.armsAll])
  (show(WTm.eq .res (.lit (.bool true))).value [] { args:=args,res:=some (.bool true),after:=args }=some (.bool (true == true)) from w_eq_bool (w_res rfl) w_lit) rfl
def attach_call{l:OpenLaw}{d:DefRec}
  (hn:l.most=some n)(hdf:d.params.defaults=[])
  (call:∀(w:World)(s₀ s₁:Shared)(mg mb:Str->Option Value)(fa:Addr)(o:Obj)(pm cd doc:Value)(a:Addr)(vs:List Value)(ns:List Int),
   Ground q loose [] XP w s₀ mg mb s₁.heap->YP w s₁.heap ->
   s₁.heap.get? fa=some o->o.data=.func (docDef d.name d.params d.body d.scope pm cd doc)->s₁.heap.CodeRec cd d.name->mg d.name=some (.ref fa) ->
   s₁.heap.get? a=some { cls:=.type "list",data:=.seq vs.toArray }->IntsAre vs ns->ns.length<=n->s₁.gens=#[] ->
   codeAny (model l.prog w) callerA (.call (.ref fa) ⟨[.ref a],[]⟩) (fun r s'=>r=.ok (.ret (.bool true))/\OldK s₁.heap s'.heap/\s'.os=s₁.os/\AllBare s'.gens) s₁) :
  WalkO q loose XP YP l.row.toRowW d [] (fun f vs=>PySem.call f vs):=by
 intro w s₀ s₁ mg mb G Y fa o pm cd doc dV kV ho hd hcd hD hmg hg args vals as hpre hlay hrd hwl hlo;obtain rfl:dV=.none:=Dflts.none hD hdf;obtain rfl:kV=.none:=Dflts.noKw hD;obtain⟨a,vs,ns,rfl,rfl,hobj,hints,hlen⟩:=zH hn hpre hwl;refine enter_call (codeAny_mono (call w s₀ s₁ mg mb fa o pm cd doc a vs ns G Y ho (fd_plain hd) hcd hmg hobj hints hlen hg) fun r s' hq=>?_);obtain⟨rfl,h2,h3,h4⟩:=hq;exact⟨.inl ⟨.bool true,.bool true,[],rfl,fun _=>rfl,.bool true,zJ l _,fun _=>⟨List.Pairwise.nil,fun _ hm=>(nomatch hm)⟩⟩,h2,h3,h4⟩
end Att
namespace L2
open PySem PySem.Spec PyProof.Rows
theorem sG:∀{vs:List Value}{ns:List Int},IntsAre vs ns->Vals (ns.map V.int) vs
 | _,_,.nil=>.nil
 | _,_,.cons n t h=>.cons ⟨t,rfl⟩ (sG h)
def Id(H:Hp):Prop:=∀b,H b=none∨∃o xs,H b=some (.frz o (.lst xs))
def CW{K:Aa}{s₁:Shared}{vs:List Value}{ns:List Int}
  (KX:K.In s₁.heap)(hns:s₁.heap.Ns mainGlobals mg)(hb:s₁.heap.Ns builtinsNs mb)(hbb:∀x:Str,x≠"__name__"->mb x=bootBuiltins x)(hlim:s₁.heap.NoLimit)(hg:s₁.gens=#[])
  (ha:s₁.heap.get? a=some { cls:=.type "list",data:=.seq vs.toArray }) (hi:IntsAre vs ns) (hl:ns.length<=sizeLine) (hr:Room k callerA)
  (F:∀base:Heap,K.In base->base.Ns mainGlobals mg->FnOk P w K mg base CX k fa fd [x] sp) (hbind:∀(s:Shared)(u:Value),BindsTo s fd ⟨[u],[]⟩ [(x,u)])
  (hsp:∀H:Hp,Id H->SqL K H a (ns.map V.int)->sp [.ref a] H (fun v _=>v=.bl true) fun _ _ _=>False)
  (hCX:∀H e s',CX [] H s₁ (fun _ _ _=>False) e s'->False) :
  codeAny (model P w) callerA (.call (.ref fa) ⟨[.ref a],[]⟩) (fun r s'=>r=.ok (.ret (.bool true))/\OldK s₁.heap s'.heap/\s'.os=s₁.os/\AllBare s'.gens) s₁:=by
 have rv:=sG hi;have IC:=hi.length;have core:∀H:Hp,Id H->SqL K H a (ns.map V.int)->HOk P w H s₁.heap->(∀b,H b≠none->b=a)->(H a≠none->K.lookup a=none) ->
   codeAny (model P w) callerA (.call (.ref fa) ⟨[.ref a],[]⟩) (fun r s'=>r=.ok (.ret (.bool true))/\OldK s₁.heap s'.heap/\s'.os=s₁.os/\AllBare s'.gens) s₁:=by
  intro H hO hS hok hA hK;have base_of:∀{b:Addr}{o:Obj},s₁.heap.get? b=some o->H b=none->(tF s₁.heap H).get? b=some o:=fun e n=>CB e n;have noA:∀{b:Addr}{o:Obj}{es:Array DictEntry}{ep:Nat},s₁.heap.get? b=some o->o.data=.dict es ep->H b=none:=fun {b o es ep} e d=>by
   cases q:H b with
   | none=>rfl
   | some u =>
    have e':b=a:=hA b (by rw[q];simp)
    subst e';rw[ha]at e;cases e;have d':Data.seq vs.toArray _=Data.dict es ep:=d;cases d'
  have nsK:∀{b:Addr}{m:Str->Option Value},s₁.heap.Ns b m->(tF s₁.heap H).Ns b m:=fun {b m} ⟨o,es,ep,e,d,r⟩=>⟨o,es,ep,base_of e (noA e d),d,r⟩
  have hKb:K.In (tF s₁.heap H):=fun b o e=>base_of (KX b o e) (by
   cases q:H b with
   | none=>rfl
   | some u =>
    have e':b=a:=hA b (by rw[q];simp)
    subst e'
    rw[hK (by rw[q];simp)]at e;cases e)
  have hM:Mod K mg (tF s₁.heap H):=⟨hKb,nsK hns,⟨mb,nsK hb,hbb⟩,let ⟨mc,h1,h2⟩:=hlim;⟨mc,nsK h1,h2⟩⟩;have e0:Env0 P w K mg (tF s₁.heap H) callerA [] s₁ H:=⟨rfl,hM,fun b o e=>Fm e,Nat.le_of_eq (zo _ _),trivial,fun b hb=>absurd (show b∈([]:List Addr) from hb) (by simp),hok,.of_eq hg⟩
  refine codeAny_mono ((F _ hKb (nsK hns)).run callerA [] s₁ H ⟨[.ref a],[]⟩ [.ref a] [.ref a] _ _ hr e0 (hbind s₁ (.ref a)) (.cons rfl .nil) (hsp H hO hS)) fun r s' h=>?_;cases r with
  | error e=>exact(hCX H e s' h).elim
  | ok fl =>
   cases fl with
   | next=>exact False.elim h
   | brk=>exact False.elim h
   | cont=>exact False.elim h
   | ret u =>
    obtain⟨v,H',os,bare,un,hok',r',q⟩:=h;have q':v=.bl true:=q;subst q';obtain rfl:u=Value.bool true:=r';refine⟨rfl,OldK.of_keep fun b o e=>?_,os,bare⟩;cases q:H b with
    | none=>exact un.keep b o e q (by intro z;exact absurd (show b∈([]:List Addr) from z) (by simp)) (by simp)
    | some u =>
     rcases hO b with z|⟨ob,xs,z⟩
     ·rw[q]at z;cases z
     ·have z2:=un.frzs b ob _ z;obtain⟨e1,_⟩:=hok b _ z;obtain⟨e2,_⟩:=hok' b _ z2;rw[e]at e1;cases e1;exact e2
 cases hk:K.lookup a with
 | some o =>
  have e:=KX a o hk;rw[ha]at e;cases e;refine core (fun _=>none) (fun _=>.inl rfl) (.inr ⟨_,vs.toArray,_,hk,rfl,rfl,rfl,by rw[Wb,IC];exact hl,by simpa using rv⟩) (fun b u z=>by have z':(none:Option HO)=some u:=z;cases z') (fun b z=>absurd rfl z) fun z=>absurd rfl z
 | none =>
  refine core (fun b=>if b=a then some (.frz { cls:=.type "list",data:=.seq vs.toArray } (.lst (ns.map V.int))) else none) (fun b=>?_) (.inl (.inr ⟨{ cls:=.type "list",data:=.seq vs.toArray },Ag rfl⟩)) (fun b u z=>?_) (fun b z=>?_) fun _=>hk
  ·by_cases hb:b=a
   ·exact .inr ⟨_,_,Ag hb⟩
   ·exact .inl (Al hb)
  ·by_cases hb:b=a
   ·have z':=(Ag hb).symm.trans z;cases z';subst hb;exact⟨ha,by rw[Za];exact hl,vs,_,rv,ha⟩
   ·have z':=(Al hb).symm.trans z;cases z'
  ·by_cases hb:b=a
   ·exact hb
   ·exact absurd (Al hb) z
def walk_of{l:PySem.W.OpenLaw}{n k:Nat}{loose:List Str}{XP:(Str->Option Value)->Heap->Prop}{YP:World->Heap->Prop}{d:DefRec}{K:Params->Aa}{CX:World->CXT}{sp:World->Sp}{x:Str}
  (hn:l.most=some n)(hn2:n<=sizeLine)(hdf:d.params.defaults=[])(hr:Room k callerA)
  (hY:∀(w:World)(h:Heap),YP w h->(K w.params).In h)
  (F:∀(w:World)(mg:Str->Option Value)(fa:Addr)(h:Heap),(K w.params).In h->h.Ns mainGlobals mg->mg d.name=some (.ref fa) ->
   ∃fd:FuncData,(∀(s:Shared)(u:Value),BindsTo s fd ⟨[u],[]⟩ [(x,u)]) /\
    ∀base:Heap,(K w.params).In base->base.Ns mainGlobals mg->FnOk l.prog w (K w.params) mg base (CX w) k fa fd [x] (sp w))
  (hsp:∀(w:World)(H:Hp)(a:Addr)(ns:List Int),ns.length<=n->Id H->SqL (K w.params) H a (ns.map V.int)->sp w [.ref a] H (fun v _=>v=.bl true) fun _ _ _=>False)
  (hCX:∀(w:World)(H:Hp)(s:Shared)(e:Value)(s':Shared),CX w [] H s (fun _ _ _=>False) e s'->False) :
  PySem.W.WalkO q loose XP YP l.row.toRowW d [] (fun f vs=>PySem.call f vs):=by
 refine Att.attach_call hn hdf fun w s₀ s₁ mg mb fa o pm cd doc a vs ns G Y ho hd hcd hmg hobj hints hlen hg=>?_;have KX:=hY w _ Y;obtain⟨fd,hb,hF⟩:=F w mg fa _ KX G.T.g hmg;exact CW KX G.T.g G.T.b G.T.builtins G.T.nolimit hg hobj hints (Wc hlen hn2) hr hF hb (fun H hO hS=>hsp w H a ns hlen hO hS) fun H e s'=>hCX w H s₁ e s'
end L2
namespace L2
open PySem PySem.Spec PyProof.Rows
def il(s:Stmt):Arguments:=match s with
 | .FunctionDef _ a _ _ _ _ _ _ _ _=>a
 | _=>{ posonlyargs:=[],args:=[],vararg:=none,kwonlyargs:=[],kw_defaults:=[],kwarg:=none,defaults:=[] }
def fN(s:Stmt):List Stmt:=match s with
 | .FunctionDef _ _ b _ _ _ _ _ _ _=>b
 | _=>[]
def ak(s:Stmt):Scope:=match s with
 | .FunctionDef _ _ _ _ _ _ sc _ _ _=>sc
 | _=>{ kind:=.function,names:=[],isGenerator:=false,isCoroutine:=false }
abbrev CX0:CXT:=fun _ _ _ _ _ _=>False
abbrev E0:XK:=fun _ _ _=>False
def Kv:wC CX0 X E0:=fun _ _ _ _ _ _ _ h=>h.elim
structure Fun(K:Aa)(x qual:Str)(st:Stmt)(f:Addr)(fd:FuncData):Prop where
 ex:∃(oc:Value)(od:Option Addr)(kV doc pm:Value)(an:Option Addr)(cdv ct:Value)(osl:Array (Option Value)),
  fd=PySem.W.fnOf x qual (il st) (fN st) (ak st) .none kV doc pm an cdv ct/\K.lookup f=some ⟨oc,od,.func fd,osl⟩/\PySem.W.codeIn K cdv qual=true
 kp:PySem.W.keepIn K (.ref f)=true
section
variable {P:Program}{w:World}{K:Aa}{mg:Str->Option Value}{base:Heap}
def Fun.ok{x qual:Str}{st:Stmt}{f:Addr}{fd:FuncData}{N ps:List Str}{k:Nat}{sp:Sp}(F:Fun K x qual st f fd)(S:FnScope N ps (ak st))(len:∀vs H Q E,sp vs H Q E->vs.length=ps.length)
  (hbody:∀(cdv:Value)(A:Around)(outer:List Env)(s:Shared)(H:Hp)(vs:List V)(Q:VK)(E:XK),Room k (A.deeper (envOfC qual (ak st) s.heap.objs.size f cdv))->sp vs H Q E ->
   ∃t,PSs (wD CX0 P w K mg base N qual (ak st) f cdv A outer s H E).nox (fN st) t/\t { nx:=fun _ H'=>Q .non H',rt:=Q } (start N vs) H):FnOk P w K mg base CX0 (k+1) f fd ps sp:=by
 obtain⟨oc,od,kV,doc,pm,an,cdv,ct,osl,rfl,lk,hcd⟩:=F.ex;refine Kt lk hcd S len fun A outer s H vs Q E hr hsp=>?_;obtain⟨t,h,q⟩:=hbody cdv A outer s H vs Q E hr hsp;exact⟨t,h.nox,q⟩
def Fun.binds{x qual:Str}{st:Stmt}{f:Addr}{fd:FuncData}{ps:List Str}(F:Fun K x qual st f fd)
  (h:∀(kV doc pm:Value)(an:Option Addr)(cdv ct:Value)(us:List Value),us.length=ps.length->bindArgs (PySem.W.fnOf x qual (il st) (fN st) (ak st) .none kV doc pm an cdv ct) ⟨us,[]⟩=pure (ps.zip us)):Binds K fd ps []:=by
 obtain⟨oc,od,kV,doc,pm,an,cdv,ct,osl,rfl,lk,hcd⟩:=F.ex;exact .all (h kV doc pm an cdv ct)
def Ie{x qual:Str}{st:Stmt}{f:Addr}{oc:Value}{od an:Option Addr}{osl:Array (Option Value)}{kV doc pm cdv ct:Value}(l:K.lookup f=some ⟨oc,od,.func (PySem.W.fnOf x qual (il st) (fN st) (ak st) .none kV doc pm an cdv ct),osl⟩)
  (c:PySem.W.codeIn K cdv qual=true)(k:PySem.W.keepIn K (.ref f)=true):Fun K x qual st f (PySem.W.fnOf x qual (il st) (fN st) (ak st) .none kV doc pm an cdv ct):=⟨⟨oc,od,kV,doc,pm,an,cdv,ct,osl,rfl,l,c⟩,k⟩
end
def zK(h:n<=1000):n<sizeLine:=Zl h (by decide)
section
variable {X:Cx}
def pv(i:Nat)(hN:X.N[i]?=some x:=by rfl)(hv:Vis X.env.scope x:=by first|exact Or.inl rfl|exact Or.inr (Or.inl rfl)|exact Or.inr (Or.inr rfl))(hd:(x == ("__debug__":Str))=false:=by decide)
  (hcd:(x == ("__classdict__":Str))=false:=by decide):PE X (.Name x pos) (zp i):=HH hN hv hd hcd
end
def Same(H H':Hp):Prop:=∀b o,H b=some o->H' b=some o
def Same.refl(H:Hp):Same H H:=fun _ _ h=>h
end L2
namespace L2
open PySem PySem.Spec PyProof.Rows
def ci(env:Env):List (Str×NameKind)->List (Str×Addr)->List (Str×Addr)
 | [],acc=>acc
 | (n,k)::r,acc=>if k=.free then ci env r ((n,(env.cells.lookup n).getD 0)::acc) else ci env r acc
theorem ji{env:Env}{f:Str×NameKind->List (Str×Addr)->Sem (ForInStep (List (Str×Addr)))}
  (h1:∀n k cs c,k=NameKind.free->env.cells.lookup n=some c->f (n,k) cs=pure (.yield ((n,c)::cs)))
  (h2:∀n k cs,k≠NameKind.free->f (n,k) cs=pure (.yield cs)) :
  ∀(names:List (Str×NameKind))(acc:List (Str×Addr)),(∀x∈names,x.2=.free->∃c,env.cells.lookup x.1=some c)->forIn names acc f=pure (ci env names acc)
 | [],_,_=>rfl
 | (n,k)::r,acc,h=>by
  have hr:∀x∈r,x.2=.free->∃c,env.cells.lookup x.1=some c:=fun x hx=>h x (Vb _ hx);by_cases hk:k=.free
  ·obtain⟨c,hc⟩:=h (n,k) Zc hk;have e:ci env ((n,k)::r) acc=ci env r ((n,c)::acc):=by
    show(if k=.free then _ else _)=_;rw[Ag hk];have hc':env.cells.lookup n=some c:=hc;rw[hc'];rfl
   rw[Qm,h1 n k acc c hk hc,pure_bind,e];exact ji h1 h2 r _ hr
  ·have e:ci env ((n,k)::r) acc=ci env r acc:=by
    show(if k=.free then _ else _)=_;rw[Al hk]
   rw[Qm,h2 n k acc hk,pure_bind,e];exact ji h1 h2 r _ hr
def nh{scope:Scope}{env:Env}(h:∀x∈scope.names,x.2=.free->∃c,env.cells.lookup x.1=some c):closureFor scope env=pure (ci env scope.names []):=by
 simp only[closureFor];have key:=fun f h1 h2=>ji (env:=env) (f:=f) h1 h2 scope.names [] h
 rw[key _ (fun n k cs c hk hc=>by subst hk;simp[cellOf,hc]) (fun n k cs hk=>by
  have:(k == NameKind.free)=false:=by simpa using hk
  simp only[this,We,if_false])]
 rfl
def cI{α β:Type}[BEq α]{x n:α}{k:β}{r:List (α×β)}:List.lookup x ((n,k)::r)=if (x == n)=true then some k else List.lookup x r:=by
 rw[List.lookup_cons];cases x == n<;>rfl
theorem iM{env:Env}{x:Str}{c:Addr}:∀(names:List (Str×NameKind))(acc:List (Str×Addr)),(∀x∈names,x.2=.free->∃c,env.cells.lookup x.1=some c) ->
  (∀y c,acc.lookup y=some c->env.cells.lookup y=some c)->(ci env names acc).lookup x=some c->env.cells.lookup x=some c
 | [],acc,_,ha,e=>ha x c e
 | (n,k)::r,acc,h,ha,e=>by
  have hr:∀x∈r,x.2=.free->∃c,env.cells.lookup x.1=some c:=fun x hx=>h x (Vb _ hx);by_cases hk:k=.free
  ·obtain⟨c',hc⟩:=h (n,k) Zc hk;have hc':env.cells.lookup n=some c':=hc;have q:ci env ((n,k)::r) acc=ci env r ((n,c')::acc):=by
    show(if k=.free then _ else _)=_;rw[Ag hk,hc'];rfl
   rw[q]at e;refine iM r _ hr (fun y d hy=>?_) e;rw[cI]at hy;by_cases hyn:(y == n)=true
   ·rw[Ag hyn]at hy;have:y=n:=by simpa using hyn
    rw[this,hc',hy]
   ·rw[Al hyn]at hy;exact ha y d hy
  ·have q:ci env ((n,k)::r) acc=ci env r acc:=by
    show(if k=.free then _ else _)=_;rw[Al hk]
   rw[q]at e;exact iM r _ hr ha e
theorem mv{env:Env}{x:Str}{c:Addr}(hx:env.cells.lookup x=some c):∀(names:List (Str×NameKind))(acc:List (Str×Addr)),(acc.lookup x=some c∨(x,NameKind.free)∈names)->(ci env names acc).lookup x=some c
 | [],acc,h=>by
  rcases h with h|h
  ·exact h
  ·cases h
 | (n,k)::r,acc,h=>by
  by_cases hk:k=.free
  ·have q:ci env ((n,k)::r) acc=ci env r ((n,(env.cells.lookup n).getD 0)::acc):=by
    show(if k=.free then _ else _)=_;rw[Ag hk]
   rw[q];refine mv hx r _ ?_;by_cases hxn:(x == n)=true
   ·left;have e:x=n:=by simpa using hxn
    rw[cI,Ag hxn,← e,hx];rfl
   ·rcases h with h|h
    ·left;rw[cI,Al hxn];exact h
    ·right;rcases Va.mp h with h|h
     ·cases h;exact absurd (by simp) hxn
     ·exact h
  ·have q:ci env ((n,k)::r) acc=ci env r acc:=by
    show(if k=.free then _ else _)=_;rw[Al hk]
   rw[q];refine mv hx r _ ?_;rcases h with h|h
   ·exact .inl h
   ·rcases Va.mp h with h|h
    ·cases h;exact absurd rfl hk
    ·exact .inr h
theorem eG{env:Env}{x:Str}:∀(names:List (Str×NameKind)),
  ((names.map fun(n,k)=>if (k == NameKind.free&&env.scope.kind == .function&&env.kindOf n == some .cell) then(n,NameKind.cell) else(n,k)).lookup x=none/\names.lookup x=none) ∨
  ∃k k',names.lookup x=some k/\(names.map fun(n,k)=>if (k == NameKind.free&&env.scope.kind == .function&&env.kindOf n == some .cell) then(n,NameKind.cell) else(n,k)).lookup x=some k'/\(k'=k∨(k=.free/\k'=.cell))
 | []=>.inl ⟨rfl,rfl⟩
 | (n,k)::r=>by
  have ih:=@eG env x r;show(List.lookup x ((if (k == NameKind.free&&env.scope.kind == .function&&env.kindOf n == some .cell)=true then(n,NameKind.cell) else(n,k))::_)=none/\_)∨∃k' k'',_/\List.lookup x ((if (k == NameKind.free&&env.scope.kind == .function&&env.kindOf n == some .cell)=true then(n,NameKind.cell) else(n,k))::_)=_/\_;by_cases hc:(k == NameKind.free&&env.scope.kind == .function&&env.kindOf n == some .cell)=true
  ·rw[Ag hc,cI,cI];have hk:k=.free:=by
    simp only[Wf]at hc;simpa using hc.1.1
   by_cases hx:(x == n)=true
   ·rw[Ag hx,Ag hx];exact .inr ⟨k,.cell,rfl,rfl,.inr ⟨hk,rfl⟩⟩
   ·rw[Al hx,Al hx];exact ih
  ·rw[Al hc,cI,cI];by_cases hx:(x == n)=true
   ·rw[Ag hx,Ag hx];exact .inr ⟨k,k,rfl,rfl,.inl rfl⟩
   ·rw[Al hx,Al hx];exact ih
abbrev cxC(X:Cx)(N:List Str)(scope:Scope)(C:Addr)(s:Shared)(H:Hp)(fp:List Addr):Cx :=
 { X with N:=N,s₀:=s,H₀:=H,env:=compEnvC scope (ci X.env scope.names []) C X.env,outer:=X.stack,stack:=X.stack,ex:=fp,fn:=fun _=>false,pn:=[],xe:=fun _ _=>False }
structure BlkScope(X:Cx)(N:List Str)(k:Nat)(caps:List Nat)(scope:Scope):Prop where
 kind:scope.kind=.function
 nocell:∀y∈scope.names,y.2≠.cell
 loc:∀y∈scope.names,y.2=.local->scope.names.lookup y.1=some .local
 free:∀y∈scope.names,y.2=.free->(X.env.kindOf y.1=some .cell∨X.env.kindOf y.1=some .free)
 len:N.length=k+caps.length
 cap:∀(j i:Nat),caps[j]?=some i->∃x,N[k+j]?=some x/\X.N[i]?=some x/\scope.names.lookup x=some .free
def blk(k:Nat)(caps:List Nat)(σ:St):St:=List.replicate k none++caps.map fun i=>(σ[i]?).getD none
section
variable {X:Cx}{N:List Str}{k:Nat}{caps:List Nat}{scope:Scope}
theorem BlkScope.cells(S:BlkScope X N k caps scope)(ok:X.Ok):∀x∈scope.names,x.2=.free->∃c,X.env.cells.lookup x.1=some c:=fun x hx hk=>ok.has x.1 (S.free x hx hk)
def BlkScope.sub(S:BlkScope X N k caps scope)(ok:X.Ok)(e:(ci X.env scope.names []).lookup x=some c):X.env.cells.lookup x=some c :=
 iM _ _ (S.cells ok) (fun y c h=>by cases h) e
def BlkScope.has(S:BlkScope X N k caps scope)(ok:X.Ok)(h:scope.names.lookup x=some .free):∃c,X.env.cells.lookup x=some c/\(ci X.env scope.names []).lookup x=some c:=by
 have hm:=Ax h;obtain⟨c,hc⟩:=S.cells ok _ hm rfl;exact⟨c,hc,mv hc _ _ (.inr hm)⟩
def yc(σ:St):(blk k caps σ).length=k+caps.length:=by unfold blk;simp
def yd(h:(blk k caps σ)[i]?=some (some v)):∃j i',i=k+j/\caps[j]?=some i'/\σ[i']?=some (some v):=by
 unfold blk at h;by_cases hi:i<k
 ·rw[Zf (by simpa using hi),Wg]at h
  split at h<;>cases h
 ·rw[Xe (by simpa using hi),Yf,Qd]at h
  refine⟨i-k,?_⟩;cases e:caps[i-k]? with
  | none=>rw[e]at h;cases h
  | some i' =>
   rw[e]at h;refine⟨i',by lia,rfl,?_⟩
   have h':(σ[i']?).getD none=some v:=by simpa using h
   cases q:σ[i']? with
   | none=>rw[q]at h';cases h'
   | some o=>rw[q]at h';have h'':o=some v:=h';rw[h'']
def Ig{s:Shared}(S:BlkScope X N k caps scope)(I:Inv X pins σ H s)(hf:∀b∈fp,pI X pins H b)(hlt:∀b∈fp,b<s.heap.objs.size)(hC:s.heap.objs.size<=C) :
  (cxC X N scope C s H fp).Ok:=by
 have nfs:∀b∈fp,b∉frs X.stack:=fun b hb z=>by
  rcases Va.mp (I.stkSub b z) with e|e
  ·exact(hf b hb).2.1 e
  ·exact(hf b hb).2.2.1 e
 refine⟨I.ok.mod,S.kind,I.ok.glob,I.ok.blt,hC,fun x y c h1 h2=>I.ok.inj x y c (S.sub I.ok h1) (S.sub I.ok h2),fun x hx=>?_,fun x c h=>(by cases h),I.ok.hd,I.ok.frames,.inl rfl,fun b hb=>⟨?_,fun x c e=>?_⟩,I.bs,Wc I.ok.bsz I.sz,fun b o e hb=>?_,nfs,I.stack,I.stkFree⟩
 ·have hx':(relabel scope X.env).names.lookup x=some .cell∨(relabel scope X.env).names.lookup x=some .free:=hx;rcases eG (env:=X.env) (x:=x) scope.names with⟨e,_⟩|⟨k1,k2,e1,e2,e3⟩
  ·rcases hx' with z|z<;>(have z':=e.symm.trans z;cases z')
  ·have hk2:k2=.cell∨k2=.free:=by
    rcases hx' with z|z
    ·exact .inl (Option.some.inj (e2.symm.trans z))
    ·exact .inr (Option.some.inj (e2.symm.trans z))
   have hfree:k1=.free:=by
    rcases e3 with z|⟨z,_⟩
    ·rcases hk2 with q|q
     ·exact absurd (z.symm.trans q) (S.nocell _ (Ax e1))
     ·exact z.symm.trans q
    ·exact z
   rw[hfree]at e1;obtain⟨c,_,hc⟩:=S.has I.ok e1;exact⟨c,hc⟩
 ·exact Vf (Yc (hlt b hb) hC)
 ·exact(hf b hb).2.2.2.2.1 x c (S.sub I.ok e)
 ·rcases(hf b hb).2.2.2.1 with z|z
  ·exact I.ok.noex b o e z
  ·exact absurd (Yc (Aj (I.ok.bs b o e).1) z) (Zg _)
def Fv{s s3:Shared}(S:BlkScope X N k caps scope)(I:Inv X pins σ H s)(hf:∀b∈fp,pI X pins H b)(hlt:∀b∈fp,b<s.heap.objs.size)
  (hC:s.heap.objs.size<=C)(hos:s3.os=s.os)(hg:s3.gens=s.gens)(kp:∀b o,s.heap.get? b=some o->s3.heap.get? b=some o)(hn:s3.heap.Ns C m):Inv (cxC X N scope C s H fp) [] (blk k caps σ) H s3:=by
 refine⟨Ig S I hf hlt hC,hos,by rw[hg];exact I.bare,Un.kept kp,⟨m,hn,fun i x v e1 e2 e3=>?_⟩,fun x c e=>?_,I.hok.fresh hC,fun x c e=>I.freeC x c (S.sub I.ok e),fun p hp=>absurd hp (by simp),I.hok.kept kp,by rw[yc];exact S.len.symm⟩
 ·obtain⟨j,i',rfl,hc,hv⟩:=yd e2;obtain⟨y,h1,h2,h3⟩:=S.cap j i' hc;have exy:y=x:=Option.some.inj (h1.symm.trans e1);subst exy;obtain⟨c,hc1,hc2⟩:=S.has I.ok h3;obtain⟨m0,hn0,hl0⟩:=I.loc;have hkind:=S.free _ (Ax h3) rfl;obtain⟨u,ru,lu⟩:=hl0 i' y v h2 hv (hkind.elim (fun z=>.inr (.inl z)) (fun z=>.inr (.inr z)));refine⟨u,ru,.inr ⟨?_,c,hc2,?_⟩⟩
  ·rcases eG (env:=X.env) (x:=y) scope.names with⟨_,e⟩|⟨k1,k2,q1,q2,q3⟩
   ·rw[e]at h3;cases h3
   ·have hk1:k1=.free:=Option.some.inj (q1.symm.trans h3);rcases q3 with z|⟨_,z⟩
    ·right;show(relabel scope X.env).names.lookup y=_;exact q2.trans (by rw[z,hk1])
    ·left;show(relabel scope X.env).names.lookup y=_;exact q2.trans (by rw[z])
  ·rcases lu with⟨hk,_⟩|⟨_,c',hc',cell⟩
   ·rcases hkind with z|z<;>(have z':=hk.symm.trans z;cases z')
   ·have:c'=c:=Option.some.inj (hc'.symm.trans hc1);subst this;obtain⟨o,ho,hd⟩:=cell;exact⟨o,kp _ o ho,hd⟩
 ·obtain⟨v,o,ho,hd⟩:=I.cell x c (S.sub I.ok e);exact⟨v,o,kp _ o ho,hd⟩
end
def PIf(X:Cx)(ifs:List Expr)(t:TT):Prop :=
 ∀(pins:List (Addr×Obj))(s:Shared)(σ:St)(H:Hp)(Q:Bool->Hp->Prop),Inv X pins σ H s->t σ H Q ->
  wpAny (model X.prog X.w) X.A (forIn ifs true fun c r=>if r=true then do let ok ← isTrue c X.env (eval c X.env);pure (ForInStep.yield ok) else pure (ForInStep.yield r)) (TP X pins σ Q) X.xe s
def Kw:TT:=fun _ H Q=>Q true H
def aR:PIf X [] Kw:=fun _ _ _ H _ I h=>wpAny_tests_nil ⟨H,I,h⟩
theorem kB(I:Nat->Shared->Prop)
  (turn:∀n s,I n s->wpAny (model prog w) A (pyNext it) (fun r s₁=>match r with
   | none=>R (.ok .next) s₁
   | some v=>wpAny (model prog w) A (letOwnedTupleGo target it v) (fun _ s₀=>wpAny (model prog w) A (assign target env v) (fun _ s₂ =>
     wpAny (model prog w) A (forIn ifs true fun c r=>if r=true then do let ok ← isTrue c env (eval c env);pure (ForInStep.yield ok) else pure (ForInStep.yield r)) (fun ok s₃ =>
      if ok=true then wpAny (model prog w) A (eval elt env) (fun x s₄ =>
       wpAny (model prog w) A (call (.builtin "list.append") [acc,x]) (fun _ s₅=>∃m,m<n/\I m s₅) (fun _ _=>False) s₄) (fun _ _=>False) s₃
      else ∃m,m<n/\I m s₃) (fun _ _=>False) s₂) (fun _ _=>False) s₀) (fun _ _=>False) s₁) (fun _ _=>False) s)
  (n:Nat) (h:I n s) :
  codeAny (model prog w) A (.compLoop (.ListComp elt [⟨target,iter,ifs,0⟩] scope pos) 0 it acc env) R s:=by
 refine codeAny_loop rfl I (fun n s hI=>?_) n h;show wpAny _ A ((compTurn (.ListComp elt [⟨target,iter,ifs,0⟩] scope pos) 0 it acc env).onRaise (fun x=>do noteFrame x env;theTreesLotGoes x)) _ _ s
 refine wpAny_noted ?_;rw[compTurn_list];refine Ab (wpAny_standAt (Ab (AA (turn n s hI) (fun r s₁ h₁=>?_) fun _ _ h'=>False.elim h')));cases r with
 | none=>exact Af h₁
 | some v =>
  refine Ab (AA h₁ (fun _ s₀ h₀=>?_) fun _ _ h'=>False.elim h');refine Ab (AA h₀ (fun _ s₂ h₂=>Ab (AA h₂ (fun ok s₃ h₃=>?_) fun _ _ h'=>False.elim h')) fun _ _ h'=>False.elim h');cases ok with
  | false=>exact Af ⟨rfl,h₃⟩
  | true =>
   exact Ab (Ab (AA h₃ (fun x s₄ h₄=>Ab (AA h₄ (fun _ s₅ h₅=>Af (Af ⟨rfl,h₅⟩)) fun _ _ h'=>False.elim h')) fun _ _ h'=>False.elim h'))
def sH(k:Nat)(caps:List Nat)(wi:TI)(g:TG)(tc:TT)(te:TE):TE:=fun σ H Q=>wi σ H fun J H1=>∃(n:Nat)(W:Nat->List V->Hp->Prop),W 0 [] H1 /\
 (∀xs H,W n xs H->J.stop n H/\∀p,H p=none->Q (.ref p) (upd H p (.lst xs))) /\
 ∀i xs H,i<n->W i xs H->J.go i H/\xs.length<sizeLine/\∀x H',J.yld i H x H'->g x (blk k caps σ) H' fun σ2 H2=>tc σ2 H2 fun ok H3 =>
  if ok=true then te σ2 H3 fun y H4=>σ2.drop k=(blk k caps σ).drop k/\W (i+1) (xs++[y]) H4
  else σ2.drop k=(blk k caps σ).drop k/\W (i+1) xs H3
abbrev f7(its:List Value)(n:Nat):Obj:={ cls:=.type "list",data:=.seq its.toArray n }
def G4(X:Cx)(pins:List (Addr×Obj))(H:Hp)(C:Addr):Prop :=
 H C=none/\C≠X.env.locals/\(C∈X.ex∨X.s₀.heap.objs.size<=C)/\(∀x c,X.env.cells.lookup x=some c->c≠C)/\∀p∈X.pn++pins,p.1≠C
inductive CI(X':Cx)(A:Addr)(σ:St)(tn:Nat->Heap->Prop)(fp:List Addr)(n0:Nat)(W:Nat->List V->Hp->Prop)(n:Nat)(s':Shared):Prop
 | mk (i:Nat) (xs:List V) (its:List Value) (nn:Nat) (H':Hp) (J:Inv X' [(A,f7 its nn)] σ H' s') (st:tn i s'.heap) (fr:∀b∈fp,H' b=none) (vs:Vals xs its) (hz:xs.length<=sizeLine) (hn:n=n0-i) (hi:i<=n0) (w:W i xs H')
def vf{X:Cx}
  (S:BlkScope X N k caps scope)(hc:X.calm=true)(hi:PI X tg iter wi)
  (hg:∀C s H fp,PG (cxC X N scope C s H fp) tg g) (ht:∀C s H fp,PIf (cxC X N scope C s H fp) ifs tc) (he:∀C s H fp,PE (cxC X N scope C s H fp) elt te)
  (hs:∀x,foldedSetIterable iter X.env x=pure x) (I:Inv X pins σ H s) (h:sH k caps wi g tc te σ H Q)
  (fin:∀(D C:Addr)(H4:Hp)(s4:Shared)(m:Str->Option Value),Inv X pins σ H4 s4->s4.heap.Ns C m->G4 X pins H4 C->Q (.ref D) H4->compPost (model X.prog X.w) X.A X.xe use Q' (.ref D) C (.ok .next) s4) :
  wpAny (model X.prog X.w) X.A (comprehension (.ListComp elt [⟨tg,iter,ifs,0⟩] scope pos) scope X.env cpos (newList []) false (eval iter X.env) use) Q' X.xe s:=by
 refine wpAny_comprehension_free rfl hs (nh (S.cells I.ok)) S.kind S.loc ?_;refine thn (hi pins s σ H _ I h) fun v s1 h1=>thn h1 fun itv s2 h2=>?_;obtain⟨it,fp,tn,J,H2,e,I2,T,st2,f2,n0,W,w0,wstop,turn⟩:=h2;subst e;refine AD (wpAny_newFunctionEnv S.nocell (by intro y hy;simp at hy) (fun h₁ hns₁ hsb₁=>?_) S.kind)
 dsimp only at hns₁ hsb₁ ⊢;generalize hG:s2.heap.push { cls:=.type "list",dict:=none,data:=.seq ([]:List Value).toArray }=G at hns₁ hsb₁ ⊢;have hCG:G.objs.size=s2.heap.objs.size+1:=by rw[← hG,AW]
 have hDC:s2.heap.objs.size≠G.objs.size:=by lia
 have below:∀b,b<s2.heap.objs.size->b≠G.objs.size/\b≠s2.heap.objs.size:=fun b hb=>⟨by lia,by lia⟩
 have old:∀b o,s2.heap.get? b=some o->h₁.get? b=some o:=fun b o e=>hsb₁.extBut b o (below b (Aj e)).1 (Ac _ (hG ▸ Ac _ e));have hacc:h₁.get? s2.heap.objs.size=some (f7 [] 0):=hsb₁.extBut _ _ hDC (Ac _ (hG ▸ Ak _ rfl));have hlt:∀b∈fp,b<s2.heap.objs.size:=fun b hb=>by obtain⟨o,ho,_⟩:=T.obj 0 _ st2 b hb;exact Aj ho
 have hDf:s2.heap.objs.size∉fp:=fun z=>Zg _ (hlt _ z);have hle:s2.heap.objs.size<=G.objs.size:=by lia
 have hDcell:∀x c,(ci X.env scope.names []).lookup x=some c->c≠s2.heap.objs.size:=fun x c e z=>by
  obtain⟨v,q⟩:=I2.cell x c (S.sub I2.ok e);exact absurd q.lt (by rw[z];exact Zg _)
 have hDfs:s2.heap.objs.size∉frs X.stack:=fun z=>by
  obtain⟨_,o,ho,_⟩:=I2.stack.mem z;exact absurd (Aj ho) (Zg _)
 have nfs:∀b∈fp,b∉frs X.stack:=fun b hb z=>by
  rcases Va.mp (I2.stkSub b z) with e|e
  ·exact(f2 b hb).2.1 e
  ·exact(f2 b hb).2.2.1 e
 have fpk:∀{H':Hp}{its:List Value}{n:Nat},(∀b∈fp,H' b=none)->∀b∈fp,pI (cxC X N scope G.objs.size s2 H2 fp) [(s2.heap.objs.size,f7 its n)] H' b:=fun {H' its n} hn b hb =>
  ⟨hn b hb,(below b (hlt b hb)).1,nfs b hb,.inl hb,fun x c e=>(f2 b hb).2.2.2.2.1 x c (S.sub I2.ok e),fun p hp=>by
   have e:p=(s2.heap.objs.size,f7 its n):=by simpa using hp
   rw[e];exact AC (below b (hlt b hb)).2⟩
 have pinD:∀{H':Hp}{s':Shared}{σ':St}{its:List Value}{n:Nat},Inv (cxC X N scope G.objs.size s2 H2 fp) [] σ' H' s'->s'.heap.get? s2.heap.objs.size=some (f7 its n)->H' s2.heap.objs.size=none->Inv (cxC X N scope G.objs.size s2 H2 fp) [(s2.heap.objs.size,f7 its n)] σ' H' s':=fun {H' s' σ' its n} J e hn =>
  J.pins_of fun p hp=>by
   have q:p=(s2.heap.objs.size,f7 its n):=by simpa using hp
   rw[q];exact⟨e,hn,hDC,hDfs,fun v z=>by cases z⟩
 have I3:Inv (cxC X N scope G.objs.size s2 H2 fp) [] (blk k caps σ) H2 { s2 with heap:=h₁,toks:=s2.toks+([]:List (Str×Value)).length }:=Fv S I2 f2 hlt hle rfl rfl old hns₁;have loop:codeAny (model X.prog X.w) X.A (.compLoop (.ListComp elt [⟨tg,iter,ifs,0⟩] scope pos) 0 (.ref it) (.ref s2.heap.objs.size) (compEnvC scope (ci X.env scope.names []) G.objs.size X.env))
   (compPost (model X.prog X.w) X.A X.xe use Q' (.ref s2.heap.objs.size) G.objs.size) { s2 with heap:=h₁,toks:=s2.toks+([]:List (Str×Value)).length }:=by
  refine kB (CI (cxC X N scope G.objs.size s2 H2 fp) s2.heap.objs.size (blk k caps σ) tn fp n0 W) ?_ n0
   ⟨0,[],[],0,H2,pinD I3 hacc (I2.hok.fresh (Xb _)),T.keep _ _ _ st2 fun b _ o e=>old b o e,fun b hb=>(f2 b hb).1,.nil,Wh _,rfl,Wh _,w0⟩
  rintro n s3 ⟨i,xs,its,nn,H3,J3,st3,fr3,vs3,hz3,hn3,hi3,w3⟩;by_cases hin:i<n0
  rotate_left
  ·have ein:i=n0:=by lia
   subst ein;obtain⟨stop,qn⟩:=wstop xs H3 w3;refine thn (T.done (cxC X N scope G.objs.size s2 H2 fp) rfl rfl rfl hc i _ s3 _ H3 _ J3 (fpk fr3) st3 stop) fun r s4 zz9=>?_;obtain⟨hr,J4⟩:=zz9;subst hr;obtain⟨eD,nD,_⟩:=J4.pin (s2.heap.objs.size,f7 its nn) (by simp)
   have eD:s4.heap.get? s2.heap.objs.size=some (f7 its nn):=eD;have nD:H3 s2.heap.objs.size=none:=nD;obtain⟨m4,hm4,_⟩:=J4.loc;have U:Un (frs X.stack) fp H2 H3 s2.heap s4.heap:=J4.base;have neC:∀b o,s2.heap.get? b=some o->b≠G.objs.size:=fun b o e=>(below b (Aj e)).1;have neD:∀b o,s2.heap.get? b=some o->b≠s2.heap.objs.size:=fun b o e=>(below b (Aj e)).2;have H2D:H2 s2.heap.objs.size=none:=I2.hok.fresh (Xb _);have HC:H3 G.objs.size=none:=J4.free;refine fin s2.heap.objs.size G.objs.size (upd H3 s2.heap.objs.size (.lst xs)) s4 m4 (I2.call' (s':=s4) (ch:=fp) J4.os ?_ ?_ J4.bare ?_) hm4 ?_ (qn _ nD)
   ·refine⟨fun b o e n hb hx=>U.keep b o e n hb hx,fun b o e n hb hx=>U.slot b o e n hb hx,fun b o e n hx=>?_,fun b o e hx=>U.there b o e hx,fun b ys e=>?_,fun b o u e=>?_,fun b ps e=>?_⟩
    ·rw[bd (neD b o e)];exact U.free b o e n hx
    ·rw[bd (bw e H2D)];exact U.tups b ys e
    ·rw[bd (bw e H2D)];exact U.frzs b o u e
    ·obtain⟨more,q⟩:=U.tbls b ps e;exact⟨more,by rw[bd (bw e H2D)];exact q⟩
   ·intro b u e;by_cases hb:b=s2.heap.objs.size
    ·subst hb;rw[b8]at e;cases e;exact⟨hz3,its,nn,vs3,eD⟩
    ·rw[bd hb]at e;exact(J4.hok b u e).stay (fun c v _ q=>q) (fun c q=>by rw[bd (bw q nD)];exact q) fun c ys q=>by rw[bd (bw q nD)];exact q
   ·exact fun b hb=>⟨(f2 b hb).2.2.2.1,(f2 b hb).2.1,(f2 b hb).2.2.2.2.1,(f2 b hb).2.2.2.2.2⟩
   ·refine⟨by rw[bd (AC hDC)];exact HC,Qk (Yc I2.lt hle),.inr (Wc I2.sz hle),fun x c e z=>?_,fun p hp z=>?_⟩
    ·obtain⟨v,q⟩:=I2.cell x c e;exact absurd (Yc q.lt (by rw[z];exact hle)) (Zg _)
    ·exact absurd (Yc (Aj (I2.pin p hp).1) (by rw[z];exact hle)) (Zg _)
  ·obtain⟨go,hz,step⟩:=turn i xs H3 hin w3;refine thn (T.item (cxC X N scope G.objs.size s2 H2 fp) rfl rfl rfl hc i _ s3 _ H3 _ J3 (fpk fr3) st3 go) fun r s4 zz9=>?_;obtain⟨u,hr,h4⟩:=zz9;subst hr;refine thn h4 fun _ s5 zz9=>?_;obtain⟨x,H5,J5,r5,y5,st5,fr5⟩:=zz9;have J5':=J5.pinned (fpk fr5) (T.obj _ _ st5);refine thn (hg _ _ _ _ _ s5 _ H5 x u _ J5' r5 (step x H5 y5)) fun _ s6 zz9=>?_;obtain⟨σ6,H6,J6,q6⟩:=zz9;refine thn (ht _ _ _ _ _ s6 σ6 H6 _ J6 q6) fun ok s7 zz9=>?_;obtain⟨H7,J7,q7⟩:=zz9;have wk:∀{σ8:St}{H8:Hp}{s8:Shared}{pl:List (Addr×Obj)},Inv (cxC X N scope G.objs.size s2 H2 fp) pl σ8 H8 s8->σ8.drop k=(blk k caps σ).drop k->Inv (cxC X N scope G.objs.size s2 H2 fp) pl (blk k caps σ) H8 s8:=fun {σ8 H8 s8 pl} J8 hd =>
    J8.weak (by rw[yc,J8.len];exact S.len.symm) fun j v e=>by
     obtain⟨j',i',rfl,hc',hv'⟩:=yd e;have e1:((blk k caps σ).drop k)[j']?=some (some v):=by rw[Xg];exact e
     rw[← hd,Xg]at e1;exact e1
   have recs:∀{σ8:St}{H8:Hp}{s8:Shared},Inv (cxC X N scope G.objs.size s2 H2 fp) ([(s2.heap.objs.size,f7 its nn)]++qr fp s5.heap) σ8 H8 s8->(∀b∈fp,∀o,s5.heap.get? b=some o->s8.heap.get? b=some o)/\(∀b∈fp,H8 b=none):=fun {σ8 H8 s8} J8 =>
    ⟨fun b hb o e=>(J8.pin (b,o) (Qe _ (Qe _ (jh hb e)))).1,fun b hb=>by
     obtain⟨o,e,d⟩:=T.obj _ _ st5 b hb
     exact(J8.pin (b,o) (Qe _ (Qe _ (jh hb e)))).2.1⟩
   cases ok with
   | false =>
    rw[Al (by decide)]at q7 ⊢
    obtain⟨hd,w7⟩:=q7;obtain⟨k1,k2⟩:=recs J7;exact⟨n0-(i+1),by lia,i+1,xs,its,nn,H7,wk J7.unpinned hd,T.keep _ _ _ st5 k1,k2,vs3,hz3,rfl,hin,w7⟩
   | true =>
    rw[Ag rfl]at q7 ⊢;refine thn (he _ _ _ _ _ s7 σ6 H7 _ J7 q7) fun uy s8 zz9=>?_;obtain⟨y,H8,J8,r8,hd,w8⟩:=zz9;obtain⟨k1,k2⟩:=recs J8;obtain⟨eD,nD,_⟩:=J8.pin (s2.heap.objs.size,f7 its nn) (by simp)
    have eD:s8.heap.get? s2.heap.objs.size=some (f7 its nn):=eD;have nD:H8 s2.heap.objs.size=none:=nD;have hl3:=vs3.length;refine AL F.slot_list_append ⟨_,eD,rfl⟩ F.entry_list_append (F.args_list_append_2 _ _) (PySem.list_append s2.heap.objs.size its.toArray nn uy (by rw[Wb];lia)) ⟨eD,?_⟩
    have q:=PySem.IsL.update eD (fun a:Array Value=>a.push uy);have qe:its.toArray.push uy=(its++[uy]).toArray:=by simp
    rw[qe]at q;have oth:∀b o,b≠s2.heap.objs.size->s8.heap.get? b=some o->(s8.heap.update s2.heap.objs.size (Obj.mapSeq fun a=>a.push uy)).get? b=some o:=fun b o hb e=>(A3 s8.heap _ (AC hb)).trans e;have J9:Inv (cxC X N scope G.objs.size s2 H2 fp) [] σ6 H8 { s8 with heap:=s8.heap.update s2.heap.objs.size (Obj.mapSeq fun a=>a.push uy),toks:=s8.toks } :=
     (J8.pins_of (pins':=[]) fun p hp=>absurd hp (by simp)).turned oth nD hDC (.inr (Xb _)) hDcell (fun p hp=>absurd hp (by simp))
    refine⟨n0-(i+1),by lia,i+1,xs++[y],its++[uy],_,H8,wk (pinD J9 q nD) hd,T.keep _ _ _ st5 fun b hb o e=>oth b o (fun z=>hDf (z ▸ hb)) (k1 b hb o e),k2,vs3.append (.cons r8 .nil),?_,rfl,hin,w8⟩
    rw[Qb,Vm];lia
 exact codeAny_compStart_list loop (T.self _ 0 _ _ _ (T.keep _ _ _ st2 fun b _ o e=>old b o e) loop)
def Inv.aside{s:Shared}(I:Inv X pins σ H s)(a:G4 X pins H C)(hs:Heap.SameBut C s.heap h'):Inv X pins σ H { s with heap:=h' } :=
 I.turned (t':=s.toks) (fun b o hb e=>hs.extBut b o hb e) a.1 a.2.1 a.2.2.1 a.2.2.2.1 a.2.2.2.2
def aT{X:Cx}(S:BlkScope X N k caps scope)(hc:X.calm=true)(hi:PI X tg iter wi)
  (hg:∀C s H fp,PG (cxC X N scope C s H fp) tg g)(ht:∀C s H fp,PIf (cxC X N scope C s H fp) ifs tc)(he:∀C s H fp,PE (cxC X N scope C s H fp) elt te)
  (hs:∀x,foldedSetIterable iter X.env x=pure x:=by intro _;rfl):PE X (.ListComp elt [⟨tg,iter,ifs,0⟩] scope pos) (sH k caps wi g tc te):=by
 intro pins s σ H Q I h;rw[eval_ListComp];exact vf (use:=none) S hc hi hg ht he hs I h fun D C H4 s4 m I4 hm a q=>⟨m,hm,fun h' hs'=>⟨.ref D,H4,I4.aside a hs',rfl,q⟩⟩
set_option tactic.hygienic true in
def Fw{X:Cx}{pos py spos:Pos}(S:BlkScope X N k caps scope)(hc:X.calm=true)(hN:X.N.Nodup)(hi':X.N[i]?=some y)(hy:Loc X.env.scope y)(hi:PI X tg iter wi)
  (hg:∀C s H fp,PG (cxC X N scope C s H fp) tg g)(ht:∀C s H fp,PIf (cxC X N scope C s H fp) ifs tc)(he:∀C s H fp,PE (cxC X N scope C s H fp) elt te)
  (hs:∀x,foldedSetIterable iter X.env x=pure x:=by intro _;rfl) (hsw:swapsWith (.ListComp elt [⟨tg,iter,ifs,0⟩] scope pos) (some (.Name y py)) spos.line X.env=pure true:=by rfl)
  (hf:X.fn y=true∨X.env.scope.names.lookup y=some .local:=by first|exact .inl rfl|exact .inr rfl|assumption) :
  PS X (.Assign [.Name y py] (.ListComp elt [⟨tg,iter,ifs,0⟩] scope pos) spos) (zq (sH k caps wi g tc te) (qp i)):=by
 intro pins s σ H D I h;rw[exec_Assign_Name_used _ _ _ _ hsw];refine Ab (wpAny_standAt (Ab ?_));show wpAny _ X.A (do let _ ← comprehension (.ListComp elt [⟨tg,iter,ifs,0⟩] scope pos) scope X.env _ (newList []) false (eval iter X.env) (some (assign (.Name y py) X.env))) _ _ s
 refine Ab (AA (vf (use:=some (assign (.Name y py) X.env)) (Q':=fun _ s'=>SP X pins D .next s') S hc hi hg ht he hs I h ?_) (fun _ s' hq=>Af (Af hq)) fun _ _ e=>e)
 intro Da C H4 s4 m I4 hm a q;refine wpAny_assign_Name (sB I4 hN hi' hy (show RelV (.ref Da) (.ref Da) from rfl) (fun s5 I5 zz9=>?_) hf);obtain⟨b,sb,hb⟩:=zz9;have hbC:C≠b:=by
  rcases hb with z|z
  ·rw[z];exact a.2.1
  ·exact fun e=>a.2.2.2.1 _ _ z e.symm
 exact⟨m,hm.sameBut sb hbC,fun h' hs'=>⟨_,H4,I5.aside a hs',q⟩⟩
end L2
namespace L2
open PySem PySem.Spec PyProof.Rows
def Its(x:Str):It:=⟨fun i _=>i<x.cps.size,fun i H v H'=>H'=H/\∃c,x.cps[i]?=some c/\v=.str ⟨#[c]⟩,fun i _=>x.cps.size<=i⟩
def zL{P:Program}{w:World}{K:Aa}{tg:Expr}(it:Addr)(x:Str)(t:Tok):Turn P w K tg (Its x) [it] it (fun i h=>h.IsStrIter it "str_ascii_iterator" x t i) where
 mem:=by simp
 obj:=fun i h st b hb=>by
  have e:b=it:=by simpa using hb
  subst e;obtain⟨o,e,c,d⟩:=st;exact⟨o,e,fun v z=>by rw[d]at z;cases z⟩
 keep:=fun i h h' st k=>let ⟨o,ho,r⟩:=st;⟨o,k it (by simp) o ho,r⟩
 item:=by
  intro X hP hw hK hc i pins s σ H E I hf st hg;subst hP hw hK;obtain⟨f0,f1,f2,f3,f4,f5⟩:=hf it (by simp)
  have hg':i<x.cps.size:=hg;refine wpAny_pyNext_ascii_item st (c:=x.cps[i]) (by simp[hg']) fun h' st' sb=>?_
  have I1:Inv X pins σ H { s with heap:=h',toks:=s.toks+1 }:=I.turned (fun b o hb e=>sb.extBut b o hb e) f0 f1 f3 f4 f5;obtain⟨o,e,c,d⟩:=id st';exact⟨_,rfl,u8 (s:={ s with heap:=h',toks:=s.toks+1 }) e c d (by decide) ⟨.str ⟨#[x.cps[i]]⟩,H,I1,⟨_,rfl⟩,⟨rfl,_,by simp[hg'],rfl⟩,st',fun b hb=>(hf b hb).1⟩⟩
 done:=by
  intro X hP hw hK hc i pins s σ H E I hf st hg;subst hP hw hK;obtain⟨f0,f1,f2,f3,f4,f5⟩:=hf it (by simp)
  have hg':x.cps.size<=i:=hg;exact wpAny_pyNext_ascii_end (I.ok.hd hc) st (by simp[hg']) fun h' eb=>⟨rfl,I.turned (t':=s.toks) (fun b o hb e=>eb b o hb e) f0 f1 f3 f4 f5⟩
 self:=fun _ _ _ _ _ st h=>wpAny_pyIter_striter_ascii st h
def zM{P:Program}{w:World}{K:Aa}{tg:Expr}(it:Addr)(x:Str)(t:Tok):Turn P w K tg (Its x) [it] it (fun i h=>h.IsStrIter it "str_iterator" x t i) where
 mem:=by simp
 obj:=fun i h st b hb=>by
  have e:b=it:=by simpa using hb
  subst e;obtain⟨o,e,c,d⟩:=st;exact⟨o,e,fun v z=>by rw[d]at z;cases z⟩
 keep:=fun i h h' st k=>let ⟨o,ho,r⟩:=st;⟨o,k it (by simp) o ho,r⟩
 item:=by
  intro X hP hw hK hc i pins s σ H E I hf st hg;subst hP hw hK;obtain⟨f0,f1,f2,f3,f4,f5⟩:=hf it (by simp)
  have hg':i<x.cps.size:=hg;refine wpAny_pyNext_wide_item st (c:=x.cps[i]) (by simp[hg']) fun h' st' sb=>?_
  have I1:Inv X pins σ H { s with heap:=h',toks:=s.toks+1 }:=I.turned (fun b o hb e=>sb.extBut b o hb e) f0 f1 f3 f4 f5;obtain⟨o,e,c,d⟩:=id st';exact⟨_,rfl,u8 (s:={ s with heap:=h',toks:=s.toks+1 }) e c d (by decide) ⟨.str ⟨#[x.cps[i]]⟩,H,I1,⟨_,rfl⟩,⟨rfl,_,by simp[hg'],rfl⟩,st',fun b hb=>(hf b hb).1⟩⟩
 done:=by
  intro X hP hw hK hc i pins s σ H E I hf st hg;subst hP hw hK;obtain⟨f0,f1,f2,f3,f4,f5⟩:=hf it (by simp)
  have hg':x.cps.size<=i:=hg;exact wpAny_pyNext_wide_end (I.ok.hd hc) st (by simp[hg']) fun h' eb=>⟨rfl,I.turned (t':=s.toks) (fun b o hb e=>eb b o hb e) f0 f1 f3 f4 f5⟩
 self:=fun _ _ _ _ _ st h=>wpAny_pyIter_striter_wide st h
section
variable {X:Cx}{tg:Expr}
def Ih(tl:TE):TI:=fun σ H R=>tl σ H fun x H1=>∃z,x=.str z/\R (Its z) H1
def Ii{l:Expr}{tl:TE}(hl:PE X l tl):PI X tg l (Ih tl):=by
 intro pins s σ H R I h;refine thn (hl pins s σ H _ I h) fun v s1 zz9=>?_;obtain⟨x,H1,I1,r1,q1⟩:=zz9;obtain⟨z,e,q⟩:=q1;subst e;obtain⟨t,rfl⟩:=r1;have fpk:∀b∈[s1.heap.objs.size],pI X pins H1 b:=fun b hb=>by
  have e:b=s1.heap.objs.size:=by simpa using hb
  subst e;exact I1.fpOk (Xb _) (I1.hok.fresh (Xb _))
 cases ha:z.cps.all (·<128) with
 | true=>exact wpAny_pyIter_ascii ha ⟨s1.heap.objs.size,[s1.heap.objs.size],_,_,H1,rfl,I1.kept (t':=s1.toks) fun b o e=>Ac _ e,zL _ z t,⟨_,Ak _ rfl,rfl,rfl⟩,fpk,q⟩
 | false=>exact wpAny_pyIter_wide ha ⟨s1.heap.objs.size,[s1.heap.objs.size],_,_,H1,rfl,I1.kept (t':=s1.toks) fun b o e=>Ac _ e,zM _ z t,⟨_,Ak _ rfl,rfl,rfl⟩,fpk,q⟩
theorem range_all(bs:List Bool):(List.range bs.length).all (fun i=>bs.getD i true)=bs.all id:=by
 induction bs with
 | nil=>rfl
 | cons b r ih =>
  rw[Qa,List.range_succ_eq_map,Zm,BY,Zm,← ih];rfl
def gJ(hc:X.calm=true):CallR X (.builtin "all") (fun xs H Q=>∃(p:Addr)(bs:List Bool),xs=[.ref p]/\SqL X.K H p (bs.map V.bl)/\Q (.bl (bs.all id)) H):=by
 intro pins s σ H xs us Q I rv h;obtain⟨p,bs,rfl,hq,q⟩:=h;obtain⟨u,rfl,ru⟩:=vals1 rv;cases ru;obtain⟨its,r,pl,hz⟩:=I.list hq;have hlen:its.length=bs.length:=by have:=r.length;simpa using this.symm
 obtain⟨op,np,ep,cp,dp,sp⟩:=id pl;have hne:p≠s.heap.objs.size:=Vf (Aj ep);refine call_all_walk (Bp pl.isList ?_);refine⟨s.heap.objs.size,_,_,_,_,_,fun i=>bs.getD i true,rfl,Walks.list (show X.A.in1.handled=none from I.ok.hd hc) s.heap.objs.size p hne its.toArray,⟨⟨_,Ak _ rfl,rfl,rfl⟩,⟨op,Ac _ ep,cp,np,sp⟩⟩,?_,fun h' tk kp=>?_⟩
 ·intro i v s' Q' E' hv hQ';have hv':its[i]?=some v:=by simpa using hv
  have hi:i<its.length:=(Xd.mp hv').1;have hb:(bs.map V.bl)[i]?=some (V.bl (bs[i]'(by lia))):=by
   rw[Qd,Ya (by lia)];rfl
  obtain⟨u',e1,e2⟩:=r.get hb;rw[hv']at e1;cases e1;cases e2;have:bs.getD i true=bs[i]'(by lia):=by rw[Vd,Ya (by lia)];rfl
  have hQ2:Q' (bs.getD i true) s':=hQ';rw[this]at hQ2;exact Ay hQ2
 ·have e:(List.range its.toArray.size).all (fun i=>bs.getD i true)=bs.all id:=by
   rw[Wb,hlen];exact range_all bs
  rw[e]
  exact⟨.bl (bs.all id),H,I.kept (fun b o e=>kp b o (by
   intro z;have z':b=s.heap.objs.size:=by simpa using z
   exact absurd (Aj e) (by rw[z'];exact Zg _)) (Ac _ e)),rfl,q⟩
theorem qu:∀{ys:List Str}{us:List Value},Vals (ys.map V.str) us->StrsAre us ys
 | [],_,r=>by cases r;exact .nil
 | y::ys,_,r=>by
  cases r with
  | cons a b =>
   obtain⟨t,rfl⟩:=a;exact .cons y t (qu b)
def dj:MtR X "str.join" (fun x vs H Q=>∃(sep:Str)(p:Addr)(ys:List Str),x=.str sep/\vs=[.ref p]/\SqL X.K H p (ys.map V.str)/\(ys.map (·.length)).sum+ys.length*sep.length<=16777216/\Q (.str (Txt.join sep ys)) H):=by
 intro pins s σ H x vs v us Q I rx rv h;obtain⟨sep,p,ys,rfl,rfl,hq,hz,q⟩:=h;obtain⟨t,rfl⟩:=rx;obtain⟨u,rfl,ru⟩:=vals1 rv;cases ru;obtain⟨its,r,pl,_⟩:=I.list hq;exact join_list pl.isList (qu (by simpa using r)) hz fun t' k=>⟨.str _,H,I.tok k,⟨t',rfl⟩,q⟩
def sgn(x:Str):List V:=x.cps.toList.map fun c=>.str ⟨#[c]⟩
def vg{x:Str}{acc:Array Value}(h:ItemsOf (SignAt x) acc x.cps.size):Vals (sgn x) acc.toList:=by
 obtain⟨h1,h2⟩:=h;have gen:∀(cs:List Nat)(us:List Value),us.length=cs.length->(∀(j:Nat) v,us[j]?=some v->∃c u,cs[j]?=some c/\v=Value.str ⟨#[c]⟩ u)->Vals (cs.map fun c=>V.str ⟨#[c]⟩) us:=by
  intro cs;induction cs with
  | nil=>intro us hl _;cases us with
   | nil=>exact .nil
   | cons _ _=>cases hl
  | cons c cs ih =>
   intro us hl hu;cases us with
   | nil=>cases hl
   | cons u us =>
    obtain⟨c',tk,e1,e2⟩:=hu 0 u rfl;have:c=c':=by simpa using e1
    subst this;subst e2;refine .cons ⟨tk,rfl⟩ (ih us (by simpa using hl) fun j v e=>?_)
    have:=hu (j+1) v (by simpa using e)
    simpa using this
 refine gen x.cps.toList acc.toList (by simp[h1]) fun j v e=>?_
 obtain⟨c,u,e1,e2⟩:=h2 j v (by simpa using e)
 exact⟨c,u,by simpa using e1,e2⟩
def ye(x:Str):(sgn x).length=x.cps.size:=by simp[sgn]
def qv(hc:X.calm=true):CallR X (.type "list") (fun xs H Q=>∃z:Str,xs=[.str z]/\z.cps.size<=sizeLine/\∀l,H l=none->Q (.ref l) (upd H l (.lst (sgn z)))):=by
 intro pins s σ H xs us Q I rv h;obtain⟨z,rfl,hz,q⟩:=h;obtain⟨u,rfl,ru⟩:=vals1 rv;obtain⟨t,rfl⟩:=ru;refine call_list_str (I.ok.hd hc) z t (fun h' tk acc' c' kp hS hi=>?_) hz;refine⟨.ref s.heap.objs.size,upd H s.heap.objs.size (.lst (sgn z)),I.laid kp (Xb _) ⟨by rw[ye];exact hz,acc'.toList,c',vg hi,by simpa using hS⟩,rfl,q _ (I.hok.fresh (Xb _))⟩
theorem ObjOk.there{h:Heap}(x:ObjOk P w H h a o):∃ob,h.get? a=some ob:=by
 cases o with
 | lst xs=>obtain⟨_,_,_,_,e⟩:=x;exact⟨_,e⟩
 | tup xs=>obtain⟨_,_,_,o,e,_⟩:=x;exact⟨_,e⟩
 | dK kvs=>obtain⟨_,_,_,_,o,_,_,e,_⟩:=x;exact⟨_,e⟩
 | dT ep kvs=>obtain⟨_,_,_,_,_,o,_,e,_⟩:=x;exact⟨_,e⟩
 | set S n=>obtain⟨o,_,_,_,e,_⟩:=x;exact⟨_,e⟩
 | ins C dx fs=>obtain⟨_,_,_,e,_⟩:=x;exact⟨_,e⟩
 | own y=>exact x
 | xd fs=>obtain⟨_,⟨_,_,_,e,_⟩,_⟩:=x;exact⟨_,e⟩
 | rng lo hi=>obtain⟨_,_,_,e⟩:=x;exact⟨_,e⟩
 | frz ob u=>obtain⟨e,_⟩:=x;exact⟨_,e⟩
 | tbl ps=>exact⟨_,x⟩
 | met f y=>exact⟨_,x⟩
 | ext φ=>obtain⟨_,e,_⟩:=x;exact e
def Inv.laid2{s:Shared}{h':Heap}{t':Nat}(I:Inv X pins σ H s)(k:∀b u,s.heap.get? b=some u->h'.get? b=some u)(hne:∀b u,s.heap.get? b=some u->b≠a)(hn:H a=none)(new:ObjOk X.prog X.w (upd H a o) h' a o) :
  Inv X pins σ (upd H a o) { s with heap:=h',toks:=t' }:=by
 refine I.un ⟨fun b u e _ _ _=>k b u e,fun b u e _ _ _=>⟨u.slots,k b u e⟩,fun b u e n _=>by rw[bd (hne b u e)];exact n,fun b u e _=>⟨u,k b u e⟩,fun b xs e=>by rw[bd (bw e hn)];exact e,fun b u v e=>by rw[bd (bw e hn)];exact e,fun b ps e=>⟨#[],by rw[bd (bw e hn),e];simp⟩⟩ ?_
 intro b u e;by_cases hb:b=a
 ·subst hb;rw[b8]at e;cases e;exact new
 ·rw[bd hb]at e;exact(I.hok b u e).stay (fun c v _ q=>k c v q) (fun c q=>by rw[bd (bw q hn)];exact q) fun c xs q=>by rw[bd (bw q hn)];exact q
def pK(hc:X.calm=true):CallR X (.type "tuple") (fun xs H Q=>∃z:Str,xs=[.str z]/\z.cps.size<=sizeLine/\∀l,H l=none->Q (.ref l) (upd H l (.tup (sgn z)))):=by
 intro pins s σ H xs us Q I rv h;obtain⟨z,rfl,hz,q⟩:=h;obtain⟨u,rfl,ru⟩:=vals1 rv;obtain⟨t,rfl⟩:=ru;refine call_tuple_str (I.ok.hd hc) z t (fun h' tk acc kp hi=>?_) hz;have hne:∀b u,s.heap.get? b=some u->b≠h'.objs.size:=fun b u e z=>absurd (Aj (kp b u e)) (by rw[z];exact Zg _)
 have hn:H h'.objs.size=none:=by
  cases e:H h'.objs.size with
  | none=>rfl
  | some o =>
   obtain⟨ob,eo⟩:=(I.hok _ _ e).there;exact absurd rfl (hne _ _ eo)
 refine⟨.ref h'.objs.size,upd H h'.objs.size (.tup (sgn z)),I.laid2 (fun b u e=>Ac _ (kp b u e)) hne hn ⟨by rw[ye];exact hz,acc.toList,vg hi,⟨_,Ak _ rfl,rfl,0,by simp⟩⟩,rfl,q _ hn⟩
def Ij:SlR X (fun x lo hi H Q=>∃z:Str,x=.str z/\z.length<=sizeLine/\Q (.str (Txt.slice z lo hi)) H):=by
 intro pins s σ H x v vl vu lo hi sl Q I rx hs pl pu h;obtain⟨z,rfl,hz,q⟩:=h;obtain⟨t,rfl⟩:=rx;refine⟨"str",_,F.slot_str_getitem.lookup,AV _ _ _,?_⟩;have fin:∀(o p:Option Int),lo=o->hi=p->∀t' k,EP X pins σ Q (.str (Txt.slice z o p) t') { s with toks:=k }:=fun o p e1 e2 t' k=>⟨.str _,H,I.tok k,⟨t',rfl⟩,by rw[← e1,← e2];exact q⟩
 cases pl with
 | none =>
  cases pu with
  | none=>exact AM (l:=none) (u:=none) (st:=none) hs rfl (A6 ⟨Wc (Txt.slice_le z _ _) hz,fun t' k=>fin _ _ rfl rfl t' k⟩)
  | int j uj=>exact AM (l:=none) (u:=some (j,uj)) (st:=none) hs rfl (A6 ⟨Wc (Txt.slice_le z _ _) hz,fun t' k=>fin _ _ rfl rfl t' k⟩)
 | int i ui =>
  cases pu with
  | none=>exact AM (l:=some (i,ui)) (u:=none) (st:=none) hs rfl (A6 ⟨Wc (Txt.slice_le z _ _) hz,fun t' k=>fin _ _ rfl rfl t' k⟩)
  | int j uj=>exact AM (l:=some (i,ui)) (u:=some (j,uj)) (st:=none) hs rfl (A6 ⟨Wc (Txt.slice_le z _ _) hz,fun t' k=>fin _ _ rfl rfl t' k⟩)
end
end L2
namespace L2
open PySem PySem.Spec PyProof.Rows
structure Cal(P:Program)(w:World)(K:Aa)(mg:Str->Option Value)(base:Heap)(x:Str)(k:Nat)(ps:List Str)(sp:Sp):Prop where
 ex:∃f fd,FnOk P w K mg base CX0 k f fd ps sp/\mg x=some (.ref f)/\PySem.W.keepIn K (.ref f)=true/\Binds K fd ps []
def zN(sp:Sp)(t:TA):TE:=fun σ H Q=>t σ H fun vs H1=>sp vs H1 Q E0
section
variable {X:Cx}
def ap(C:Cal X.prog X.w X.K X.mg X.base x k ps sp)(hr:Room k' X.A)(hg:Gl X x)(ha:PA X (e::es) t)(hk:k<=k':=by decide)
  (hdb:(x == ("__debug__":Str))=false:=by decide) (he:starEach (e::es) X.env=(false,eval e X.env)::starEach es X.env:=by rfl) (hpl:(backTo pos (starEach es X.env)).any (·.1)=false:=by rfl) :
  PE X (.Call (.Name x p) (e::es) [] pos) (zN sp t):=by
 obtain⟨f,fd,F,hm,hkp,hb⟩:=C.ex;intro pins s σ H Q I h;refine Fr F (hr.mono hk) hg hm hkp hb .nil Kv ha hdb he hpl pins s σ H Q I ?_;have e0:zN sp t=CQ sp [] E0 t:=by
  funext σ H Q
  unfold zN CQ;simp only[Vh]
 rw[e0]at h;exact h
def kC:Expr->Bool
 | .Starred ..=>false
 | _=>true
def gA(h:kC e=true):starEach (e::es) env=(false,eval e env)::starEach es env:=by
 cases e<;>first|rfl|cases h
def aj(ha:PE X e te)(hr:PA X es t)(h:kC e=true:=by rfl):PA X (e::es) (dL te t):=pV ha hr (gA h)
def strsOf:List Expr->Option (List Str)
 | []=>some []
 | .Constant (.str x) _ _::r=>(strsOf r).map (x::·)
 | _=>none
def G5(xs:List Str):TA:=fun _ H Q=>Q (xs.map V.str) H
theorem nj:∀{es:List Expr}{xs:List Str},strsOf es=some xs->PA X es (G5 xs)
 | [],xs,h=>by
  have e:xs=[]:=(Option.some.inj h).symm;subst e;exact fun pos pins s σ H Q I q=>ac pos pins s σ H Q I q
 | e::r,xs,h=>by
  cases e with
  | Constant c j p =>
   cases c with
   | str x =>
    have h':(strsOf r).map (x::·)=some xs:=h;obtain⟨ys,h1,h2⟩:=Yd.mp h';subst h2;intro pos pins s σ H Q I q;exact pV (aw (x:=x)) (nj h1) (gA rfl) pos pins s σ H Q I q
   | _=>cases h
  | _=>cases h
def yf(hg:Gl X x)(hm:∃t,X.mg x=some (.str z t))(hd:(x == ("__debug__":Str))=false:=by decide):PE X (.Name x pos) (tC (.str z)):=by
 obtain⟨t,h⟩:=hm;exact xR hg h ⟨t,rfl⟩ hd
def tT(hg:Gl X x)(hm:∃t,X.mg x=some (.int i t))(hd:(x == ("__debug__":Str))=false:=by decide):PE X (.Name x pos) (tC (.int i)):=by
 obtain⟨t,h⟩:=hm;exact xR hg h ⟨t,rfl⟩ hd
def aQ(i:Nat){pos' pos:Pos}(hN:X.N.Nodup)(he:PE X e te)(hi:X.N[i]?=some x:=by rfl)(hx:Loc X.env.scope x:=by first|exact Or.inl rfl|exact Or.inr rfl)(hf:X.fn x=true∨X.env.scope.names.lookup x=some .local:=by first|exact .inl rfl|exact .inr rfl|assumption)
  (hs:swapsWithSole [.Name x pos'] e pos.line X.env=pure false:=by rfl) (hw:swappedStores [.Name x pos'] e X.env=pure none:=by rfl) (h1:(assignEach [.Name x pos'] X.env).map (·.2)=[assign (.Name x pos') X.env]:=by rfl) :
  PS X (.Assign [.Name x pos'] e pos) (zq te (qp i)):=mt he (xT hN hi hx hf) hs hw h1
def bo(i:Nat)(hN:X.N.Nodup)(hi:X.N[i]?=some x:=by rfl)(hx:Loc X.env.scope x:=by first|exact Or.inl rfl|exact Or.inr rfl)(hf:X.fn x=true∨X.env.scope.names.lookup x=some .local:=by first|exact .inl rfl|exact .inr rfl|assumption):PG X (.Name x pos) (qp i):=xT hN hi hx hf
def CY(i:Nat){pos py spos:Pos}(S:BlkScope X N k caps scope)(hc:X.calm=true)(hN:X.N.Nodup)(hi:PI X tg iter wi)
  (hg:∀C s H fp,PG (cxC X N scope C s H fp) tg g)(ht:∀C s H fp,PIf (cxC X N scope C s H fp) ifs tc)(he:∀C s H fp,PE (cxC X N scope C s H fp) elt te)
  (hi':X.N[i]?=some y:=by rfl) (hy:Loc X.env.scope y:=by first|exact Or.inl rfl|exact Or.inr rfl)
  (hs:∀x,foldedSetIterable iter X.env x=pure x:=by intro _;rfl) (hsw:swapsWith (.ListComp elt [⟨tg,iter,ifs,0⟩] scope pos) (some (.Name y py)) spos.line X.env=pure true:=by rfl)
  (hf:X.fn y=true∨X.env.scope.names.lookup y=some .local:=by first|exact .inl rfl|exact .inr rfl|assumption) :
  PS X (.Assign [.Name y py] (.ListComp elt [⟨tg,iter,ifs,0⟩] scope pos) spos) (zq (sH k caps wi g tc te) (qp i)):=Fw S hc hN hi' hy hi hg ht he hs hsw hf
end
def mw:bootBuiltins "list"=some (.type "list"):=by decide +kernel
def cX:bootBuiltins "tuple"=some (.type "tuple"):=by decide +kernel
def bA:bootBuiltins "str"=some (.type "str"):=by decide +kernel
def ls:bootBuiltins "int"=some (.type "int"):=by decide +kernel
def gK:bootBuiltins "bool"=some (.type "bool"):=by decide +kernel
def Ik{K:Aa}{T S:String}{b:Bool}(h:(if (Value.type T == Value.type S)=true then some true else if PySem.W.kitMeta S=true then(fastBuiltinMro T).map (·.contains (Value.type S)) else none)=some b):PySem.W.kitOne K (.type T) (.type S)=some b:=h
def boot_isinstance:bootBuiltins "isinstance"=some (.builtin "isinstance"):=by decide +kernel
def boot_all:bootBuiltins "all"=some (.builtin "all"):=by decide +kernel
def CZ(osc:Scope)(ON N:List Str)(k:Nat)(caps:List Nat)(scope:Scope):Bool :=
 decide (scope.kind=.function)&&scope.names.all (fun y=>decide (y.2≠.cell))&&scope.names.all (fun y=>decide (y.2=.local->scope.names.lookup y.1=some .local)) &&
 scope.names.all (fun y=>decide (y.2=.free->(osc.names.lookup y.1=some .cell∨osc.names.lookup y.1=some .free)))&&decide (N.length=k+caps.length) &&
 (List.range caps.length).all fun j=>match caps[j]?,N[k+j]? with
  | some i,some x=>decide (ON[i]?=some x)&&decide (scope.names.lookup x=some .free)
  | _,_=>false
def bc{X:Cx}(h:CZ osc ON N k caps scope=true)(ho:X.env.scope=osc)(hN:X.N=ON):BlkScope X N k caps scope:=by
 unfold CZ at h;simp only[Wf,decide_eq_true_eq,Qf]at h;obtain⟨⟨⟨⟨⟨h1,h2⟩,h3⟩,h4⟩,h5⟩,h6⟩:=h;refine⟨h1,h2,h3,fun y hy hf=>?_,h5,fun j i hj=>?_⟩
 ·show X.env.scope.names.lookup y.1=_∨X.env.scope.names.lookup y.1=_;rw[ho];exact h4 y hy hf
 ·have hlt:j<caps.length:=(Xd.mp hj).1;have q:=h6 j (Xh.mpr hlt);rw[hj]at q;cases e:N[k+j]? with
  | none=>rw[e]at q;cases q
  | some x =>
   rw[e]at q;have q':(decide (ON[i]?=some x)&&decide (scope.names.lookup x=some .free))=true:=q;simp only[Wf,decide_eq_true_eq]at q';exact⟨x,rfl,by rw[hN];exact q'.1,q'.2⟩
def bE(h:H p=none)(o:HO):Same H (upd H p o):=fun b u q=>by rw[bd (bw q h)];exact q
def qw{xs:List α}{i:Int}(h0:0<=i)(h1:i<xs.length):∃v,atI xs i=some v/\v∈xs/\xs[i.toNat]?=some v:=by
 have hk:i.toNat<xs.length:=by lia
 have ek:i=((i.toNat:Nat):Int):=by lia
 refine⟨xs[i.toNat],?_,Yj hk,Ya hk⟩;have q:atI xs ((i.toNat:Nat):Int)=some xs[i.toNat]:=cb (Ya hk);rw[← ek]at q;exact q
end L2
namespace L2
open PySem PySem.Spec PyProof.Rows
section
variable {X:Cx}
def rO:MtR X "str.startswith" (fun x vs H Q=>∃(a b:Str),x=.str a/\vs=[.str b]/\Q (.bl (Txt.startswith a b)) H):=by
 intro pins s σ H x vs v us Q I rx rv h;obtain⟨a,b,rfl,rfl,q⟩:=h;obtain⟨t,rfl⟩:=rx;obtain⟨u,rfl,ru⟩:=vals1 rv;obtain⟨t',rfl⟩:=ru;exact SC.startswith ⟨.bl _,H,I,rfl,q⟩
def mulOk_of{x:Str}(h0:0<=n)(hn:n<=1000)(hx:x.length<=1000):MulOk x n:=by
 have hx':(x.length:Int)<=1000:=by lia
 have hm:(x.length:Int)*n<=1000*1000:=Int.mul_le_mul hx' hn h0 (by decide)
 have hm2:x.length*n.toNat<=1000*1000:=Nat.mul_le_mul hx (by lia)
 refine⟨?_,fun h1 _=>?_,fun h1 h2=>?_⟩
 ·rw[Ae (by lia),Ae (by lia)];rfl
 ·have:(x.length:Int)<=(2 ^ 63-1) / n:=(Int.le_ediv_iff_mul_le (by lia)).mpr (Int.le_trans hm (by decide))
  lia
 ·unfold Builtin.Str.tooLong;have:=zK (Xb 1000);exact Ae (by rw[sizeLine_eq];lia)
def wI:OpR X (binaryOp .Mult) (fun x y H Q=>∃(a:Str)(n:Int),x=.str a/\y=.int n/\MulOk a n/\Q (.str (Txt.mul a n)) H):=by
 intro pins s σ H x y v u Q I rx ry h;obtain⟨a,n,rfl,rfl,hok,q⟩:=h;obtain⟨t,rfl⟩:=rx;obtain⟨t',rfl⟩:=ry;exact SB.mul hok fun t2 k=>⟨.str _,H,I.tok k,⟨t2,rfl⟩,q⟩
theorem Il(hu:X.A.units<cLine):OpR X (compareOp .NotEq) (fun x y H Q=>∃(a b:Addr)(xs:List V),x=.ref a/\y=.ref b/\SqL X.K H a xs/\SqL X.K H b []/\Q (.bl (!xs.isEmpty)) H):=by
 intro pins s σ H x y v u Q I rx ry h;obtain⟨a,b,xs,rfl,rfl,ha,hb,q⟩:=h;cases rx;cases ry;obtain⟨its,r,pl,_⟩:=I.list ha;obtain⟨its2,r2,pl2,_⟩:=I.list hb;cases r2;cases xs with
 | nil =>
  cases r;exact SeqAt.RcNeAt.lists (e:=fun _=>true) pl.isList pl2.isList rfl hu (fun j h1 _=>absurd h1 (by simp)) _ _ _ _ ⟨.bl _,H,I,rfl,q⟩
 | cons x1 xr =>
  cases r;exact BI pl.isList pl2.isList (by simp) hu _ _ _ _ ⟨.bl _,H,I,rfl,q⟩
end
def tU{X:Cx}{K:Aa}(h:X.K=K):IxR X (rIx K):=h ▸ H0
structure FunD(K:Aa)(x qual:Str)(st:Stmt)(ds:List Value)(f:Addr)(fd:FuncData):Prop where
 ex:∃(oc:Value)(od:Option Addr)(T:Addr)(oT:Obj)(nT:Nat)(kV doc pm:Value)(an:Option Addr)(cdv ct:Value)(osl:Array (Option Value)),
  fd=PySem.W.fnOf x qual (il st) (fN st) (ak st) (.ref T) kV doc pm an cdv ct/\K.lookup f=some ⟨oc,od,.func fd,osl⟩/\PySem.W.codeIn K cdv qual=true/\K.lookup T=some oT/\oT.data=.seq ds.toArray nT
 kp:PySem.W.keepIn K (.ref f)=true
theorem qx[DecidableEq α]:∀(l m:List α),l.Nodup->(∀x∈l,x∈m)->l.length<=m.length
 | [],_,_,_=>Wh _
 | a::l,m,h,hs=>by
  have hm:a∈m:=hs a Zc;have h1:=Zh.mp h;have ih:=qx l (m.erase a) h1.2 fun x hx=>by
   have hne:x≠a:=fun e=>h1.1 (e ▸ hx);exact(List.mem_erase_of_ne hne).mpr (hs x (Vb _ hx))
  have hl:=List.length_erase_of_mem hm;have hp:0<m.length:=BV hm;rw[Qa];lia
end L2
namespace VF
open PySem L2
abbrev AS:=Addr->Prop
def bsP{α β γ:Type}{o:Option (α×β)}{f:α×β->Option γ}{z:γ}{P:Prop}(h:o.bind f=some z)(k:∀a b,o=some (a,b)->f (a,b)=some z->P):P:=by
 obtain⟨⟨a,b⟩,e,h⟩:=Vl.mp h;exact k a b e h
def bsO{α γ:Type}{o:Option α}{f:α->Option γ}{z:γ}{P:Prop}(h:o.bind f=some z)(k:∀a,o=some a->f a=some z->P):P:=by
 obtain⟨a,e,h⟩:=Vl.mp h;exact k a e h
def aF{i:Decidable c}(h:(if c then x else none)=some z):c/\x=some z:=by
 by_cases q:c
 ·rw[Ag q]at h;exact⟨q,h⟩
 ·rw[Al q]at h;cases h
abbrev U(O Z:AS):AS:=fun p=>O p∨Z p
abbrev ins(p:Addr)(O:AS):AS:=fun b=>b=p∨O b
inductive D where
 | non|bl (b:Bool)|int (i:Int)|str (x:Str)|tup (ds:List D)|lst (ds:List D)|fl (ds:List D)|ty (n:String)|dk (kvs:List (Key×D))|dt (kvs:List (List Key×D))
def TupA(K:Aa)(Y:AS)(H:Hp)(a:Addr)(vs:List V):Prop:=H a=some (.tup vs)/\¬ Y a
def LstA(K:Aa)(Y:AS)(H:Hp)(a:Addr)(vs:List V):Prop:=(Rd H a (.lst vs)/\¬ Y a)∨∀H',SqL K H' a vs
def TupA.sq(h:TupA K Y H a vs):SqT K H a vs:=.inl (.inl h.1)
def LstA.sq(h:LstA K Y H a vs):SqL K H a vs:=by
 rcases h with h|h
 ·exact .inl h.1
 ·exact h H
def KA(Y:AS)(H:Hp)(as:List Addr):Prop:=∀b∈as,¬ Y b/\H b≠none
theorem KA.go(h:KA Y H as)(k:∀b o,H b=some o->¬ Y b->H' b=some o)(n:∀b,Y' b->Y b∨H b=none):KA Y' H' as:=fun b hb=>by
 obtain⟨h1,h2⟩:=h b hb;refine⟨fun z=>(n b z).elim h1 h2,?_⟩;cases e:H b with
 | none=>exact absurd e h2
 | some o=>rw[k b o e h1];simp
def KA.less(h:KA Y H as)(n:∀b,Y' b->Y b):KA Y' H as:=fun b hb=>⟨fun z=>(h b hb).1 (n b z),(h b hb).2⟩
inductive DA(K:Aa)(Y:AS)(H:Hp):V->D->Prop where
 | non:DA K Y H .non .non
 | bl (b:Bool):DA K Y H (.bl b) (.bl b)
 | int (i:Int):DA K Y H (.int i) (.int i)
 | str (x:Str):DA K Y H (.str x) (.str x)
 | tup {a:Addr} {vs:List V} {ds:List D}:TupA K Y H a vs->vs.length=ds.length->(∀(i:Nat) v d,vs[i]?=some v->ds[i]?=some d->DA K Y H v d)->DA K Y H (.ref a) (.tup ds)
 | ty (n:String):DA K Y H (.ty n) (.ty n)
 | lst {a:Addr} {vs:List V} {ds:List D}:¬ Y a->H a=some (.lst vs)->vs.length=ds.length->(∀(i:Nat) v d,vs[i]?=some v->ds[i]?=some d->DA K Y H v d)->DA K Y H (.ref a) (.lst ds)
 | fl {a:Addr} {vs:List V} {ds:List D}:LstA K Y H a vs->vs.length=ds.length->(∀(i:Nat) v d,vs[i]?=some v->ds[i]?=some d->DA K Y H v d)->DA K Y H (.ref a) (.fl ds)
 | dk {a:Addr} {kvs:List (Key×V)} {ds:List (Key×D)}:¬ Y a->H a=some (.dK kvs)->kvs.map (·.1)=ds.map (·.1)->(∀(i:Nat) v d,kvs[i]?=some v->ds[i]?=some d->DA K Y H v.2 d.2)->DA K Y H (.ref a) (.dk ds)
 | dt {a:Addr} {ep:Nat×List Addr} {kvs:List (List Key×V)} {ds:List (List Key×D)}:¬ Y a->KA Y H ep.2->H a=some (.dT ep kvs)->kvs.map (·.1)=ds.map (·.1)->(∀(i:Nat) v d,kvs[i]?=some v->ds[i]?=some d->DA K Y H v.2 d.2)->DA K Y H (.ref a) (.dt ds)
def El(K:Aa)(Y:AS)(H:Hp)(vs:List V)(ds:List D):Prop:=vs.length=ds.length/\∀(i:Nat) v d,vs[i]?=some v->ds[i]?=some d->DA K Y H v d
def Lv(H:Hp)(p:Addr):Prop:=H p≠none/\∀vs,H p≠some (.tup vs)
theorem Lv.same(h:Lv H p)(s:∀o,H p=some o->H' p=some o):Lv H' p:=by
 cases e:H p with
 | none=>exact absurd e h.1
 | some o =>
  refine⟨by rw[s o e];simp,fun vs z=>h.2 vs ?_⟩
  rw[s o e]at z;rw[e];exact z
structure Ext(O:AS)(H:Hp)(O':AS)(H':Hp):Prop where
 kp:∀b o,H b=some o->¬ O b->H' b=some o
 nw:∀b,O' b->O b∨H b=none
 al:∀b,H b≠none->H' b≠none
 lv:∀b,Lv H b->Lv H' b
section
variable {K:Aa}{Y Y' O O' O1 O2 Z:AS}{H H' H1 H2:Hp}{v:V}{d:D}{vs:List V}{ds:List D}{a p:Addr}
def Ext.refl(O:AS)(H:Hp):Ext O H O H:=⟨fun _ _ h _=>h,fun _ h=>.inl h,fun _ h=>h,fun _ h=>h⟩
def Ext.trans(a:Ext O H O1 H1)(b:Ext O1 H1 O2 H2):Ext O H O2 H2:=by
 refine⟨fun c o h n=>b.kp c o (a.kp c o h n) fun z=>?_,fun c h=>?_,fun c h=>b.al c (a.al c h),fun c h=>b.lv c (a.lv c h)⟩
 ·rcases a.nw c z with q|q
  ·exact n q
  ·rw[h]at q;cases q
 ·rcases b.nw c h with q|q
  ·exact a.nw c q
  ·right;cases e:H c with
   | none=>rfl
   | some o=>exact absurd q (a.al c (by rw[e];simp))
theorem Same.ext(h:Same H H'):Ext O H O H':=⟨fun b o e _=>h b o e,fun _ z=>.inl z,fun b z=>by
 cases e:H b with
 | none=>exact absurd e z
 | some o=>rw[h b o e];simp,fun b z=>z.same fun o e=>h b o e⟩
def Rd.keep(r:Rd H a u)(k:∀o,H a=some o->H' a=some o):Rd H' a u:=by
 rcases r with r|⟨o,r⟩
 ·exact .inl (k _ r)
 ·exact .inr ⟨o,k _ r⟩
def Rd.live(r:Rd H a u):H a≠none:=by
 rcases r with r|⟨o,r⟩<;>(rw[r];simp)
def TupA.go(h:TupA K Y H a vs)(k:∀b o,H b=some o->¬ Y b->H' b=some o)(n:∀b,Y' b->Y b∨H b=none):TupA K Y' H' a vs:=by
 obtain⟨h1,h2⟩:=h;refine⟨k a _ h1 h2,fun z=>?_⟩;rcases n a z with q|q
 ·exact h2 q
 ·rw[h1]at q;cases q
def LstA.go(h:LstA K Y H a vs)(k:∀b o,H b=some o->¬ Y b->H' b=some o)(n:∀b,Y' b->Y b∨H b=none):LstA K Y' H' a vs:=by
 rcases h with⟨h1,h2⟩|h
 ·refine .inl ⟨Rd.keep h1 fun o e=>k a o e h2,fun z=>?_⟩;rcases n a z with q|q
  ·exact h2 q
  ·exact Rd.live h1 q
 ·exact .inr h
theorem DA.go(h:DA K Y H v d)(k:∀b o,H b=some o->¬ Y b->H' b=some o)(n:∀b,Y' b->Y b∨H b=none):DA K Y' H' v d:=by
 have no:∀a u,H a=some u->¬ Y a->¬ Y' a:=fun a u e ny z=>by
  rcases n a z with q|q
  ·exact ny q
  ·rw[e]at q;cases q
 induction h with
 | non=>exact .non
 | bl b=>exact .bl b
 | int i=>exact .int i
 | str x=>exact .str x
 | tup h1 h2 _ ih=>exact .tup (h1.go k n) h2 ih
 | ty n=>exact .ty n
 | lst h0 h1 h2 _ ih=>exact .lst (no _ _ h1 h0) (k _ _ h1 h0) h2 ih
 | fl h1 h2 _ ih=>exact .fl (h1.go k n) h2 ih
 | dk h0 h1 h2 _ ih=>exact .dk (no _ _ h1 h0) (k _ _ h1 h0) h2 ih
 | dt h0 ka h1 h2 _ ih=>exact .dt (no _ _ h1 h0) (ka.go k n) (k _ _ h1 h0) h2 ih
def DA.ext(h:DA K (U O Z) H v d)(e:Ext O H O' H'):DA K (U O' Z) H' v d :=
 h.go (fun b o q n=>e.kp b o q fun z=>n (.inl z)) fun b z=>z.elim (fun q=>(e.nw b q).elim (fun x=>.inl (.inl x)) .inr) fun q=>.inl (.inr q)
def DA.less(h:DA K Y H v d)(n:∀b,Y' b->Y b):DA K Y' H v d:=h.go (fun _ _ e _=>e) fun b z=>.inl (n b z)
def DA.same(h:DA K Y H v d)(s:Same H H'):DA K Y H' v d:=h.go (fun b o e _=>s b o e) fun _ z=>.inl z
def DA.away(h:DA K Y H v d)(s:Same H H')(hp:H p=none):DA K (ins p Y) H' v d:=h.go (fun b o e _=>s b o e) fun b z=>z.elim (fun q=>.inr (q ▸ hp)) .inl
theorem El.go(h:El K Y H vs ds)(k:∀b o,H b=some o->¬ Y b->H' b=some o)(n:∀b,Y' b->Y b∨H b=none):El K Y' H' vs ds:=⟨h.1,fun i v d a b=>(h.2 i v d a b).go k n⟩
theorem El.ext(h:El K (U O Z) H vs ds)(e:Ext O H O' H'):El K (U O' Z) H' vs ds:=⟨h.1,fun i v d a b=>(h.2 i v d a b).ext e⟩
theorem El.less(h:El K Y H vs ds)(n:∀b,Y' b->Y b):El K Y' H vs ds:=⟨h.1,fun i v d a b=>(h.2 i v d a b).less n⟩
theorem El.same(h:El K Y H vs ds)(s:Same H H'):El K Y H' vs ds:=⟨h.1,fun i v d a b=>(h.2 i v d a b).same s⟩
theorem El.away(h:El K Y H vs ds)(s:Same H H')(hp:H p=none):El K (ins p Y) H' vs ds:=⟨h.1,fun i v d a b=>(h.2 i v d a b).away s hp⟩
def El.nil:El K Y H [] []:=⟨rfl,fun i v d h=>by simp at h⟩
def El.cons(h:DA K Y H v d)(r:El K Y H vs ds):El K Y H (v::vs) (d::ds):=by
 refine⟨by simp[r.1],fun i v' d' h1 h2=>?_⟩
 cases i with
 | zero =>
  have e1:v=v':=by simpa using h1
  have e2:d=d':=by simpa using h2
  subst e1 e2;exact h
 | succ i=>exact r.2 i v' d' (by simpa using h1) (by simpa using h2)
theorem El.uncons(h:El K Y H vs (d::ds)):∃v r,vs=v::r/\DA K Y H v d/\El K Y H r ds:=by
 cases vs with
 | nil=>have:=h.1;simp at this
 | cons v r =>
  refine⟨v,r,rfl,h.2 0 v d rfl rfl,?_,fun i v' d' h1 h2=>h.2 (i+1) v' d' (by simpa using h1) (by simpa using h2)⟩
  have:=h.1;simpa using this
def El.unnil(h:El K Y H vs []):vs=[]:=by
 have:=h.1;simpa using this
def El.app(h:El K Y H vs ds)(r:El K Y H ws es):El K Y H (vs++ws) (ds++es):=by
 refine⟨by simp[h.1,r.1],fun i v d h1 h2=>?_⟩
 by_cases hi:i<vs.length
 ·rw[Zf hi]at h1;rw[Zf (by rw[← h.1];exact hi)]at h2
  exact h.2 i v d h1 h2
 ·rw[Xe (by lia)]at h1
  rw[Xe (by rw[← h.1];lia),← h.1]at h2
  exact r.2 _ v d h1 h2
def El.at(h:El K Y H vs ds){i:Nat}{d:D}(e:ds[i]?=some d):∃v,vs[i]?=some v/\DA K Y H v d:=by
 have hi:i<ds.length:=(Xd.mp e).1;have hv:i<vs.length:=by rw[h.1];exact hi
 exact⟨vs[i],Ya hv,h.2 i _ d (Ya hv) e⟩
def El.one(h:DA K Y H v d):El K Y H [v] [d]:=El.cons h El.nil
set_option tactic.hygienic true in
theorem El.take(h:El K Y H vs ds)(n:Nat):El K Y H (vs.take n) (ds.take n):=by
 refine⟨by simp[h.1],fun i v d h1 h2=>?_⟩
 rw[List.getElem?_take]at h1 h2;split at h1
 ·rename_i q;rw[Ag q]at h2;exact h.2 i v d h1 h2
 ·cases h1
theorem El.drop(h:El K Y H vs ds)(n:Nat):El K Y H (vs.drop n) (ds.drop n):=by
 refine⟨by simp[h.1],fun i v d h1 h2=>?_⟩
 rw[Xg]at h1 h2;exact h.2 _ v d h1 h2
theorem El.set(h:El K Y H vs ds)(hv:DA K Y H v d)(j:Nat):El K Y H (vs.set j v) (ds.set j d):=by
 refine⟨by simp[h.1],fun i v' d' h1 h2=>?_⟩
 rw[Qi]at h1 h2;by_cases e:j=i
 ·rw[Ag e]at h1 h2;obtain⟨hl,h1⟩:=aF h1;rw[Ag (by rw[← h.1];exact hl)]at h2
  have e1:v=v':=by simpa using h1
  have e2:d=d':=by simpa using h2
  subst e1 e2;exact hv
 ·rw[Al e]at h1 h2;exact h.2 i v' d' h1 h2
def OA(K:Aa)(Y:AS)(H:Hp)(p:Addr):D->Prop
 | .lst ds=>∃vs,H p=some (.lst vs)/\El K Y H vs ds
 | .dk ds=>∃kvs,H p=some (.dK kvs)/\kvs.map (·.1)=ds.map (·.1)/\∀(i:Nat) v d,kvs[i]?=some v->ds[i]?=some d->DA K Y H v.2 d.2
 | .dt ds=>∃ep kvs,KA Y H ep.2/\H p=some (.dT ep kvs)/\kvs.map (·.1)=ds.map (·.1)/\∀(i:Nat) v d,kvs[i]?=some v->ds[i]?=some d->DA K Y H v.2 d.2
 | _=>False
theorem OA.live(h:OA K Y H p d):H p≠none:=by
 cases d with
 | lst ds=>obtain⟨vs,e,_⟩:=h;rw[e];simp
 | dk ds=>obtain⟨vs,e,_⟩:=h;rw[e];simp
 | dt ds=>obtain⟨_,vs,_,e,_⟩:=h;rw[e];simp
 | _=>exact h.elim
theorem OA.lv(h:OA K Y H p d):Lv H p:=by
 cases d with
 | lst ds=>obtain⟨vs,e,_⟩:=h;exact⟨by rw[e];simp,fun _ z=>by rw[e]at z;cases z⟩
 | dk ds=>obtain⟨vs,e,_⟩:=h;exact⟨by rw[e];simp,fun _ z=>by rw[e]at z;cases z⟩
 | dt ds=>obtain⟨_,vs,_,e,_⟩:=h;exact⟨by rw[e];simp,fun _ z=>by rw[e]at z;cases z⟩
 | _=>exact h.elim
theorem OA.go(h:OA K Y H p d)(hp:H' p=H p)(k:∀b o,H b=some o->¬ Y b->H' b=some o)(n:∀b,Y' b->Y b∨H b=none):OA K Y' H' p d:=by
 cases d with
 | lst ds=>obtain⟨vs,e,q⟩:=h;exact⟨vs,hp.trans e,q.go k n⟩
 | dk ds=>obtain⟨vs,e,q1,q2⟩:=h;exact⟨vs,hp.trans e,q1,fun i v d a b=>(q2 i v d a b).go k n⟩
 | dt ds=>obtain⟨ep,vs,ka,e,q1,q2⟩:=h;exact⟨ep,vs,ka.go k n,hp.trans e,q1,fun i v d a b=>(q2 i v d a b).go k n⟩
 | _=>exact h.elim
theorem OA.da(h:OA K Y H p d)(hp:¬ Y' p)(n:∀b,Y' b->Y b):DA K Y' H (.ref p) d:=by
 cases d with
 | lst ds=>obtain⟨vs,e,q⟩:=h;exact .lst hp e q.1 (q.less n).2
 | dk ds=>obtain⟨vs,e,q1,q2⟩:=h;exact .dk hp e q1 fun i v d a b=>(q2 i v d a b).less n
 | dt ds=>obtain⟨ep,vs,ka,e,q1,q2⟩:=h;exact .dt hp (ka.less n) e q1 fun i v d a b=>(q2 i v d a b).less n
 | _=>exact h.elim
def BA(K:Aa)(Y:AS)(H:Hp)(v:V):D->Prop
 | .non=>v=.non
 | .bl b=>v=.bl b
 | .int i=>v=.int i
 | .str x=>v=.str x
 | .tup ds=>∃a vs,v=.ref a/\TupA K Y H a vs/\El K Y H vs ds
 | .ty n=>v=.ty n
 | .lst ds=>∃a vs,v=.ref a/\H a=some (.lst vs)/\El K Y H vs ds
 | .fl ds=>∃a vs,v=.ref a/\LstA K Y H a vs/\El K Y H vs ds
 | .dk ds=>∃a kvs,v=.ref a/\H a=some (.dK kvs)/\kvs.map (·.1)=ds.map (·.1)/\∀(i:Nat) v d,kvs[i]?=some v->ds[i]?=some d->DA K Y H v.2 d.2
 | .dt ds=>∃a ep kvs,v=.ref a/\KA Y H ep.2/\H a=some (.dT ep kvs)/\kvs.map (·.1)=ds.map (·.1)/\∀(i:Nat) v d,kvs[i]?=some v->ds[i]?=some d->DA K Y H v.2 d.2
theorem DA.ba(h:DA K Y H v d):BA K Y H v d:=by
 cases h with
 | non=>rfl
 | bl b=>rfl
 | int i=>rfl
 | str x=>rfl
 | tup h1 h2 h3=>exact⟨_,_,rfl,h1,h2,h3⟩
 | ty n=>rfl
 | lst h0 h1 h2 h3=>exact⟨_,_,rfl,h1,h2,h3⟩
 | fl h1 h2 h3=>exact⟨_,_,rfl,h1,h2,h3⟩
 | dk h0 h1 h2 h3=>exact⟨_,_,rfl,h1,h2,h3⟩
 | dt h0 ka h1 h2 h3=>exact⟨_,_,_,rfl,ka,h1,h2,h3⟩
theorem OA.ba(h:OA K Y H p d):BA K Y H (.ref p) d:=by
 cases d with
 | lst ds=>obtain⟨vs,e,q⟩:=h;exact⟨p,vs,rfl,e,q⟩
 | dk ds=>obtain⟨vs,e,q1,q2⟩:=h;exact⟨p,vs,rfl,e,q1,q2⟩
 | dt ds=>obtain⟨ep,vs,ka,e,q1,q2⟩:=h;exact⟨p,ep,vs,rfl,ka,e,q1,q2⟩
 | _=>exact h.elim
end
end VF
namespace VF
open PySem L2
inductive Sl where
 | e|v (d:D)|o (d:D)|io (d:D)
abbrev En:=List Sl
def Sl.get:Sl->Option D
 | .e=>none
 | .v d=>some d
 | .o d=>some d
 | .io d=>some d
def Sl.ow:Sl->Option D
 | .o d=>some d
 | .io d=>some d
 | _=>none
def Sl.put(y:D):Sl->Sl
 | .io _=>.io y
 | _=>.o y
def Sl.put_ow(y:D)(s:Sl):(s.put y).ow=some y:=by cases s<;>rfl
def Sl.put_v(y z:D)(s:Sl):s.put y≠.v z:=by cases s<;>(intro e;cases e)
inductive Rs where
 | d (x:D)|f (x:D)|s (i:Nat)
structure ER(K:Aa)(st:En)(σ:St)(H:Hp)(O Z:AS):Prop where
 len:st.length=σ.length
 val:∀(i:Nat) d,st[i]?=some (.v d)->∃v,σ[i]?=some (some v)/\DA K (U O Z) H v d
 own:∀(i:Nat) s d,st[i]?=some s->s.ow=some d->∃p,σ[i]?=some (some (.ref p))/\O p/\OA K (U O Z) H p d
 uni:∀(i j:Nat) s t d d' p,st[i]?=some s->s.ow=some d->st[j]?=some t->t.ow=some d'->σ[i]?=some (some (.ref p))->σ[j]?=some (some (.ref p))->i=j
 dis:∀p,O p->¬ Z p
 liv:∀p,U O Z p->Lv H p
structure Kp(st st':En):Prop where
 len:st'.length=st.length
 has:∀(i:Nat) s,st[i]?=some s->s.get≠none->∃s',st'[i]?=some s'/\s'.get≠none
 io:∀(i:Nat) d,st[i]?=some (.io d)->∃d',st'[i]?=some (.io d')
def Kp.refl(st:En):Kp st st:=⟨rfl,fun i s h g=>⟨s,h,g⟩,fun i d h=>⟨d,h⟩⟩
theorem Kp.trans(x:Kp a b)(y:Kp b c):Kp a c:=by
 refine⟨y.len.trans x.len,fun i s h g=>?_,fun i d h=>?_⟩
 ·obtain⟨s',h',g'⟩:=x.has i s h g;exact y.has i s' h' g'
 ·obtain⟨d',h'⟩:=x.io i d h;exact y.io i d' h'
def RVal(K:Aa)(Z:AS)(st:En)(σ:St)(H:Hp)(O:AS)(v:V):Rs->Prop
 | .d x=>DA K (U O Z) H v x
 | .f x=>∃p,v=.ref p/\¬ O p/\¬ Z p/\OA K (ins p (U O Z)) H p x/\ER K st σ H (ins p O) Z
 | .s i=>σ[i]?=some (some v)/\∃s,st[i]?=some s/\s.get≠none
def cont(st:En):Rs->Option D
 | .d x=>some x
 | .f x=>some x
 | .s i=>(st[i]?).bind Sl.get
def Rs.nf:Rs->Rs
 | .f x=>.d x
 | r=>r
section
variable {K:Aa}{Y Y' O O' O1 O2 Z:AS}{H H' H1 H2:Hp}{v:V}{d:D}{vs:List V}{ds:List D}{a p:Addr}{st st' st1 st2:En}{σ σ':St}
def im(st:En)(r:Rs):cont st r.nf=cont st r:=by cases r<;>rfl
theorem RVal.nf{r:Rs}(h:RVal K Z st σ H O v r):RVal K Z st σ H O v r.nf:=by
 cases r with
 | d x=>exact h
 | s i=>exact h
 | f x =>
  obtain⟨p,rfl,h1,h2,h3,_⟩:=h;exact h3.da (fun z=>z.elim h1 h2) fun b z=>.inr z
theorem RVal.ba(h:RVal K Z st σ H O v r)(E:ER K st σ H O Z)(c:cont st r=some d):BA K (U O Z) H v d:=by
 cases r with
 | d x=>cases c;exact DA.ba h
 | f x =>
  cases c;have:=RVal.nf h;exact DA.ba (show DA K (U O Z) H v _ from this)
 | s i =>
  obtain⟨h1,s,h2,h3⟩:=h;have c':(st[i]?).bind Sl.get=some d:=c;rw[h2]at c';cases s with
  | e=>cases c'
  | v x =>
   cases c';obtain⟨u,g1,g2⟩:=E.val i _ h2;rw[h1]at g1;cases g1;exact g2.ba
  | o x =>
   cases c';obtain⟨p,g1,g2,g3⟩:=E.own i _ _ h2 rfl;rw[h1]at g1;cases g1;exact g3.ba
  | io x =>
   cases c';obtain⟨p,g1,g2,g3⟩:=E.own i _ _ h2 rfl;rw[h1]at g1;cases g1;exact g3.ba
theorem RVal.ext{r:Rs}(h:RVal K Z st σ H O v r.nf)(e:Ext O H O' H')(k:Kp st st'):RVal K Z st' σ H' O' v r.nf:=by
 cases r with
 | d x=>exact DA.ext (show DA K (U O Z) H v x from h) e
 | f x=>exact DA.ext (show DA K (U O Z) H v x from h) e
 | s i =>
  obtain⟨h1,s,h2,h3⟩:=h;exact⟨h1,k.has i s h2 h3⟩
theorem ER.same(E:ER K st σ H O Z)(s:Same H H'):ER K st σ H' O Z:=by
 refine⟨E.len,fun i d h=>?_,fun i s' d h1 h2=>?_,E.uni,E.dis,fun p hp=>?_⟩
 ·obtain⟨v,h1,h2⟩:=E.val i d h;exact⟨v,h1,h2.same s⟩
 ·obtain⟨p,g1,g2,g3⟩:=E.own i s' d h1 h2;refine⟨p,g1,g2,g3.go ?_ (fun b o e _=>s b o e) fun b z=>.inl z⟩;cases e:H p with
  | none=>exact absurd e g3.live
  | some o=>exact s p o e
 ·exact(E.liv p hp).same fun o e=>s p o e
theorem ER.away(E:ER K st σ H O Z)(s:Same H H')(hp:H p=none)(hp':Lv H' p):ER K st σ H' (ins p O) Z:=by
 have sub:∀b,U (ins p O) Z b->ins p (U O Z) b:=fun b z=>by
  rcases z with(z|z)|z
  ·exact .inl z
  ·exact .inr (.inl z)
  ·exact .inr (.inr z)
 refine⟨E.len,fun i d h=>?_,fun i s' d h1 h2=>?_,E.uni,fun q hq=>?_,fun q hq=>?_⟩
 ·obtain⟨v,h1,h2⟩:=E.val i d h;exact⟨v,h1,(h2.away s hp).less sub⟩
 ·obtain⟨q,g1,g2,g3⟩:=E.own i s' d h1 h2;refine⟨q,g1,.inr g2,g3.go ?_ (fun b o e _=>s b o e) fun b z=>?_⟩
  ·cases e:H q with
   | none=>exact absurd e g3.live
   | some o=>exact s q o e
  ·rcases sub b z with z|z
   ·exact .inr (z ▸ hp)
   ·exact .inl z
 ·rcases hq with rfl|hq
  ·exact fun z=>(E.liv _ (.inr z)).1 hp
  ·exact E.dis q hq
 ·rcases hq with(rfl|hq)|hq
  ·exact hp'
  ·exact(E.same s).liv q (.inl hq)
  ·exact(E.same s).liv q (.inr hq)
def ER.free(E:ER K st σ H O Z)(hp:H p=none):¬ O p/\¬ Z p:=⟨fun z=>(E.liv p (.inl z)).1 hp,fun z=>(E.liv p (.inr z)).1 hp⟩
def ER.new(E:ER K st σ H O Z)(hp:H p=none)(el:El K (U O Z) H vs ds):ER K st σ (upd H p (.lst vs)) O Z/\RVal K Z st σ (upd H p (.lst vs)) O (.ref p) (.f (.lst ds)):=by
 have s:=bE hp (.lst vs);have hf:=E.free hp;refine⟨E.same s,p,rfl,hf.1,hf.2,⟨vs,b8,el.away s hp⟩,E.away s hp ⟨by rw[b8];simp,fun _ z=>by rw[b8]at z;cases z⟩⟩
def ER.newT(E:ER K st σ H O Z)(hp:H p=none)(el:El K (U O Z) H vs ds):ER K st σ (upd H p (.tup vs)) O Z/\RVal K Z st σ (upd H p (.tup vs)) O (.ref p) (.d (.tup ds)):=by
 have s:=bE hp (.tup vs);have hf:=E.free hp;exact⟨E.same s,.tup ⟨b8,fun z=>z.elim hf.1 hf.2⟩ el.1 (el.same s).2⟩
def zO(st:En)(i:Nat):Option En:=match st[i]? with
 | some (.v _)=>some st
 | some (.o d)=>some (st.set i (.v d))
 | _=>none
def C0(st:En):Rs->Option En
 | .s i=>zO st i
 | _=>some st
def aD{l:List α}(h:i≠j):(l.set i x)[j]?=l[j]?:=by rw[Qi,Al h]
def bn{l:List α}(h:l[i]?=some y):(l.set i x)[i]?=some x:=by
 have hi:=(Xd.mp h).1;rw[Qi,Ag rfl,Ag hi]
set_option tactic.hygienic true in
def Fx(h:zO st i=some st'):Kp st st'/\∃d,st'[i]?=some (.v d)/\(st[i]?).bind Sl.get=some d:=by
 unfold zO at h;split at h
 ·rename_i d e
  cases h;exact⟨Kp.refl st,d,e,by rw[e];rfl⟩
 ·rename_i d e
  cases h;refine⟨⟨by simp,fun j s hj g=>?_,fun j d' hj=>?_⟩,d,bn e,by rw[e];rfl⟩
  ·by_cases q:i=j
   ·subst q;exact⟨.v d,bn e,by simp[Sl.get]⟩
   ·exact⟨s,by rw[aD q];exact hj,g⟩
  ·have q:i≠j:=fun z=>by subst z;rw[e]at hj;cases hj
   exact⟨d',by rw[aD q];exact hj⟩
 ·cases h
set_option tactic.hygienic true in
def ER.frz(E:ER K st σ H O Z)(h:zO st i=some st'):∃O',Ext O H O' H/\ER K st' σ H O' Z/\(∀b,O' b->O b):=by
 unfold zO at h;split at h
 ·cases h;exact⟨O,Ext.refl O H,E,fun _ z=>z⟩
 ·rename_i d e
  cases h;obtain⟨p,g1,g2,g3⟩:=E.own i _ _ e rfl;have less:∀b,U (fun b=>O b/\b≠p) Z b->U O Z b:=fun b z=>z.elim (fun q=>.inl q.1) .inr;refine⟨fun b=>O b/\b≠p,⟨fun b o q _=>q,fun b z=>.inl z.1,fun b z=>z,fun b z=>z⟩,⟨by simp[E.len],fun j x hj=>?_,fun j s x hj hs=>?_,fun j k s t x y q hj hs hk ht e1 e2=>?_,fun q hq=>E.dis q hq.1,fun q hq=>E.liv q (less q hq)⟩,fun b z=>z.1⟩
  ·by_cases q:i=j
   ·subst q;rw[bn e]at hj;cases hj;exact⟨.ref p,g1,g3.da (fun z=>z.elim (fun y=>y.2 rfl) (E.dis p g2)) less⟩
   ·rw[aD q]at hj;obtain⟨v,h1,h2⟩:=E.val j x hj;exact⟨v,h1,h2.less less⟩
  ·have q:i≠j:=fun z=>by
    subst z;rw[bn e]at hj;cases hj;cases hs
   rw[aD q]at hj;obtain⟨r,h1,h2,h3⟩:=E.own j s x hj hs;refine⟨r,h1,⟨h2,fun z=>q ?_⟩,h3.go rfl (fun _ _ e _=>e) fun b z=>.inl (less b z)⟩;subst z;exact E.uni i j _ _ _ _ r e rfl hj hs g1 h1
  ·have q1:i≠j:=fun z=>by
    subst z;rw[bn e]at hj;cases hj;cases hs
   have q2:i≠k:=fun z=>by
    subst z;rw[bn e]at hk;cases hk;cases ht
   rw[aD q1]at hj;rw[aD q2]at hk;exact E.uni j k s t x y q hj hs hk ht e1 e2
 ·cases h
theorem RVal.frz(h:RVal K Z st σ H O v r)(E:ER K st σ H O Z)(f:C0 st r=some st')(c:cont st r=some d):∃O',Ext O H O' H/\Kp st st'/\ER K st' σ H O' Z/\DA K (U O' Z) H v d:=by
 cases r with
 | d x=>cases f;cases c;exact⟨O,Ext.refl O H,Kp.refl st,E,h⟩
 | f x=>cases f;cases c;exact⟨O,Ext.refl O H,Kp.refl st,E,RVal.nf h⟩
 | s i =>
  obtain⟨h1,s,h2,h3⟩:=h;have f':zO st i=some st':=f;obtain⟨k,x,k1,k2⟩:=Fx f';obtain⟨O',e1,e2,_⟩:=E.frz f';have c':(st[i]?).bind Sl.get=some d:=c;have ex:x=d:=Option.some.inj (k2.symm.trans c');subst ex;obtain⟨u,g1,g2⟩:=e2.val i _ k1;rw[h1]at g1;cases g1;exact⟨O',e1,k,e2,g2⟩
def ER.write{s:Sl}(E:ER K st σ H O Z)(hs:st[i]?=some s)(ho:s.ow=some x)(hp:σ[i]?=some (some (.ref p)))(new:OA K (U O Z) (upd H p o) p y) :
  ER K (st.set i (s.put y)) σ (upd H p o) O Z/\Ext O H O (upd H p o)/\Kp st (st.set i (s.put y)):=by
 obtain⟨q,g1,g2,g3⟩:=E.own i s x hs ho;have eq:q=p:=by rw[hp]at g1;cases g1;rfl
 subst eq;have keep:∀b u,H b=some u->¬ U O Z b->upd H q o b=some u:=fun b u e n=>by
  have hb:b≠q:=fun z=>n (.inl (by rw[z];exact g2))
  rw[bd hb];exact e
 refine⟨⟨by simp[E.len],fun j d hj=>?_,fun j t d hj ht=>?_,fun j k t t' d d' r hj ht hk ht' e1 e2=>?_,E.dis,fun r hr=>?_⟩,⟨fun b u e n=>?_,fun b z=>.inl z,fun b z=>?_,fun b z=>?_⟩,⟨by simp,fun j t hj ht=>?_,fun j d hj=>?_⟩⟩
 ·by_cases e:i=j
  ·subst e;rw[bn hs]at hj;exact absurd (Option.some.inj hj) (Sl.put_v _ _ _)
  ·rw[aD e]at hj;obtain⟨v,h1,h2⟩:=E.val j d hj;exact⟨v,h1,h2.go keep fun b z=>.inl z⟩
 ·by_cases e:i=j
  ·subst e;rw[bn hs]at hj;have:=Option.some.inj hj;subst this;rw[Sl.put_ow]at ht;cases ht;exact⟨q,hp,g2,new⟩
  ·rw[aD e]at hj;obtain⟨r,h1,h2,h3⟩:=E.own j t d hj ht;have hne:r≠q:=fun z=>by subst z;exact e (E.uni i j s t x d r hs ho hj ht hp h1)
   exact⟨r,h1,h2,h3.go (bd hne) keep fun b z=>.inl z⟩
 ·have own':∀(m:Nat)(t:Sl)(d:D),(st.set i (s.put y))[m]?=some t->t.ow=some d->∃t2 d2,st[m]?=some t2/\t2.ow=some d2:=fun m t d hm ht=>by
   by_cases e:i=m
   ·subst e;exact⟨s,x,hs,ho⟩
   ·rw[aD e]at hm;exact⟨t,d,hm,ht⟩
  obtain⟨t1,d1,a1,b1⟩:=own' j t d hj ht;obtain⟨t2,d2,a2,b2⟩:=own' k t' d' hk ht';exact E.uni j k t1 t2 d1 d2 r a1 b1 a2 b2 e1 e2
 ·by_cases e:r=q
  ·subst e;exact new.lv
  ·exact(E.liv r hr).same fun o' eo=>by rw[bd e];exact eo
 ·have hb:b≠q:=fun z=>n (by rw[z];exact g2)
  rw[bd hb];exact e
 ·by_cases e:b=q
  ·subst e;rw[b8];simp
  ·rw[bd e];exact z
 ·by_cases e:b=q
  ·subst e;exact new.lv
  ·exact z.same fun o' eo=>by rw[bd e];exact eo
 ·by_cases e:i=j
  ·subst e;exact⟨s.put y,bn hs,by cases s<;>simp[Sl.put,Sl.get]⟩
  ·exact⟨t,by rw[aD e];exact hj,ht⟩
 ·by_cases e:i=j
  ·subst e;rw[hs]at hj;cases hj;exact⟨y,bn hs⟩
  ·exact⟨d,by rw[aD e];exact hj⟩
end
end VF
namespace VF
open PySem L2
abbrev FE:=En->Option (Rs×En)
abbrev FA:=En->Option (List Rs×En)
abbrev FT:=En->Option (Bool×En)
abbrev Rz:=D×Bool
def mk:Rz->Rs
 | (d,true)=>.f d
 | (d,false)=>.d d
def RES(K:Aa)(Y:AS)(H H':Hp)(v:V):Rz->Prop
 | (d,true)=>∃p,v=.ref p/\H p=none/\OA K (ins p Y) H' p d
 | (d,false)=>DA K Y H' v d
def Fsh(H:Hp)(v:V):Rs->Prop
 | .f _=>∀p,v=.ref p->H p=none
 | _=>True
theorem Ext.dead(e:Ext O H O' H')(h:H' p=none):H p=none:=by
 cases q:H p with
 | none=>rfl
 | some o=>exact absurd h (e.al p (by rw[q];simp))
theorem Fsh.back(h:Fsh H' v r)(e:Ext O H O' H'):Fsh H v r:=by
 cases r with
 | f x=>exact fun p hp=>e.dead (h p hp)
 | d x=>trivial
 | s i=>trivial
def RdE(K:Aa)(te:TE)(f:FE):Prop:=∀(st:En)(σ:St)(H:Hp)(O Z:AS)(Q:VK),ER K st σ H O Z->∀r st',f st=some (r,st') ->
 (∀v H' O',Ext O H O' H'->Kp st st'->ER K st' σ H' O' Z->RVal K Z st' σ H' O' v r->Fsh H v r->Q v H')->te σ H Q
inductive RVs(K:Aa)(Z:AS)(st:En)(σ:St)(H:Hp)(O:AS):List V->List Rs->Prop where
 | nil:RVs K Z st σ H O [] []
 | cons {v:V} {vs:List V} {r:Rs} {rs:List Rs}:RVal K Z st σ H O v r.nf->RVs K Z st σ H O vs rs->RVs K Z st σ H O (v::vs) (r::rs)
def RdA(K:Aa)(ta:TA)(f:FA):Prop:=∀(st:En)(σ:St)(H:Hp)(O Z:AS)(Q:List V->Hp->Prop),ER K st σ H O Z->∀rs st',f st=some (rs,st') ->
 (∀vs H' O',Ext O H O' H'->Kp st st'->ER K st' σ H' O' Z->RVs K Z st' σ H' O' vs rs->Q vs H')->ta σ H Q
def RdT(K:Aa)(tt:TT)(f:FT):Prop:=∀(st:En)(σ:St)(H:Hp)(O Z:AS)(Q:Bool->Hp->Prop),ER K st σ H O Z->∀c st',f st=some (c,st') ->
 (∀H' O',Ext O H O' H'->Kp st st'->ER K st' σ H' O' Z->Q c H')->tt σ H Q
def RdOp(K:Aa)(r:R2)(b:D->D->Option Rz):Prop:=∀(Y:AS)(H:Hp)(x y:V)(d1 d2:D)(z:Rz)(Q:VK),(∀p,Y p->Lv H p)->BA K Y H x d1->BA K Y H y d2->b d1 d2=some z ->
 (∀v H',Same H H'->RES K Y H H' v z->Q v H')->r x y H Q
def Im(K:Aa)(r:V->Hp->VK->Prop)(b:D->Option Rz):Prop:=∀(Y:AS)(H:Hp)(x:V)(d1:D)(z:Rz)(Q:VK),(∀p,Y p->Lv H p)->BA K Y H x d1->b d1=some z ->
 (∀v H',Same H H'->RES K Y H H' v z->Q v H')->r x H Q
inductive BAs(K:Aa)(Y:AS)(H:Hp):List V->List D->Prop where
 | nil:BAs K Y H [] []
 | cons {v:V} {vs:List V} {d:D} {ds:List D}:BA K Y H v d->BAs K Y H vs ds->BAs K Y H (v::vs) (d::ds)
def RdCB(K:Aa)(r:List V->Hp->VK->Prop)(b:List D->Option Rz):Prop:=∀(Y:AS)(H:Hp)(xs:List V)(ds:List D)(z:Rz)(Q:VK),(∀p,Y p->Lv H p)->BAs K Y H xs ds->b ds=some z ->
 (∀v H',Same H H'->RES K Y H H' v z->Q v H')->r xs H Q
section
variable {K:Aa}{Y Y' O O' O1 O2 Z:AS}{H H' H1 H2:Hp}{v:V}{d:D}{vs:List V}{ds:List D}{a p:Addr}{st st' st1 st2:En}{σ σ':St}
theorem RES.rv(E:ER K st σ H O Z)(s:Same H H')(h:RES K (U O Z) H H' v z):ER K st σ H' O Z/\RVal K Z st σ H' O v (mk z):=by
 obtain⟨d,fr⟩:=z;cases fr with
 | false=>exact⟨E.same s,h⟩
 | true =>
  obtain⟨p,rfl,hp,ho⟩:=h;have hf:=E.free hp;exact⟨E.same s,p,rfl,hf.1,hf.2,ho,E.away s hp ho.lv⟩
theorem RES.fsh(h:RES K Y H H' v z):Fsh H v (mk z):=by
 obtain⟨d,fr⟩:=z;cases fr with
 | false=>trivial
 | true=>obtain⟨p,rfl,hp,_⟩:=h;exact fun q e=>by cases e;exact hp
theorem RVs.ext(h:RVs K Z st σ H O vs rs)(e:Ext O H O' H')(k:Kp st st'):RVs K Z st' σ H' O' vs rs:=by
 induction h with
 | nil=>exact .nil
 | cons h1 _ ih=>exact .cons (h1.ext e k) ih
def eH(st:En):List Rs->Option (List D)
 | []=>some []
 | r::rs=>(cont st r).bind fun d=>(eH st rs).bind fun ds=>some (d::ds)
theorem RVs.bas(h:RVs K Z st σ H O vs rs)(E:ER K st σ H O Z):∀{ds:List D},eH st rs=some ds->BAs K (U O Z) H vs ds:=by
 induction h with
 | nil=>intro ds e;cases e;exact .nil
 | @cons v vs r rs h1 _ ih =>
  intro ds e;refine bsO e fun d e1 e=>?_;refine bsO e fun ds' e2 e=>?_;cases e;exact .cons (h1.ba E (by rw[im];exact e1)) (ih e2)
def eZ:List Rs->En->Option (List D×En)
 | [],st=>some ([],st)
 | r::rs,st=>(cont st r).bind fun d=>(C0 st r).bind fun st1=>(eZ rs st1).bind fun x=>some (d::x.1,x.2)
def Fy(st:En)(r:Rs):C0 st r.nf=C0 st r:=by cases r<;>rfl
theorem RVs.esc:∀{rs:List Rs}{vs:List V}{st:En}{O:AS}{ds:List D}{st':En},RVs K Z st σ H O vs rs->ER K st σ H O Z->eZ rs st=some (ds,st')->∃O',Ext O H O' H/\Kp st st'/\ER K st' σ H O' Z/\El K (U O' Z) H vs ds
 | [],_,st,O,ds,st',.nil,E,e=>by cases e;exact⟨O,Ext.refl O H,Kp.refl _,E,El.nil⟩
 | r::rs,_,st,O,ds,st',.cons h1 h2,E,e=>by
  refine bsO e fun d e1 e=>?_;refine bsO e fun st1 e2 e=>?_;refine bsP e fun ds2 st2 e3 e=>?_;cases e;obtain⟨O1,x1,k1,E1,da⟩:=h1.frz E (by rw[Fy];exact e2) (by rw[im];exact e1)
  obtain⟨O2,x2,k2,E2,el⟩:=RVs.esc (h2.ext x1 k1) E1 e3;exact⟨O2,x1.trans x2,k1.trans k2,E2,El.cons (da.ext x2) el⟩
def ae(i:Nat):FE:=fun st=>match st[i]? with
 | some (.v d)=>some (.d d,st)
 | some (.o _)=>some (.s i,st)
 | some (.io _)=>some (.s i,st)
 | _=>none
set_option tactic.hygienic true in
def Ip(i:Nat):RdE K (zp i) (ae i):=by
 intro st σ H O Z Q E r st' h q;unfold ae at h;split at h
 ·rename_i d e
  cases h;obtain⟨v,h1,h2⟩:=E.val i d e;exact⟨v,h1,q v H O (Ext.refl O H) (Kp.refl _) E h2 True.intro⟩
 ·rename_i d e
  cases h;obtain⟨p,h1,h2,h3⟩:=E.own i _ _ e rfl;exact⟨.ref p,h1,q _ H O (Ext.refl O H) (Kp.refl _) E ⟨h1,_,e,by simp[Sl.get]⟩ True.intro⟩
 ·rename_i d e
  cases h;obtain⟨p,h1,h2,h3⟩:=E.own i _ _ e rfl;exact⟨.ref p,h1,q _ H O (Ext.refl O H) (Kp.refl _) E ⟨h1,_,e,by simp[Sl.get]⟩ True.intro⟩
 ·cases h
def fC(d:D):FE:=fun st=>some (.d d,st)
def wJ(h:∀Y H,DA K Y H v d):RdE K (tC v) (fC d):=by
 intro st σ H O Z Q E r st' e q;cases e;exact q v H O (Ext.refl O H) (Kp.refl _) E (h _ _) True.intro
def Iq(i:Int):RdE K (tC (.int i)) (fC (.int i)):=wJ fun _ _=>.int i
def Ir(x:Str):RdE K (tC (.str x)) (fC (.str x)):=wJ fun _ _=>.str x
def Kx(b:Bool):RdE K (tC (.bl b)) (fC (.bl b)):=wJ fun _ _=>.bl b
def Iu:RdE K (tC .non) (fC .non):=wJ fun _ _=>.non
def fOp(b:D->D->Option Rz)(fa fb:FE):FE:=fun st=>(fa st).bind fun x=>(fb x.2).bind fun y=>(cont y.2 x.1).bind fun d1=>(cont y.2 y.1).bind fun d2=>(b d1 d2).bind fun z=>some (mk z,y.2)
def G6(hr:RdOp K r b)(ha:RdE K ta fa)(hb:RdE K tb fb):RdE K (tOp r ta tb) (fOp b fa fb):=by
 intro st σ H O Z Q E r' st' h q;refine bsP h fun r1 st1 e1 h=>?_;refine bsP h fun r2 st2 e2 h=>?_;refine bsO h fun d1 e3 h=>?_;refine bsO h fun d2 e4 h=>?_;refine bsO h fun z e5 h=>?_;cases h;refine ha st σ H O Z _ E r1 st1 e1 fun v1 H1 O1 x1 k1 E1 rv1 w1=>?_;refine hb st1 σ H1 O1 Z _ E1 r2 st2 e2 fun v2 H2 O2 x2 k2 E2 rv2 w2=>?_;have b1:=(rv1.nf.ext x2 k2).ba E2 (by rw[im];exact e3)
 refine hr (U O2 Z) H2 v1 v2 d1 d2 z _ E2.liv b1 (rv2.ba E2 e4) e5 fun v H3 s hres=>?_;obtain⟨E3,rv3⟩:=hres.rv E2 s;exact q v H3 O2 ((x1.trans x2).trans (Same.ext s)) (k1.trans k2) E3 rv3 (hres.fsh.back (x1.trans x2))
def fUn(b:D->Option Rz)(fa:FE):FE:=fun st=>(fa st).bind fun x=>(cont x.2 x.1).bind fun d1=>(b d1).bind fun z=>some (mk z,x.2)
def G7(hr:Im K r b)(ha:RdE K ta fa):RdE K (tUn r ta) (fUn b fa):=by
 intro st σ H O Z Q E r' st' h q;refine bsP h fun r1 st1 e1 h=>?_;refine bsO h fun d1 e3 h=>?_;refine bsO h fun z e5 h=>?_;cases h;refine ha st σ H O Z _ E r1 st1 e1 fun v1 H1 O1 x1 k1 E1 rv1 w1=>?_;refine hr (U O1 Z) H1 v1 d1 z _ E1.liv (rv1.ba E1 e3) e5 fun v H3 s hres=>?_;obtain⟨E3,rv3⟩:=hres.rv E1 s;exact q v H3 O1 (x1.trans (Same.ext s)) k1 E3 rv3 (hres.fsh.back x1)
def tru(st:En)(r:Rs):Option Bool:=match cont st r with
 | some (.bl c)=>some c
 | _=>none
set_option tactic.hygienic true in
def C1(E:ER K st σ H O Z)(h:RVal K Z st σ H O v r)(t:tru st r=some c):v=.bl c:=by
 unfold tru at t;split at t
 ·rename_i b e
  cases t;exact h.ba E e
 ·cases t
def ax(fa:FE):FT:=fun st=>(fa st).bind fun x=>(tru x.2 x.1).bind fun c=>some (c,x.2)
def tV(ha:RdE K ta fa):RdT K (x6 ta) (ax fa):=by
 intro st σ H O Z Q E c st' h q;refine bsP h fun r1 st1 e1 h=>?_;refine bsO h fun c' e2 h=>?_;cases h;exact ha st σ H O Z _ E r1 st1 e1 fun v1 H1 O1 x1 k1 E1 rv1 w1=>⟨c,C1 E1 rv1 e2,q H1 O1 x1 k1 E1⟩
def G8(ha:RdE K ta fa):RdT K (tB ta) (ax fa):=tV ha
def eI(f:FT):FT:=fun st=>(f st).bind fun x=>some (!x.1,x.2)
def yg(h:RdT K t f):RdT K (Kh t) (eI f):=by
 intro st σ H O Z Q E c st' e q;refine bsP e fun c1 st1 e1 e=>?_;cases e;exact h st σ H O Z _ E c1 st1 e1 q
def nk(f g:FT):FT:=fun st=>(f st).bind fun x=>if x.1=true then g x.2 else some (false,x.2)
theorem yh(h:RdT K t f)(h':RdT K u g):RdT K (Kg t u) (nk f g):=by
 intro st σ H O Z Q E c st' e q;refine bsP e fun c1 st1 e1 e=>?_;refine h st σ H O Z _ E c1 st1 e1 fun H1 O1 x1 k1 E1=>?_;cases c1 with
 | true =>
  rw[Ag rfl]at e ⊢;exact h' st1 σ H1 O1 Z _ E1 c st' e fun H2 O2 x2 k2 E2=>q H2 O2 (x1.trans x2) (k1.trans k2) E2
 | false =>
  simp only[We,if_false]at e ⊢;cases e;exact q H1 O1 x1 k1 E1
def kz(f g:FT):FT:=fun st=>(f st).bind fun x=>if x.1=true then some (true,x.2) else g x.2
theorem C2(h:RdT K t f)(h':RdT K u g):RdT K (tOr t u) (kz f g):=by
 intro st σ H O Z Q E c st' e q;refine bsP e fun c1 st1 e1 e=>?_;refine h st σ H O Z _ E c1 st1 e1 fun H1 O1 x1 k1 E1=>?_;cases c1 with
 | true =>
  rw[Ag rfl]at e ⊢;cases e;exact q H1 O1 x1 k1 E1
 | false =>
  simp only[We,if_false]at e ⊢;exact h' st1 σ H1 O1 Z _ E1 c st' e fun H2 O2 x2 k2 E2=>q H2 O2 (x1.trans x2) (k1.trans k2) E2
def aN:FT:=fun st=>some (true,st)
def Iv:RdT K Kw aN:=by
 intro st σ H O Z Q E c st' e q;cases e;exact q H O (Ext.refl O H) (Kp.refl _) E
def gn(fa fb:FE):FE:=fun st=>(fa st).bind fun x=>(tru x.2 x.1).bind fun c=>if c=true then fb x.2 else some (.d (.bl false),x.2)
theorem yi(ha:RdE K ta fa)(hb:RdE K tb fb):RdE K (GR ta tb) (gn fa fb):=by
 intro st σ H O Z Q E r st' h q;refine bsP h fun r1 st1 e1 h=>?_;refine bsO h fun c e2 h=>?_;refine ha st σ H O Z _ E r1 st1 e1 fun v1 H1 O1 x1 k1 E1 rv1 w1=>⟨c,C1 E1 rv1 e2,?_⟩;cases c with
 | true =>
  rw[Ag rfl]at h ⊢;exact hb st1 σ H1 O1 Z _ E1 r st' h fun v H2 O2 x2 k2 E2 rv w2=>q v H2 O2 (x1.trans x2) (k1.trans k2) E2 rv (w2.back x1)
 | false =>
  rw[Al (by decide)]at h ⊢
  cases h;exact q _ H1 O1 x1 k1 E1 (.bl false) True.intro
def G9(fa:FE):FE:=fun st=>(fa st).bind fun x=>(tru x.2 x.1).bind fun c=>some (.d (.bl (!c)),x.2)
def yj(ha:RdE K ta fa):RdE K (GS ta) (G9 fa):=by
 intro st σ H O Z Q E r st' h q;refine bsP h fun r1 st1 e1 h=>?_;refine bsO h fun c e2 h=>?_;cases h;exact ha st σ H O Z _ E r1 st1 e1 fun v1 H1 O1 x1 k1 E1 rv1 w1=>⟨c,C1 E1 rv1 e2,q _ H1 O1 x1 k1 E1 (.bl _) True.intro⟩
def fIf(f:FT)(fa fb:FE):FE:=fun st=>(f st).bind fun x=>if x.1=true then fa x.2 else fb x.2
theorem Ha(h:RdT K t f)(ha:RdE K ta fa)(hb:RdE K tb fb):RdE K (tIf t ta tb) (fIf f fa fb):=by
 intro st σ H O Z Q E r st' e q;refine bsP e fun c1 st1 e1 e=>?_;refine h st σ H O Z _ E c1 st1 e1 fun H1 O1 x1 k1 E1=>?_;cases c1 with
 | true =>
  rw[Ag rfl]at e ⊢;exact ha st1 σ H1 O1 Z _ E1 r st' e fun v H2 O2 x2 k2 E2 rv w2=>q v H2 O2 (x1.trans x2) (k1.trans k2) E2 rv (w2.back x1)
 | false =>
  simp only[We,if_false]at e ⊢;exact hb st1 σ H1 O1 Z _ E1 r st' e fun v H2 O2 x2 k2 E2 rv w2=>q v H2 O2 (x1.trans x2) (k1.trans k2) E2 rv (w2.back x1)
def mx(b b':D->D->Option Rz)(fa fb fc:FE):FE:=fun st=>(fa st).bind fun x=>(fb x.2).bind fun y=>(cont y.2 x.1).bind fun d1=>(cont y.2 y.1).bind fun d2=>(b d1 d2).bind fun z=>match z with
 | (.bl true,false)=>(fc y.2).bind fun w=>(cont w.2 y.1).bind fun d2'=>(cont w.2 w.1).bind fun d3=>(b' d2' d3).bind fun z'=>some (mk z',w.2)
 | (.bl false,false)=>some (.d (.bl false),y.2)
 | _=>none
def vh(hr:RdOp K r b)(hr':RdOp K r' b')(ha:RdE K ta fa)(hb:RdE K tb fb)(hc:RdE K tc fc):RdE K (CP r r' ta tb tc) (mx b b' fa fb fc):=by
 intro st σ H O Z Q E r0 st' h q;refine bsP h fun r1 st1 e1 h=>?_;refine bsP h fun r2 st2 e2 h=>?_;refine bsO h fun d1 e3 h=>?_;refine bsO h fun d2 e4 h=>?_;refine bsO h fun z e5 h=>?_;refine ha st σ H O Z _ E r1 st1 e1 fun v1 H1 O1 x1 k1 E1 rv1 w1=>?_;refine hb st1 σ H1 O1 Z _ E1 r2 st2 e2 fun v2 H2 O2 x2 k2 E2 rv2 w2=>?_;have b1:=(rv1.nf.ext x2 k2).ba E2 (by rw[im];exact e3)
 refine hr (U O2 Z) H2 v1 v2 d1 d2 z _ E2.liv b1 (rv2.ba E2 e4) e5 fun v H3 s hres=>?_;obtain⟨dz,fr⟩:=z;cases dz with
 | bl c =>
  cases fr with
  | true=>cases c<;>cases h
  | false =>
   have ev:v=.bl c:=DA.ba (show DA K (U O2 Z) H3 v (.bl c) from hres);refine⟨c,ev,?_⟩;have E3:=E2.same s;have x3:Ext O2 H2 O2 H3:=Same.ext s;cases c with
   | false =>
    rw[Al (by decide)]
    cases h;exact q _ H3 O2 ((x1.trans x2).trans x3) (k1.trans k2) E3 (.bl false) True.intro
   | true =>
    rw[Ag rfl];refine bsP h fun r3 st3 g1 h=>?_;refine bsO h fun d2' g2 h=>?_;refine bsO h fun d3 g3 h=>?_;refine bsO h fun z' g4 h=>?_;cases h;refine hc st2 σ H3 O2 Z _ E3 r3 st3 g1 fun v3 H4 O4 x4 k4 E4 rv4 w4=>?_;have b2:=(rv2.nf.ext (x3.trans x4) k4).ba E4 (by rw[im];exact g2)
    refine hr' (U O4 Z) H4 v2 v3 d2' d3 z' _ E4.liv b2 (rv4.ba E4 g3) g4 fun w H5 s5 hres5=>?_;obtain⟨E5,rv5⟩:=hres5.rv E4 s5;exact q w H5 O4 ((((x1.trans x2).trans x3).trans x4).trans (Same.ext s5)) ((k1.trans k2).trans k4) E5 rv5 (hres5.fsh.back (((x1.trans x2).trans x3).trans x4))
 | _=>cases fr<;>cases h
def ah:FA:=fun st=>some ([],st)
def Iw:RdA K rL ah:=by
 intro st σ H O Z Q E rs st' e q;cases e;exact q [] H O (Ext.refl O H) (Kp.refl _) E .nil
def aa(fa:FE)(fr:FA):FA:=fun st=>(fa st).bind fun x=>(fr x.2).bind fun y=>some (x.1::y.1,y.2)
def yk(ha:RdE K ta fa)(hr:RdA K tr fr):RdA K (dL ta tr) (aa fa fr):=by
 intro st σ H O Z Q E rs st' h q;refine bsP h fun r1 st1 e1 h=>?_;refine bsP h fun rs2 st2 e2 h=>?_;cases h;refine ha st σ H O Z _ E r1 st1 e1 fun v1 H1 O1 x1 k1 E1 rv1 w1=>?_;refine hr st1 σ H1 O1 Z _ E1 rs2 st2 e2 fun vs H2 O2 x2 k2 E2 rvs=>?_;exact q (v1::vs) H2 O2 (x1.trans x2) (k1.trans k2) E2 (.cons (rv1.nf.ext x2 k2) rvs)
def few(h:n<=1000000):n<=sizeLine:=Wc h (by decide)
def cr(fa:FA):FE:=fun st=>(fa st).bind fun x=>(eZ x.1 x.2).bind fun y=>if y.1.length<=1000000 then some (.d (.tup y.1),y.2) else none
def C3(ha:RdA K ta fa):RdE K (Ks ta) (cr fa):=by
 intro st σ H O Z Q E r st' h q;refine bsP h fun rs st1 e1 h=>?_;refine bsP h fun ds st2 e2 h=>?_;refine ha st σ H O Z _ E rs st1 e1 fun vs H1 O1 x1 k1 E1 rvs=>?_;obtain⟨O2,x2,k2,E2,el⟩:=rvs.esc E1 e2;obtain⟨hz,h⟩:=aF h;cases h;refine⟨by rw[el.1];exact few hz,fun p hp=>?_⟩
 obtain⟨E3,rv⟩:=E2.newT hp el;exact q _ _ O2 ((x1.trans x2).trans (Same.ext (bE hp _))) (k1.trans k2) E3 rv True.intro
def cY(fa:FA):FE:=fun st=>(fa st).bind fun x=>(eZ x.1 x.2).bind fun y=>if y.1.length<=1000000 then some (.f (.lst y.1),y.2) else none
def C4(ha:RdA K ta fa):RdE K (zw ta) (cY fa):=by
 intro st σ H O Z Q E r st' h q;refine bsP h fun rs st1 e1 h=>?_;refine bsP h fun ds st2 e2 h=>?_;refine ha st σ H O Z _ E rs st1 e1 fun vs H1 O1 x1 k1 E1 rvs=>?_;obtain⟨O2,x2,k2,E2,el⟩:=rvs.esc E1 e2;obtain⟨hz,h⟩:=aF h;cases h;refine⟨by rw[el.1];exact few hz,fun p hp=>?_⟩
 obtain⟨E3,rv⟩:=E2.new hp el;exact q _ _ O2 ((x1.trans x2).trans (Same.ext (bE hp _))) (k1.trans k2) E3 rv fun p' e=>by cases e;exact(x1.trans x2).dead hp
def fCB(b:List D->Option Rz)(fa:FA):FE:=fun st=>(fa st).bind fun x=>(eH x.2 x.1).bind fun ds=>(b ds).bind fun z=>some (mk z,x.2)
def Hb(hr:RdCB K r b)(ha:RdA K ta fa):RdE K (tCB r ta) (fCB b fa):=by
 intro st σ H O Z Q E r0 st' h q;refine bsP h fun rs st1 e1 h=>?_;refine bsO h fun ds e2 h=>?_;refine bsO h fun z e3 h=>?_;cases h;refine ha st σ H O Z _ E rs st1 e1 fun vs H1 O1 x1 k1 E1 rvs=>?_;refine hr (U O1 Z) H1 vs ds z _ E1.liv (rvs.bas E1 e2) e3 fun v H3 s hres=>?_;obtain⟨E3,rv3⟩:=hres.rv E1 s;exact q v H3 O1 (x1.trans (Same.ext s)) k1 E3 rv3 (hres.fsh.back x1)
end
end VF
namespace VF
open PySem L2
def D.isSc:D->Bool
 | .non=>true
 | .bl _=>true
 | .int _=>true
 | .str _=>true
 | .ty _=>true
 | _=>false
def spV(K:Aa)(g:List D->Option Rz):Sp:=fun vs H Q _=>∃(Z:AS)(ds:List D)(z:Rz),El K Z H vs ds/\(∀p,Z p->Lv H p)/\g ds=some z/\∀v H',Same H H'->RES K Z H H' v z->Q v H'
def LJ(K:Aa)(Y:AS)(f:Addr)(x':D)(H H':Hp)(v:V):Rz->Prop
 | (d,true)=>∃p,v=.ref p/\H p=none/\OA K (ins p Y) H' p d/\OA K (ins p Y) H' f x'
 | (d,false)=>DA K Y H' v d/\OA K Y H' f x'
def kD(K:Aa)(g:D->List D->Option (Rz×D)):Sp:=fun vs H Q _=>∃(f:Addr)(ws:List V)(Z:AS)(x:D)(ds:List D)(z:Rz)(x':D),vs=.ref f::ws/\¬ Z f/\OA K (ins f Z) H f x/\El K (ins f Z) H ws ds/\(∀p,Z p->Lv H p)/\g x ds=some (z,x') /\
 ∀v H',(∀b o,H b=some o->b≠f->H' b=some o)->LJ K (ins f Z) f x' H H' v z->Q v H'
section
variable {K:Aa}{Y Y' O O' O1 O2 Z:AS}{H H' H1 H2:Hp}{v:V}{d:D}{vs:List V}{ds:List D}{a p:Addr}{st st' st1 st2:En}{σ σ':St}
def bL(g:List D->Option Rz)(fa:FA):FE:=fun st=>(fa st).bind fun x=>(eZ x.1 x.2).bind fun y=>(g y.1).bind fun z=>some (mk z,y.2)
def yl(ha:RdA K ta fa):RdE K (zN (spV K g) ta) (bL g fa):=by
 intro st σ H O Z Q E r0 st' h q;refine bsP h fun rs st1 e1 h=>?_;refine bsP h fun ds st2 e2 h=>?_;refine bsO h fun z e3 h=>?_;cases h;refine ha st σ H O Z _ E rs st1 e1 fun vs H1 O1 x1 k1 E1 rvs=>?_;obtain⟨O2,x2,k2,E2,el⟩:=rvs.esc E1 e2;refine⟨U O2 Z,ds,z,el,E2.liv,e3,fun v H3 s hres=>?_⟩;obtain⟨E3,rv3⟩:=hres.rv E2 s;exact q v H3 O2 ((x1.trans x2).trans (Same.ext s)) (k1.trans k2) E3 rv3 (hres.fsh.back (x1.trans x2))
theorem RVal.da0(h:RVal K Z st σ H O v r)(E:ER K st σ H O Z)(c:cont st r=some d):DA K (fun _=>False) H v d:=by
 cases r with
 | d x=>cases c;exact DA.less (show DA K (U O Z) H v d from h) fun b z=>z.elim
 | f x=>cases c;exact DA.less (show DA K (U O Z) H v d from RVal.nf h) fun b z=>z.elim
 | s i =>
  obtain⟨h1,s,h2,h3⟩:=h;have c':(st[i]?).bind Sl.get=some d:=c;rw[h2]at c';cases s with
  | e=>cases c'
  | v x =>
   cases c';obtain⟨u,g1,g2⟩:=E.val i _ h2;rw[h1]at g1;cases g1;exact g2.less fun b z=>z.elim
  | o x =>
   cases c';obtain⟨p,g1,g2,g3⟩:=E.own i _ _ h2 rfl;rw[h1]at g1;cases g1;exact g3.da (fun z=>z) fun b z=>z.elim
  | io x =>
   cases c';obtain⟨p,g1,g2,g3⟩:=E.own i _ _ h2 rfl;rw[h1]at g1;cases g1;exact g3.da (fun z=>z) fun b z=>z.elim
theorem RVs.el0(h:RVs K Z st σ H O vs rs)(E:ER K st σ H O Z):∀{ds:List D},eH st rs=some ds->El K (fun _=>False) H vs ds:=by
 induction h with
 | nil=>intro ds e;cases e;exact El.nil
 | @cons v vs r rs h1 _ ih =>
  intro ds e;refine bsO e fun d e1 e=>?_;refine bsO e fun ds' e2 e=>?_;cases e;exact El.cons (h1.da0 E (by rw[im];exact e1)) (ih e2)
theorem DA.sc(h:DA K Y H v d)(s:d.isSc=true):DA K Y' H' v d:=by
 cases h with
 | non=>exact .non
 | bl b=>exact .bl b
 | int i=>exact .int i
 | str x=>exact .str x
 | ty n=>exact .ty n
 | _=>cases s
def aG(g:List D->Option Rz)(fa:FA):FE:=fun st=>(fa st).bind fun x=>(eH x.2 x.1).bind fun ds=>(g ds).bind fun z=>if (z.1.isSc&&!z.2)=true then some (.d z.1,x.2) else none
def vi(ha:RdA K ta fa):RdE K (zN (spV K g) ta) (aG g fa):=by
 intro st σ H O Z Q E r0 st' h q;refine bsP h fun rs st1 e1 h=>?_;refine bsO h fun ds e2 h=>?_;refine bsP h fun dz fr e3 h=>?_;obtain⟨hc,h⟩:=aF h;cases h;have h1:dz.isSc=true/\fr=false:=by simpa using hc
 obtain⟨h1,rfl⟩:=h1;refine ha st σ H O Z _ E rs _ e1 fun vs H1 O1 x1 k1 E1 rvs=>?_;refine⟨fun _=>False,ds,(dz,false),rvs.el0 E1 e2,fun p z=>z.elim,e3,fun v H3 s hres=>?_⟩;exact q v H3 O1 (x1.trans (Same.ext s)) k1 (E1.same s) (DA.sc (show DA K (fun _=>False) H3 v dz from hres) h1) True.intro
def vj{s:Sl}(E:ER K st σ H O Z)(hs:st[i]?=some s)(hx:s.ow=some x)(hv:σ[i]?=some (some v))(el:El K (U O Z) H ws ds)(hg:g x ds=some (z,x'))
  (q:∀v H' O',Ext O H O' H'->Kp st (st.set i (s.put x'))->ER K (st.set i (s.put x')) σ H' O' Z->RVal K Z (st.set i (s.put x')) σ H' O' v (mk z)->Fsh H v (mk z)->Q v H'):kD K g (v::ws) H Q XE:=by
 obtain⟨p,g1,g2,g3⟩:=E.own i s x hs hx;have ev:v=.ref p:=by rw[hv]at g1;cases g1;rfl
 subst ev;have a1:∀b,ins p (fun b=>U O Z b/\b≠p) b->U O Z b:=fun b z=>z.elim (fun q=>by rw[q];exact .inl g2) fun q=>q.1
 have a2:∀b,U O Z b->ins p (fun b=>U O Z b/\b≠p) b:=fun b z=>by
  by_cases e:b=p
  ·exact .inl e
  ·exact .inr ⟨z,e⟩
 refine⟨p,ws,fun b=>U O Z b/\b≠p,x,ds,z,x',rfl,fun z=>z.2 rfl,g3.go rfl (fun _ _ e _=>e) (fun b z=>.inl (a1 b z)),el.less a1,fun b z=>E.liv b z.1,hg,fun u H' kp hres=>?_⟩;have ho:OA K (ins p fun b=>U O Z b/\b≠p) H' p x':=by
  obtain⟨dz,fr⟩:=z;cases fr with
  | false=>exact hres.2
  | true=>obtain⟨r,_,_,_,h⟩:=hres;exact h.go rfl (fun _ _ e _=>e) fun b z=>.inl (.inr z)
 have kp':∀b o,H b=some o->¬ U O Z b->H' b=some o:=fun b o e n=>kp b o e fun z=>n (by rw[z];exact .inl g2)
 have al:∀b,H b≠none->H' b≠none:=fun b hb=>by
  by_cases e:b=p
  ·rw[e];exact ho.live
  ·cases eb:H b with
   | none=>exact absurd eb hb
   | some o=>rw[kp b o eb e];simp
 have al':∀b,Lv H b->Lv H' b:=fun b hb=>by
  by_cases e:b=p
  ·rw[e];exact ho.lv
  ·exact hb.same fun o eb=>kp b o eb e
 have ex:Ext O H O H':=⟨fun b o e n=>kp b o e fun z=>n (by rw[z];exact g2),fun b z=>.inl z,al,al'⟩
 have ho':OA K (U O Z) H' p x':=ho.go rfl (fun _ _ e _=>e) fun b z=>.inl (a2 b z);have mkE:∀(O2:AS),(∀b,O b->O2 b)->(∀b,O2 b->O b∨H b=none)->(∀b,O2 b->¬ Z b)->(∀b,O2 b->Lv H' b)->OA K (U O2 Z) H' p x'->ER K (st.set i (s.put x')) σ H' O2 Z:=fun O2 up dn ds lv ho2=>by
  have nn:∀b,U O2 Z b->U O Z b∨H b=none:=fun b z=>z.elim (fun y=>(dn b y).elim (fun w=>.inl (.inl w)) .inr) fun y=>.inl (.inr y);refine⟨by simp[E.len],fun j d hj=>?_,fun j t d hj ht=>?_,fun j k t t' d d' r hj ht hk ht' e1 e2=>?_,ds,fun r hr=>hr.elim (lv r) fun y=>al' r (E.liv r (.inr y))⟩
  ·by_cases e:i=j
   ·subst e;rw[bn hs]at hj;exact absurd (Option.some.inj hj) (Sl.put_v _ _ _)
   ·rw[aD e]at hj;obtain⟨v,h1,h2⟩:=E.val j d hj;exact⟨v,h1,h2.go kp' nn⟩
  ·by_cases e:i=j
   ·subst e;rw[bn hs]at hj;have:=Option.some.inj hj;subst this;rw[Sl.put_ow]at ht;cases ht;exact⟨p,g1,up p g2,ho2⟩
   ·rw[aD e]at hj;obtain⟨r,h1,h2,h3⟩:=E.own j t d hj ht;have hne:r≠p:=fun z=>by subst z;exact e (E.uni i j s t x d r hs hx hj ht g1 h1)
    refine⟨r,h1,up r h2,h3.go ?_ kp' nn⟩;cases er:H r with
    | none=>exact absurd er h3.live
    | some o=>exact kp r o er hne
  ·have own':∀(m:Nat)(t:Sl)(d:D),(st.set i (s.put x'))[m]?=some t->t.ow=some d->∃t2 d2,st[m]?=some t2/\t2.ow=some d2:=fun m t d hm ht=>by
    by_cases e:i=m
    ·subst e;exact⟨s,x,hs,hx⟩
    ·rw[aD e]at hm;exact⟨t,d,hm,ht⟩
   obtain⟨t1,d1,a1,b1⟩:=own' j t d hj ht;obtain⟨t2,d2,a2,b2⟩:=own' k t' d' hk ht';exact E.uni j k t1 t2 d1 d2 r a1 b1 a2 b2 e1 e2
 have kk:Kp st (st.set i (s.put x')):=by
  refine⟨by simp,fun j t hj ht=>?_,fun j d hj=>?_⟩
  ·by_cases e:i=j
   ·subst e;exact⟨s.put x',bn hs,by cases s<;>simp[Sl.put,Sl.get]⟩
   ·exact⟨t,by rw[aD e];exact hj,ht⟩
  ·by_cases e:i=j
   ·subst e;rw[hs]at hj;cases hj;exact⟨x',bn hs⟩
   ·exact⟨d,by rw[aD e];exact hj⟩
 have E':=mkE O (fun _ z=>z) (fun _ z=>.inl z) E.dis (fun b z=>al' b (E.liv b (.inl z))) ho';refine q u H' O ex kk E' ?_ ?_
 rotate_left
 ·obtain⟨dz,fr⟩:=z;cases fr with
  | false=>trivial
  | true=>obtain⟨r,rfl,hr,_⟩:=hres;exact fun q e=>by cases e;exact hr
 obtain⟨dz,fr⟩:=z;cases fr with
 | false=>exact DA.less (show DA K _ H' u dz from hres.1) a2
 | true =>
  obtain⟨r,rfl,hr,hor,hof⟩:=hres;have hf:=E.free hr;have a3:∀b,ins r (U O Z) b->ins r (ins p fun b=>U O Z b/\b≠p) b:=fun b z=>z.elim .inl fun y=>.inr (a2 b y);refine⟨r,rfl,hf.1,hf.2,hor.go rfl (fun _ _ e _=>e) (fun b z=>.inl (a3 b z)),mkE (ins r O) (fun _ z=>.inr z) (fun b z=>z.elim (fun y=>.inr (by rw[y];exact hr)) .inl) (fun b z=>z.elim (fun y=>by rw[y];exact hf.2) (E.dis b)) (fun b z=>z.elim (fun y=>by rw[y];exact hor.lv) fun y=>al' b (E.liv b (.inl y))) ?_⟩
  exact hof.go rfl (fun _ _ e _=>e) fun b z=>.inl (a3 b (z.elim (fun y=>y.elim .inl fun w=>.inr (.inl w)) fun y=>.inr (.inr y)))
def fIO(g:D->List D->Option (Rz×D))(i:Nat)(fr:FA):FE:=fun st=>(st[i]?).bind fun s0=>(s0.ow).bind fun _=>(fr st).bind fun x=>(eZ x.1 x.2).bind fun y=>(y.2[i]?).bind fun s=>(s.ow).bind fun d=>(g d y.1).bind fun z=>some (mk z.1,y.2.set i (s.put z.2))
def Hc(hr:RdA K tr fr):RdE K (zN (kD K g) (dL (zp i) tr)) (fIO g i fr):=by
 intro st σ H O Z Q E r0 st' h q;refine bsO h fun s0 f1 h=>?_;refine bsO h fun x0 f2 h=>?_;refine bsP h fun rs st1 e1 h=>?_;refine bsP h fun ds st2 e2 h=>?_;refine bsO h fun s e3 h=>?_;refine bsO h fun x e4 h=>?_;refine bsP h fun z x' e5 h=>?_;cases h;obtain⟨p,g1,_,_⟩:=E.own i s0 x0 f1 f2;refine⟨.ref p,g1,?_⟩;refine hr st σ H O Z _ E rs st1 e1 fun vs H1 O1 x1 k1 E1 rvs=>?_;obtain⟨O2,x2,k2,E2,el⟩:=rvs.esc E1 e2;exact vj E2 e3 e4 g1 el e5 fun v H' O' ex kk E' rv w=>q v H' O' ((x1.trans x2).trans ex) ((k1.trans k2).trans kk) E' rv (w.back (x1.trans x2))
end
end VF
namespace VF
open PySem L2
structure Kq(st:En)(σ:St)(st':En)(σ':St):Prop where
 len:st'.length=st.length
 io:∀(i:Nat) d,st[i]?=some (.io d)->σ'[i]?=σ[i]?/\∃d',st'[i]?=some (.io d')
def Kq.refl(st:En)(σ:St):Kq st σ st σ:=⟨rfl,fun i d h=>⟨rfl,d,h⟩⟩
theorem Kq.trans(h:Kq a x b y)(g:Kq b y c z):Kq a x c z:=by
 refine⟨g.len.trans h.len,fun i d e=>?_⟩;obtain⟨e1,d1,e2⟩:=h.io i d e;obtain⟨e3,d2,e4⟩:=g.io i d1 e2;exact⟨e3.trans e1,d2,e4⟩
def Kp.kq(k:Kp st st'):Kq st σ st' σ:=⟨k.len,fun i d h=>⟨rfl,k.io i d h⟩⟩
abbrev FG:=D->En->Option En
def RdG(K:Aa)(g:TG)(fg:FG)(tg:List Nat):Prop:=∀(st:En)(σ:St)(H:Hp)(O Z:AS)(x:V)(d:D)(Q:St->Hp->Prop),ER K st σ H O Z->DA K (U O Z) H x d->∀st',fg d st=some st' ->
 (∀σ',(∀j,j∉tg->σ'[j]?=σ[j]?/\st'[j]?=st[j]?)->Kq st σ st' σ'->ER K st' σ' H O Z->Q σ' H)->g x σ H Q
def Sl.isIo:Sl->Bool
 | .io _=>true
 | _=>false
def tW(i:Nat)(s:Sl)(st:En):Option En:=(st[i]?).bind fun t=>if t.isIo=true then none else some (st.set i s)
section
variable {K:Aa}{Y Y' O O' O1 O2 Z:AS}{H H' H1 H2:Hp}{v:V}{d:D}{vs:List V}{ds:List D}{a p:Addr}{st st' st1 st2:En}{σ σ':St}
def pW(h:tW i s st=some st'):∃t,st[i]?=some t/\t.isIo=false/\st'=st.set i s:=by
 refine bsO h fun t e h=>?_;by_cases c:t.isIo=true
 ·simp only[Ag c]at h;cases h
 ·simp only[Al c]at h;cases h;exact⟨t,e,by simpa using c,rfl⟩
def tX{s t:Sl}(e:st[i]?=some t)(n:t.isIo=false):Kq st σ (st.set i s) (σ.set i w):=by
 refine⟨by simp,fun j d h=>?_⟩
 have q:i≠j:=fun z=>by subst z;rw[e]at h;cases h;cases n
 exact⟨aD q,d,by rw[aD q];exact h⟩
def ER.asg(E:ER K st σ H O Z)(e:st[i]?=some t)(h:DA K (U O Z) H v d):ER K (st.set i (.v d)) (σ.set i (some v)) H O Z:=by
 have hi:i<σ.length:=by rw[← E.len];exact(Xd.mp e).1
 have sg:(σ.set i (some v))[i]?=some (some v):=by rw[Qi,Ag rfl,Ag hi]
 have ne:∀(j:Nat) s x,(st.set i (.v d))[j]?=some s->s.ow=some x->i≠j/\st[j]?=some s:=fun j s x h1 h2=>by
  by_cases q:i=j
  ·subst q;rw[bn e]at h1;cases h1;cases h2
  ·exact⟨q,by rw[aD q]at h1;exact h1⟩
 refine⟨by simp[E.len],fun j x hj=>?_,fun j s x h1 h2=>?_,fun j k s s' x x' r h1 h2 h3 h4 h5 h6=>?_,E.dis,E.liv⟩
 ·by_cases q:i=j
  ·subst q;rw[bn e]at hj;cases hj;exact⟨v,sg,h⟩
  ·rw[aD q]at hj;obtain⟨w,g1,g2⟩:=E.val j x hj;exact⟨w,by rw[aD q];exact g1,g2⟩
 ·obtain⟨q,h1⟩:=ne j s x h1 h2;obtain⟨r,g1,g2⟩:=E.own j s x h1 h2;exact⟨r,by rw[aD q];exact g1,g2⟩
 ·obtain⟨q1,h1⟩:=ne j s x h1 h2;obtain⟨q2,h3⟩:=ne k s' x' h3 h4;rw[aD q1]at h5;rw[aD q2]at h6;exact E.uni j k s s' x x' r h1 h2 h3 h4 h5 h6
def ER.asgF(E0:ER K st σ H O Z)(E:ER K st σ H (ins p O) Z)(np:¬ O p)(e:st[i]?=some t)(h:OA K (ins p (U O Z)) H p x):ER K (st.set i (.o x)) (σ.set i (some (.ref p))) H (ins p O) Z:=by
 have hi:i<σ.length:=by rw[← E.len];exact(Xd.mp e).1
 have sg:(σ.set i (some (V.ref p)))[i]?=some (some (.ref p)):=by rw[Qi,Ag rfl,Ag hi]
 have fresh:∀(j:Nat) s y,st[j]?=some s->s.ow=some y->σ[j]?≠some (some (.ref p)):=fun j s y h1 h2 z=>by
  obtain⟨r,g1,g2,_⟩:=E0.own j s y h1 h2;rw[z]at g1;cases g1;exact np g2
 refine⟨by simp[E.len],fun j y hj=>?_,fun j s y h1 h2=>?_,fun j k s s' y y' r h1 h2 h3 h4 h5 h6=>?_,E.dis,E.liv⟩
 ·by_cases q:i=j
  ·subst q;rw[bn e]at hj;cases hj
  ·rw[aD q]at hj;obtain⟨w,g1,g2⟩:=E.val j y hj;exact⟨w,by rw[aD q];exact g1,g2⟩
 ·by_cases q:i=j
  ·subst q;rw[bn e]at h1;cases h1;cases h2;refine⟨p,sg,.inl rfl,h.go rfl (fun _ _ e _=>e) fun b z=>.inl ?_⟩;rcases z with(z|z)|z
   ·exact .inl z
   ·exact .inr (.inl z)
   ·exact .inr (.inr z)
  ·rw[aD q]at h1;obtain⟨r,g1,g2⟩:=E.own j s y h1 h2;exact⟨r,by rw[aD q];exact g1,g2⟩
 ·by_cases q1:i=j
  ·by_cases q2:i=k
   ·exact q1.symm.trans q2
   ·subst q1;rw[aD q2]at h3 h6;rw[sg]at h5;cases h5;exact absurd h6 (fresh k s' y' h3 h4)
  ·by_cases q2:i=k
   ·subst q2;rw[aD q1]at h1 h5;rw[sg]at h6;cases h6;exact absurd h5 (fresh j s y h1 h2)
   ·rw[aD q1]at h1 h5;rw[aD q2]at h3 h6;exact E.uni j k s s' y y' r h1 h2 h3 h4 h5 h6
def gN(i:Nat):FG:=fun d st=>tW i (.v d) st
def cU(i:Nat):RdG K (qp i) (gN i) [i]:=by
 intro st σ H O Z x d Q E da st' h q;obtain⟨t,e,n,rfl⟩:=pW h;refine q (σ.set i (some x)) (fun j hj=>?_) (tX e n) (E.asg e da);have q:i≠j:=fun z=>hj (by rw[z];simp)
 exact⟨aD q,aD q⟩
def Fz(K:Aa)(g:TGs)(fg:List D->En->Option En)(tg:List Nat):Prop:=∀(st:En)(σ:St)(H:Hp)(O Z:AS)(xs:List V)(ds:List D)(Q:St->Hp->Prop),ER K st σ H O Z->El K (U O Z) H xs ds->∀st',fg ds st=some st' ->
 (∀σ',(∀j,j∉tg->σ'[j]?=σ[j]?/\st'[j]?=st[j]?)->Kq st σ st' σ'->ER K st' σ' H O Z->Q σ' H)->g xs σ H Q
def gsN:List D->En->Option En:=fun ds st=>match ds with
 | []=>some st
 | _=>none
theorem pX:Fz K Km gsN []:=by
 intro st σ H O Z xs ds Q E el st' h q;cases ds with
 | nil =>
  cases h;exact⟨el.unnil,q σ (fun j _=>⟨rfl,rfl⟩) (Kq.refl _ _) E⟩
 | cons d ds=>cases h
def gsC(fg:FG)(fgs:List D->En->Option En):List D->En->Option En:=fun ds st=>match ds with
 | d::r=>(fg d st).bind fun st1=>fgs r st1
 | []=>none
theorem dM(h1:RdG K g fg t1)(h2:Fz K gs fgs t2):Fz K (GX g gs) (gsC fg fgs) (t1++t2):=by
 intro st σ H O Z xs ds Q E el st' h q;cases ds with
 | nil=>cases h
 | cons d ds =>
  refine bsO h fun st1 e1 h=>?_;obtain⟨v,r,rfl,da,el⟩:=el.uncons;refine⟨v,r,rfl,h1 st σ H O Z v d _ E da st1 e1 fun σ1 k1 q1 E1=>?_⟩;refine h2 st1 σ1 H O Z r ds _ E1 el st' h fun σ2 k2 q2 E2=>q σ2 (fun j hj=>?_) (q1.trans q2) E2;have a:=k1 j fun z=>hj (Yk _ z);have b:=k2 j fun z=>hj (Qe _ z);exact⟨b.1.trans a.1,b.2.trans a.2⟩
def gT(n:Nat)(fgs:List D->En->Option En):FG:=fun d st=>match d with
 | .tup ds=>if ds.length=n then fgs ds st else none
 | _=>none
theorem tY(h:Fz K gs fgs t):RdG K (HK K n gs) (gT n fgs) t:=by
 intro st σ H O Z x d Q E da st' e q;cases d with
 | tup ds =>
  obtain⟨hn,e⟩:=aF e;cases da with
  | tup h1 h2 h3=>exact⟨_,_,rfl,h1.sq,h2.trans hn,h st σ H O Z _ ds Q E ⟨h2,h3⟩ st' e q⟩
 | _=>cases e
abbrev FI:=En->Option (List D×En)
def Ky(K:Aa)(Z:AS)(J:It)(items:List D)(H:Hp)(O:AS):Prop:=∀H' O',Ext O H O' H'->(∀p,U O' Z p->Lv H' p)->(∀i,items.length<=i->J.stop i H')/\∀(i:Nat) d,items[i]?=some d->J.go i H'/\∀x H'',J.yld i H' x H''->Same H' H''/\DA K (U O' Z) H'' x d
def RdI(K:Aa)(wi:TI)(fi:FI):Prop:=∀(st:En)(σ:St)(H:Hp)(O Z:AS)(R:It->Hp->Prop),ER K st σ H O Z->∀items st',fi st=some (items,st') ->
 (∀J H' O',Ext O H O' H'->Kp st st'->ER K st' σ H' O' Z->Ky K Z J items H' O'->R J H')->wi σ H R
def esc(r:Rs)(st:En):Option (D×En):=(cont st r).bind fun d=>(C0 st r).bind fun st1=>some (d,st1)
theorem RVal.esc(h:RVal K Z st σ H O v r)(E:ER K st σ H O Z)(e:esc r st=some (d,st')):∃O',Ext O H O' H/\Kp st st'/\ER K st' σ H O' Z/\DA K (U O' Z) H v d:=by
 refine bsO e fun x e1 e=>?_;refine bsO e fun s1 e2 e=>?_;cases e;exact h.frz E e2 e1
def D.its:D->Option (List D)
 | .lst ds=>some ds
 | .fl ds=>some ds
 | _=>none
def D.itt:D->Option (List D)
 | .tup ds=>some ds
 | _=>none
def fIL(fe:FE):FI:=fun st=>(fe st).bind fun x=>(esc x.1 x.2).bind fun y=>(y.1.its).bind fun ds=>some (ds,y.2)
def FB(h:RdE K te fe):RdI K (xU K te) (fIL fe):=by
 intro st σ H O Z R E items st' e q;refine bsP e fun r st1 e1 e=>?_;refine bsP e fun d st2 e2 e=>?_;refine bsO e fun ds e3 e=>?_;cases e;refine h st σ H O Z _ E r st1 e1 fun v H1 O1 x1 k1 E1 rv w1=>?_;obtain⟨O2,x2,k2,E2,da⟩:=rv.esc E1 e2;have fin:∀{a:Addr}{vs:List V},El K (U O2 Z) H1 vs items->(∀H' O',Ext O2 H1 O' H'->SqL K H' a vs)->xU K (fun _ H Q=>Q (.ref a) H) σ H1 R:=fun {a vs} el sq=>by
  refine⟨a,rfl,⟨vs,sq H1 O2 (Ext.refl _ _)⟩,q _ H1 O2 (x1.trans x2) (k1.trans k2) E2 fun H' O' ex _=>?_⟩;have g1:=sq H' O' ex;have el':=el.ext ex;have hl:=el.1;refine⟨fun i hi=>⟨vs,g1,by lia⟩,fun i d hd=>?_⟩
  obtain⟨v,hv,hdv⟩:=el'.at hd;refine⟨⟨vs,v,g1,hv⟩,fun x H'' hx=>?_⟩;obtain⟨rfl,hx⟩:=hx;have:=hx vs g1;rw[hv]at this;cases this;exact⟨Same.refl _,hdv⟩
 cases d with
 | lst ds' =>
  cases e3;cases da with
  | @lst a vs _ h0 h1 h2 h3=>exact fin ⟨h2,h3⟩ fun H' O' ex=>.inl (.inl (ex.kp a _ h1 fun z=>h0 (.inl z)))
 | fl ds' =>
  cases e3;cases da with
  | @fl a vs _ h1 h2 h3 =>
   refine fin ⟨h2,h3⟩ fun H' O' ex=>?_;rcases h1 with⟨h1,hn⟩|h1
   ·exact .inl (Rd.keep h1 fun o e=>ex.kp a o e fun z=>hn (.inl z))
   ·exact h1 H'
 | _=>cases e3
def fIT(fe:FE):FI:=fun st=>(fe st).bind fun x=>(esc x.1 x.2).bind fun y=>(y.1.itt).bind fun ds=>some (ds,y.2)
theorem Ix(h:RdE K te fe):RdI K (HM K te) (fIT fe):=by
 intro st σ H O Z R E items st' e q;refine bsP e fun r st1 e1 e=>?_;refine bsP e fun d st2 e2 e=>?_;refine bsO e fun ds e3 e=>?_;cases e;refine h st σ H O Z _ E r st1 e1 fun v H1 O1 x1 k1 E1 rv w1=>?_;obtain⟨O2,x2,k2,E2,da⟩:=rv.esc E1 e2;cases d with
 | tup ds' =>
  cases e3;cases da with
  | @tup a vs _ h1 h2 h3 =>
   refine⟨a,rfl,⟨vs,h1.sq⟩,q _ H1 O2 (x1.trans x2) (k1.trans k2) E2 fun H' O' ex _=>?_⟩;have da':=(DA.tup h1 h2 h3).ext ex;cases da' with
   | @tup _ ws _ g1 g2 g3 =>
    refine⟨fun i hi=>⟨ws,g1.sq,by lia⟩,fun i d hd=>?_⟩
    obtain⟨v,hv,hdv⟩:=El.at ⟨g2,g3⟩ hd;refine⟨⟨ws,v,g1.sq,hv⟩,fun x H'' hx=>?_⟩;obtain⟨rfl,hx⟩:=hx;have:=hx ws g1.sq;rw[hv]at this;cases this;exact⟨Same.refl _,hdv⟩
 | _=>cases e3
def rng(lo:Int)(n:Nat):List D:=(List.range n).map fun(i:Nat)=>D.int (lo+(i:Int))
def C5(h:(rng lo n)[i]?=some d):i<n/\d=.int (lo+i):=by
 unfold rng at h;rw[Qd]at h;by_cases hi:i<n
 ·rw[List.getElem?_range hi]at h;exact⟨hi,(Option.some.inj h).symm⟩
 ·rw[Vi (by simpa using hi)]at h;cases h
def bY(lo:Int)(n:Nat):(rng lo n).length=n:=by simp[rng]
def C6:Ky K Z (Itr lo n) (rng lo n) H O:=fun H' O' ex _=>by
 refine⟨fun i hi=>by rw[bY]at hi;exact hi,fun i d hd=>?_⟩
 obtain⟨h1,rfl⟩:=C5 hd;refine⟨h1,fun x H'' hx=>?_⟩;obtain⟨rfl,rfl⟩:=hx;exact⟨Same.refl _,.int _⟩
def Iy:List D->Option Int
 | [.int j]=>some j
 | _=>none
def nq(fa:FA):FI:=fun st=>(fa st).bind fun x=>(eH x.2 x.1).bind fun ds=>(Iy ds).bind fun j=>if -(2 ^ 62)<=j/\j<2 ^ 62 then some (rng 0 j.toNat,x.2) else none
def yn(h:RdA K ta fa):RdI K (GY ta) (nq fa):=by
 intro st σ H O Z R E items st' e q;refine bsP e fun rs st1 e1 e=>?_;refine bsO e fun ds e2 e=>?_;refine bsO e fun j e3 e=>?_;obtain⟨hc,e⟩:=aF e;cases e;refine h st σ H O Z _ E rs _ e1 fun vs H1 O1 x1 k1 E1 rvs=>?_;have bs:=rvs.bas E1 e2;have ed:ds=[.int j]:=by
  unfold Iy at e3;split at e3
  ·cases e3;rfl
  ·cases e3
 subst ed;cases bs with
 | cons b1 b2 =>
  cases b2;obtain rfl:=(show _=V.int j from b1);exact⟨j,rfl,hc.1,hc.2,q _ H1 O1 x1 k1 E1 C6⟩
def nr(x:Str):List D:=x.cps.toList.map fun c=>D.str ⟨#[c]⟩
def fIS(fe:FE):FI:=fun st=>(fe st).bind fun x=>match cont x.2 x.1 with
 | some (.str z)=>some (nr z,x.2)
 | _=>none
set_option tactic.hygienic true in
def Iz(h:RdE K te fe):RdI K (Ih te) (fIS fe):=by
 intro st σ H O Z R E items st' e q;refine bsP e fun r st1 e1 e=>?_;refine h st σ H O Z _ E r st1 e1 fun v H1 O1 x1 k1 E1 rv w1=>?_;dsimp only at e;split at e
 ·rename_i z ez
  cases e;have ev:v=.str z:=rv.ba E1 ez;refine⟨z,ev,q _ H1 O1 x1 k1 E1 fun H' O' ex _=>⟨fun i hi=>?_,fun i d hd=>?_⟩⟩
  ·show z.cps.size<=i;simpa[nr]using hi
  ·unfold nr at hd;rw[Qd]at hd;obtain⟨c,hc,rfl⟩:=Yd.mp hd;have hc':z.cps[i]?=some c:=by simpa using hc
   refine⟨(Array.getElem?_eq_some_iff.mp hc').1,fun x H'' hx=>?_⟩;obtain⟨rfl,c',h1,rfl⟩:=hx;rw[hc']at h1;cases h1;exact⟨Same.refl _,.str _⟩
 ·cases e
inductive Ot where
 | nx (st:En)|rt (r:Rs) (st:En)|bk (st:En)|ct (st:En)
abbrev FS:=En->Option Ot
def Out(K:Aa)(Z O:AS)(H:Hp)(st:En)(σ:St)(Dn:Ends):Ot->Prop
 | .nx st'=>∀σ' H' O',Ext O H O' H'->Kq st σ st' σ'->ER K st' σ' H' O' Z->Dn.nx σ' H'
 | .rt r st'=>∀v σ' H' O',Ext O H O' H'->Kq st σ st' σ'->ER K st' σ' H' O' Z->RVal K Z st' σ' H' O' v r->Fsh H v r->Dn.rt v H'
 | .bk st'=>∀σ' H' O',Ext O H O' H'->Kq st σ st' σ'->ER K st' σ' H' O' Z->Dn.bk σ' H'
 | .ct st'=>∀σ' H' O',Ext O H O' H'->Kq st σ st' σ'->ER K st' σ' H' O' Z->Dn.ct σ' H'
def RdS(K:Aa)(ts:TS)(F:FS):Prop:=∀(st:En)(σ:St)(H:Hp)(O Z:AS)(Dn:Ends),ER K st σ H O Z->∀o,F st=some o->Out K Z O H st σ Dn o->ts Dn σ H
theorem Out.trans(h:Out K Z O H st σ Dn o)(x:Ext O H O1 H1)(k:Kq st σ st1 σ'):Out K Z O1 H1 st1 σ' Dn o:=by
 cases o with
 | nx s=>exact fun σ2 H2 O2 x2 k2 E2=>h σ2 H2 O2 (x.trans x2) (k.trans k2) E2
 | bk s=>exact fun σ2 H2 O2 x2 k2 E2=>h σ2 H2 O2 (x.trans x2) (k.trans k2) E2
 | ct s=>exact fun σ2 H2 O2 x2 k2 E2=>h σ2 H2 O2 (x.trans x2) (k.trans k2) E2
 | rt r s=>exact fun v σ2 H2 O2 x2 k2 E2 rv w=>h v σ2 H2 O2 (x.trans x2) (k.trans k2) E2 rv (w.back x)
def aV:FS:=fun st=>some (.nx st)
def FC:RdS K GU aV:=by
 intro st σ H O Z Dn E o e q;cases e;exact q σ H O (Ext.refl _ _) (Kq.refl _ _) E
def aA(F G:FS):FS:=fun st=>(F st).bind fun o=>match o with
 | .nx s=>G s
 | o=>some o
theorem C7(h1:RdS K t F)(h2:RdS K u G):RdS K (Ki t u) (aA F G):=by
 intro st σ H O Z Dn E o e q;refine bsO e fun o1 e1 e=>?_;refine h1 st σ H O Z _ E o1 e1 ?_;cases o1 with
 | nx s=>exact fun σ1 H1 O1 x1 k1 E1=>h2 s σ1 H1 O1 Z Dn E1 o e (q.trans x1 k1)
 | bk s=>cases e;exact q
 | ct s=>cases e;exact q
 | rt r s=>cases e;exact q
def kE(fe:FE):FS:=fun st=>(fe st).bind fun x=>some (.nx x.2)
def yo(h:RdE K te fe):RdS K (GW te) (kE fe):=by
 intro st σ H O Z Dn E o e q;refine bsP e fun r st1 e1 e=>?_;cases e;exact h st σ H O Z _ E r st1 e1 fun v H1 O1 x1 k1 E1 rv w1=>q σ H1 O1 x1 k1.kq E1
def aM(fe:FE):FS:=fun st=>(fe st).bind fun x=>some (.rt x.1 x.2)
def C8(h:RdE K te fe):RdS K (Kj te) (aM fe):=by
 intro st σ H O Z Dn E o e q;refine bsP e fun r st1 e1 e=>?_;cases e;exact h st σ H O Z _ E r st1 e1 fun v H1 O1 x1 k1 E1 rv w1=>q v σ H1 O1 x1 k1.kq E1 rv w1
def sIf(f:FT)(F G:FS):FS:=fun st=>(f st).bind fun x=>if x.1=true then F x.2 else G x.2
theorem Hd(hc:RdT K c f)(h1:RdS K t F)(h2:RdS K u G):RdS K (Kk c t u) (sIf f F G):=by
 intro st σ H O Z Dn E o e q;refine bsP e fun b st1 e1 e=>?_;refine hc st σ H O Z _ E b st1 e1 fun H1 O1 x1 k1 E1=>?_;cases b with
 | true =>
  rw[Ag rfl]at e ⊢;exact h1 st1 σ H1 O1 Z Dn E1 o e (q.trans x1 k1.kq)
 | false =>
  simp only[We,if_false]at e ⊢;exact h2 st1 σ H1 O1 Z Dn E1 o e (q.trans x1 k1.kq)
def be(fe:FE)(i:Nat):FS:=fun st=>(fe st).bind fun x=>match x.1 with
 | .d y=>(tW i (.v y) x.2).bind fun s=>some (.nx s)
 | .f y=>(tW i (.o y) x.2).bind fun s=>some (.nx s)
 | .s j=>(esc (.s j) x.2).bind fun y=>(tW i (.v y.1) y.2).bind fun s=>some (.nx s)
theorem C9(h:RdE K te fe):RdS K (zq te (qp i)) (be fe i):=by
 intro st σ H O Z Dn E o e q;refine bsP e fun r st1 e1 e=>?_;refine h st σ H O Z _ E r st1 e1 fun v H1 O1 x1 k1 E1 rv w1=>?_;show Dn.nx (σ.set i (some v)) H1;cases r with
 | d y =>
  refine bsO e fun s e2 e=>?_;cases e;obtain⟨t,f1,f2,rfl⟩:=pW e2;exact q _ H1 O1 x1 (k1.kq.trans (tX f1 f2)) (E1.asg f1 rv)
 | f y =>
  refine bsO e fun s e2 e=>?_;cases e;obtain⟨t,f1,f2,rfl⟩:=pW e2;obtain⟨p,rfl,np,nz,ho,E2⟩:=rv;have hp:H p=none:=w1 p rfl;exact q _ H1 (ins p O1) ⟨x1.kp,fun b z=>z.elim (fun y=>by rw[y];exact .inr hp) (x1.nw b),x1.al,x1.lv⟩ (k1.kq.trans (tX f1 f2)) (E1.asgF E2 np f1 ho)
 | s j =>
  refine bsP e fun d st2 e2 e=>?_;refine bsO e fun s e3 e=>?_;cases e;obtain⟨O2,x2,k2,E2,da⟩:=rv.esc E1 e2;obtain⟨t,f1,f2,rfl⟩:=pW e3;exact q _ H1 O2 (x1.trans x2) ((k1.kq.trans k2.kq).trans (tX f1 f2)) (E2.asg f1 da)
end
end VF
namespace VF
open PySem L2
section
variable {K:Aa}{Y Y' O O' O1 O2 Z:AS}{H H' H1 H2:Hp}{v:V}{d:D}{vs:List V}{ds:List D}{a p:Addr}{st st' st1 st2:En}{σ σ':St}
def md(fg:FG)(B:FS):List D->FS
 | [],st=>some (.nx st)
 | x::r,st=>(fg x st).bind fun s1=>(B s1).bind fun o=>match o with
  | .nx s2=>md fg B r s2
  | .ct s2=>md fg B r s2
  | .bk s2=>some (.nx s2)
  | .rt y s2=>some (.rt y s2)
def rP(fi:FI)(fg:FG)(B:FS):FS:=fun st=>(fi st).bind fun x=>md fg B x.1 x.2
def Db(hi:RdI K wi fi)(hg:RdG K g fg tg)(hb:RdS K tb B):RdS K (Ko wi g tb) (rP fi fg B):=by
 intro st σ H O Z Dn E o e q;refine bsP e fun items st1 e1 e=>?_;refine hi st σ H O Z _ E items st1 e1 fun J H1 O1 x1 k1 E1 it=>?_;have q1:=q.trans x1 (k1.kq (σ:=σ));refine⟨fun i m σ' H'=>m=items.length-i/\i<=items.length/\∃s O',Ext O1 H1 O' H'/\Kq st1 σ s σ'/\ER K s σ' H' O' Z/\md fg B (items.drop i) s=some o,⟨items.length,by simp,Wh _,st1,O1,Ext.refl _ _,Kq.refl _ _,E1,e⟩,?_⟩
 rintro i m σ' H' ⟨rfl,hle,s,O',x2,k2,E2,e2⟩;obtain⟨stop,go⟩:=it H' O' x2 E2.liv;by_cases hlt:i<items.length
 ·right;have hd:items.drop i=items[i]::items.drop (i+1):=BL hlt;rw[hd]at e2;refine bsO e2 fun s1 e3 e2=>?_;refine bsO e2 fun o1 e4 e2=>?_;obtain⟨g1,g2⟩:=go i _ (Ya hlt);refine⟨g1,fun σ3 H3=>∃s O3,Ext O1 H1 O3 H3/\Kq st1 σ s σ3/\ER K s σ3 H3 O3 Z/\md fg B (items.drop (i+1)) s=some o,fun σ3 H3 ⟨s3,O3,x3,k3,E3,e3'⟩=>⟨items.length-(i+1),by lia,rfl,hlt,s3,O3,x3,k3,E3,e3'⟩,fun x H'' hy=>?_⟩
  obtain⟨sm,da⟩:=g2 x H'' hy;have xm:Ext O' H' O' H'':=Same.ext sm;refine hg s σ' H'' O' Z x _ _ (E2.same sm) da s1 e3 fun σ4 _ k4 E4=>?_;refine hb s1 σ4 H'' O' Z _ E4 o1 e4 ?_;have xx:=x2.trans xm;cases o1 with
  | nx s2=>exact fun σ5 H5 O5 x5 k5 E5=>⟨s2,O5,xx.trans x5,(k2.trans k4).trans k5,E5,e2⟩
  | ct s2=>exact fun σ5 H5 O5 x5 k5 E5=>⟨s2,O5,xx.trans x5,(k2.trans k4).trans k5,E5,e2⟩
  | bk s2 =>
   cases e2;exact fun σ5 H5 O5 x5 k5 E5=>q1 σ5 H5 O5 (xx.trans x5) ((k2.trans k4).trans k5) E5
  | rt y s2 =>
   cases e2;exact fun v σ5 H5 O5 x5 k5 E5 rv w=>q1 v σ5 H5 O5 (xx.trans x5) ((k2.trans k4).trans k5) E5 rv (w.back xx)
 ·left;have hn:items.drop i=[]:=BX (by lia)
  rw[hn]at e2;cases e2;exact⟨stop i (by lia),q1 σ' H' O' x2 k2 E2⟩
def sWh(f:FT)(B:FS):Nat->FS
 | 0,_=>none
 | n+1,st=>(f st).bind fun x=>if x.1=true then(B x.2).bind fun o=>match o with
   | .nx s2=>sWh f B n s2
   | .ct s2=>sWh f B n s2
   | .bk s2=>some (.nx s2)
   | .rt y s2=>some (.rt y s2)
  else some (.nx x.2)
theorem vk(n:Nat)(hc:RdT K c f)(hb:RdS K tb B):RdS K (CJ c tb) (sWh f B n):=by
 intro st σ H O Z Dn E o e q;refine⟨fun m σ' H'=>∃s O',Ext O H O' H'/\Kq st σ s σ'/\ER K s σ' H' O' Z/\sWh f B m s=some o,⟨n,st,O,Ext.refl _ _,Kq.refl _ _,E,e⟩,?_⟩;rintro m σ' H' ⟨s,O',x2,k2,E2,e2⟩;cases m with
 | zero=>cases e2
 | succ m =>
  refine bsP e2 fun b s1 e3 e2=>?_;refine hc s σ' H' O' Z _ E2 b s1 e3 fun H3 O3 x3 k3 E3=>?_;have xx:=x2.trans x3;have kk:=k2.trans (k3.kq (σ:=σ'));cases b with
  | false =>
   simp only[We,if_false]at e2 ⊢;cases e2;exact q σ' H3 O3 xx kk E3
  | true =>
   rw[Ag rfl]at e2 ⊢;refine bsO e2 fun o1 e4 e2=>?_;refine⟨fun σ5 H5=>∃s O5,Ext O H O5 H5/\Kq st σ s σ5/\ER K s σ5 H5 O5 Z/\sWh f B m s=some o,fun σ5 H5 h=>⟨m,Bz _,h⟩,?_⟩;refine hb s1 σ' H3 O3 Z _ E3 o1 e4 ?_;cases o1 with
   | nx s2=>exact fun σ5 H5 O5 x5 k5 E5=>⟨s2,O5,xx.trans x5,kk.trans k5,E5,e2⟩
   | ct s2=>exact fun σ5 H5 O5 x5 k5 E5=>⟨s2,O5,xx.trans x5,kk.trans k5,E5,e2⟩
   | bk s2 =>
    cases e2;exact fun σ5 H5 O5 x5 k5 E5=>q σ5 H5 O5 (xx.trans x5) (kk.trans k5) E5
   | rt y s2 =>
    cases e2;exact fun v σ5 H5 O5 x5 k5 E5 rv w=>q v σ5 H5 O5 (xx.trans x5) (kk.trans k5) E5 rv (w.back xx)
structure RdM(K:Aa)(T:String)(r:V->List V->Hp->VK->Prop)(ok:D->Bool)(m:D->List D->Option (D×D)):Prop where
 ty:∀(Y:AS)(H:Hp)(p:Addr)(x:D),OA K Y H p x->ok x=true->tyV K T (.ref p) H
 run:∀(Y:AS)(H:Hp)(p:Addr)(x:D)(vs:List V)(ds:List D)(y x':D)(Q:VK),Y p->OA K Y H p x->El K Y H vs ds->m x ds=some (y,x') ->
  (∀v o,DA K Y (upd H p o) v y->OA K Y (upd H p o) p x'->Q v (upd H p o))->r (.ref p) vs H Q
def fM(ok:D->Bool)(m:D->List D->Option (D×D))(i:Nat)(fa:FA):FE:=fun st=>(st[i]?).bind fun s0=>(s0.ow).bind fun x0=>if ok x0=true then(fa st).bind fun x=>(eZ x.1 x.2).bind fun y=>(y.2[i]?).bind fun s=>(s.ow).bind fun d=>(m d y.1).bind fun z=>some (.d z.1,y.2.set i (s.put z.2)) else none
def Kz(hm:RdM K T r ok m)(ha:RdA K ta fa):RdE K (tBM K T r (zp i) ta) (fM ok m i fa):=by
 intro st σ H O Z Q E r0 st' h q;refine bsO h fun s0 f1 h=>?_;refine bsO h fun x0 f2 h=>?_;obtain⟨hok,h⟩:=aF h;refine bsP h fun rs st1 e1 h=>?_;refine bsP h fun ds st2 e2 h=>?_;refine bsO h fun s e3 h=>?_;refine bsO h fun x e4 h=>?_;refine bsP h fun y x' e5 h=>?_;cases h;obtain⟨p,g1,g2,g3⟩:=E.own i s0 x0 f1 f2;refine⟨.ref p,g1,hm.ty _ _ _ _ g3 hok,?_⟩;refine ha st σ H O Z _ E rs st1 e1 fun vs H1 O1 x1 k1 E1 rvs=>?_;obtain⟨O2,x2,k2,E2,el⟩:=rvs.esc E1 e2;obtain⟨p',j1,j2,j3⟩:=E2.own i s x e3 e4;have ep:p'=p:=by rw[g1]at j1;cases j1;rfl
 subst ep;refine hm.run (U O2 Z) H1 p' x vs ds y x' _ (.inl j2) j3 el e5 fun v o da ho=>?_;obtain⟨E3,x3,k3⟩:=E2.write e3 e4 g1 ho;exact q v _ O2 ((x1.trans x2).trans x3) ((k1.trans k2).trans k3) E3 da True.intro
def He(K:Aa)(t:HJ)(m:D->D->D->Option D):Prop:=∀(Y:AS)(H:Hp)(p:Addr)(x:D)(k v:V)(dk dv x':D)(Q:Hp->Prop),Y p->OA K Y H p x->BA K Y H k dk->DA K Y H v dv->m x dk dv=some x' ->
 (∀o,OA K Y (upd H p o) p x'->Q (upd H p o))->t (.ref p) k v H Q
def tZ(m:D->D->D->Option D)(fe:FE)(i:Nat)(fi:FE):FS:=fun st=>(fe st).bind fun x=>(esc x.1 x.2).bind fun y=>(y.2[i]?).bind fun s0=>(s0.ow).bind fun _=>(fi y.2).bind fun w=>(cont w.2 w.1).bind fun dk=>(w.2[i]?).bind fun s=>(s.ow).bind fun z=>(m z dk y.1).bind fun z'=>some (.nx (w.2.set i (s.put z')))
def Dc(hm:He K t m)(he:RdE K te fe)(hi:RdE K ti fi):RdS K (zq te (Kn (zp i) ti t)) (tZ m fe i fi):=by
 intro st σ H O Z Dn E o e q;refine bsP e fun r st1 e1 e=>?_;refine bsP e fun dv st2 e2 e=>?_;refine bsO e fun s0 e3 e=>?_;refine bsO e fun x0 e4 e=>?_;refine bsP e fun rk st3 e5 e=>?_;refine bsO e fun dk e6 e=>?_;refine bsO e fun s e7 e=>?_;refine bsO e fun x e8 e=>?_;refine bsO e fun x' e9 e=>?_;cases e;refine he st σ H O Z _ E r st1 e1 fun v H1 O1 x1 k1 E1 rv w1=>?_;obtain⟨O2,x2,k2,E2,da⟩:=rv.esc E1 e2;obtain⟨p,g1,g2,g3⟩:=E2.own i s0 x0 e3 e4;refine⟨.ref p,g1,?_⟩;refine hi st2 σ H1 O2 Z _ E2 rk st3 e5 fun k H3 O3 x3 k3 E3 rk' w3=>?_;obtain⟨p',j1,j2,j3⟩:=E3.own i s x e7 e8;have ep:p'=p:=by rw[g1]at j1;cases j1;rfl
 subst ep;refine hm (U O3 Z) H3 p' x k v dk dv x' _ (.inl j2) j3 (rk'.ba E3 e6) (da.ext x3) e9 fun o ho=>?_;obtain⟨E4,x4,k4⟩:=E3.write e7 e8 g1 ho;exact q σ _ O3 (((x1.trans x2).trans x3).trans x4) (((k1.trans k2).trans k3).trans k4).kq E4
def lW(k:Nat)(caps:List Nat)(st:En):En:=List.replicate k Sl.e++caps.map fun i=>(st[i]?).getD .e
def rst(k:Nat)(s:En):En:=List.replicate k Sl.e++s.drop k
def wb:List Nat->En->En->En
 | i::r,s::sb,st=>wb r sb (st.set i s)
 | _,_,st=>st
def bB(fg:FG)(fc:FT)(fe:FE)(k:Nat):List D->En->Option (List D×En)
 | [],sb=>some ([],sb)
 | x::r,sb=>(fg x sb).bind fun s1=>(fc s1).bind fun c=>if c.1=true then(fe c.2).bind fun y=>(esc y.1 y.2).bind fun w=>(bB fg fc fe k r (rst k w.2)).bind fun z=>some (w.1::z.1,z.2)
  else bB fg fc fe k r (rst k c.2)
def t5(caps:List Nat)(n:Nat):Bool:=decide caps.Nodup&&caps.all fun i=>decide (i<n)
def bt(k:Nat)(caps:List Nat)(fi:FI)(fg:FG)(fc:FT)(fe:FE):FE:=fun st=>(fi st).bind fun x=>if (t5 caps x.2.length&&decide (x.1.length<=1000000))=true then(bB fg fc fe k x.1 (lW k caps x.2)).bind fun y=>some (.f (.lst y.1),wb caps (y.2.drop k) x.2) else none
theorem wK:∀(caps:List Nat)(sb st:En),(wb caps sb st).length=st.length
 | [],_,_=>by simp[wb]
 | _::_,[],_=>by simp[wb]
 | i::r,s::sb,st=>by rw[wb,wK r sb];simp
theorem qy:∀(caps:List Nat)(sb st:En){i:Nat},i∉caps->(wb caps sb st)[i]?=st[i]?
 | [],_,_,_,_=>by simp[wb]
 | _::_,[],_,_,_=>by simp[wb]
 | j::r,s::sb,st,i,h=>by
  rw[wb,qy r sb _ (fun z=>h (Vb _ z))];exact aD fun z=>h (by rw[z];simp)
theorem De:∀(caps:List Nat)(sb st:En){j i:Nat},caps.Nodup->sb.length=caps.length->caps[j]?=some i->i<st.length->(wb caps sb st)[i]?=sb[j]?
 | [],_,_,_,_,_,_,h,_=>by simp at h
 | _::_,[],_,_,_,_,h,_,_=>by simp at h
 | c::r,s::sb,st,0,i,nd,hl,h,hi=>by
  have e:c=i:=by simpa using h
  subst e;rw[wb,qy r sb _ (Zh.mp nd).1];rw[Qi,Ag rfl,Ag hi];rfl
 | c::r,s::sb,st,j+1,i,nd,hl,h,hi=>by
  rw[wb,De r sb _ (j:=j) (Zh.mp nd).2 (by simpa using hl) (by simpa using h) (by simpa using hi)];rfl
def yp(h:caps[j]?=some i):(lW k caps st)[k+j]?=some ((st[i]?).getD .e):=by
 unfold lW;rw[Xe (by simp),Yf,BQ,Qd,h];rfl
def nu{s:Sl}(h:(lW k caps st)[i]?=some s)(n:s.get≠none):∃j i',i=k+j/\caps[j]?=some i'/\st[i']?=some s:=by
 unfold lW at h;by_cases hi:i<k
 ·rw[Zf (by simpa using hi),Wg,Ag hi]at h
  cases h;exact absurd rfl n
 ·rw[Xe (by simpa using hi),Yf,Qd]at h
  refine⟨i-k,?_⟩;obtain⟨i',e1,e2⟩:=Yd.mp h;refine⟨i',by lia,e1,?_⟩
  cases q:st[i']? with
  | none=>rw[q]at e2;subst e2;exact absurd rfl n
  | some t=>rw[q]at e2;subst e2;rfl
def my(h:caps[j]?=some i):(blk k caps σ)[k+j]?=some ((σ[i]?).getD none):=by
 unfold blk;rw[Xe (by simp),Yf,BQ,Qd,h];rfl
def kF{s:Sl}(h:s.ow=some d):s.get≠none:=by cases s<;>first|(cases h;done)|simp[Sl.get]
def Df{l:List Nat}{j j' i:Nat}(nd:l.Nodup)(h:l[j]?=some i)(h':l[j']?=some i):j=j':=by
 obtain⟨h1,h2⟩:=Xd.mp h;obtain⟨h3,h4⟩:=Xd.mp h';exact(BC nd).mp (h2.trans h4.symm)
def Ob(caps:List Nat)(st:En)(σ:St):AS:=fun p=>∃i∈caps,∃s d,st[i]?=some s/\s.ow=some d/\σ[i]?=some (some (.ref p))
def Zb(caps:List Nat)(st:En)(σ:St)(O Z:AS):AS:=fun p=>Z p∨(O p/\¬ Ob caps st σ p)
def Ob.o(E:ER K st σ H O Z)(h:Ob caps st σ q):O q:=by
 obtain⟨i,_,s,d,h1,h2,h3⟩:=h;obtain⟨p,g1,g2,_⟩:=E.own i s d h1 h2;rw[h3]at g1;cases g1;exact g2
def IA{k:Nat}{caps:List Nat}(E:ER K st σ H O Z)(nd:caps.Nodup):ER K (lW k caps st) (blk k caps σ) H (Ob caps st σ) (Zb caps st σ O Z):=by
 have up:∀b,U (Ob caps st σ) (Zb caps st σ O Z) b->U O Z b:=fun b z=>z.elim (fun y=>.inl (Ob.o E y)) fun y=>y.elim .inr fun w=>.inl w.1;refine⟨by simp[lW,blk],fun i d h=>?_,fun i s d h1 h2=>?_,fun i j s t d d' p h1 h2 h3 h4 h5 h6=>?_,fun p h z=>?_,fun p h=>E.liv p (up p h)⟩
 ·obtain⟨j,i',rfl,hc,hs⟩:=nu h (by simp[Sl.get])
  obtain⟨v,g1,g2⟩:=E.val i' d hs;exact⟨v,by rw[my hc,g1];rfl,g2.less up⟩
 ·obtain⟨j,i',rfl,hc,hs⟩:=nu h1 (kF h2);obtain⟨p,g1,g2,g3⟩:=E.own i' s d hs h2;exact⟨p,by rw[my hc,g1];rfl,⟨i',Xc hc,s,d,hs,h2,g1⟩,g3.go rfl (fun _ _ e _=>e) fun b z=>.inl (up b z)⟩
 ·obtain⟨j1,i1,rfl,c1,s1⟩:=nu h1 (kF h2);obtain⟨j2,i2,rfl,c2,s2⟩:=nu h3 (kF h4);obtain⟨p1,g1,_⟩:=E.own i1 s d s1 h2;obtain⟨p2,g2,_⟩:=E.own i2 t d' s2 h4;rw[my c1,g1]at h5;rw[my c2,g2]at h6;have e1:p1=p:=by simpa using h5
  have e2:p2=p:=by simpa using h6
  subst e1;subst e2;have e:=E.uni i1 i2 s t d d' _ s1 h2 s2 h4 g1 g2;subst e;rw[Df nd c1 c2]
 ·rcases z with z|z
  ·exact E.dis p (Ob.o E h) z
  ·exact z.2 h
def Dg{τ τ':St}(E:ER K st τ H O Z)(hl:τ'.length=τ.length)(hk:k<=st.length)(h:∀j,k<=j->τ'[j]?=τ[j]?):ER K (rst k st) τ' H O Z:=by
 have at_:∀(i:Nat) s,(rst k st)[i]?=some s->s.get≠none->k<=i/\st[i]?=some s:=fun i s e n=>by
  unfold rst at e;by_cases hi:i<k
  ·rw[Zf (by simpa using hi),Wg,Ag hi]at e
   cases e;exact absurd rfl n
  ·rw[Xe (by simpa using hi),Yf,Xg]at e
   have:k+(i-k)=i:=by lia
   rw[this]at e;exact⟨by lia,e⟩
 refine⟨?_,fun i d e=>?_,fun i s d e1 e2=>?_,fun i j s t d d' p e1 e2 e3 e4 e5 e6=>?_,E.dis,E.liv⟩
 ·rw[hl,← E.len];simp[rst];lia
 ·obtain⟨hk,e⟩:=at_ i _ e (by simp[Sl.get])
  obtain⟨v,g1,g2⟩:=E.val i d e;exact⟨v,by rw[h i hk];exact g1,g2⟩
 ·obtain⟨hk,e⟩:=at_ i _ e1 (kF e2);obtain⟨p,g1,g2⟩:=E.own i s d e e2;exact⟨p,by rw[h i hk];exact g1,g2⟩
 ·obtain⟨hk1,e1⟩:=at_ i _ e1 (kF e2);obtain⟨hk2,e3⟩:=at_ j _ e3 (kF e4);rw[h i hk1]at e5;rw[h j hk2]at e6;exact E.uni i j s t d d' p e1 e2 e3 e4 e5 e6
def Oo(caps:List Nat)(st:En)(σ:St)(O Oi:AS):AS:=fun p=>Oi p∨(O p/\¬ Ob caps st σ p)
def wN(E:ER K st σ H O Z)(x:Ext (Ob caps st σ) H Oi H'):Ext O H (Oo caps st σ O Oi) H' :=
 ⟨fun b o e n=>x.kp b o e fun z=>n (Ob.o E z),fun b z=>z.elim (fun y=>(x.nw b y).elim (fun w=>.inl (Ob.o E w)) .inr) fun y=>.inl y.1,x.al,x.lv⟩
def Dh{caps:List Nat}{sb:En}(E:ER K st σ H O Z)(nd:caps.Nodup)(lt:∀i∈caps,i<st.length)(hl:sb.length=k+caps.length)(x:Ext (Ob caps st σ) H Oi H')(B:ER K sb (blk k caps σ) H' Oi (Zb caps st σ O Z)) :
  ER K (wb caps (sb.drop k) st) σ H' (Oo caps st σ O Oi) Z:=by
 have dl:(sb.drop k).length=caps.length:=by rw[Xk];lia
 have cap:∀(j i:Nat),caps[j]?=some i->(wb caps (sb.drop k) st)[i]?=sb[k+j]?:=fun j i h=>by
  rw[De caps _ st nd dl h (lt i (Xc h)),Xg]
 have out:∀i,i∉caps->(wb caps (sb.drop k) st)[i]?=st[i]?:=fun i h=>qy caps _ st h;have same:∀b,U (Oo caps st σ O Oi) Z b->U Oi (Zb caps st σ O Z) b:=fun b z=>by
  rcases z with(z|z)|z
  ·exact .inl z
  ·exact .inr (.inr z)
  ·exact .inr (.inl z)
 have kp:∀b o,H b=some o->¬ U O Z b->H' b=some o:=fun b o e n=>x.kp b o e fun z=>n (.inl (Ob.o E z));have nn:∀b,U (Oo caps st σ O Oi) Z b->U O Z b∨H b=none:=fun b z=>by
  rcases z with z|z
  ·exact((wN E x).nw b z).elim (fun y=>.inl (.inl y)) .inr
  ·exact .inl (.inr z)
 have nob:∀(i:Nat) s d p,i∉caps->st[i]?=some s->s.ow=some d->σ[i]?=some (some (.ref p))->¬ Ob caps st σ p:=fun i s d p hn h1 h2 h3 z=>by
  obtain⟨i0,hm,s0,d0,g1,g2,g3⟩:=z;have:=E.uni i i0 s s0 d d0 p h1 h2 g1 g2 h3 g3;subst this;exact hn hm
 have bget:∀{j i:Nat}{v:V},caps[j]?=some i->(blk k caps σ)[k+j]?=some (some v)->σ[i]?=some (some v):=fun {j i v} hc hb=>by
  rw[my hc]at hb;have hb':=Option.some.inj hb;cases q:σ[i]? with
  | none=>rw[q]at hb';cases hb'
  | some w=>rw[q]at hb';have:w=some v:=hb';rw[this]
 have own:∀(i:Nat) s d,(wb caps (sb.drop k) st)[i]?=some s->s.ow=some d->(∃j,caps[j]?=some i/\sb[k+j]?=some s)∨(i∉caps/\st[i]?=some s):=fun i s d h1 _=>by
  by_cases hc:i∈caps
  ·obtain⟨j,hj⟩:=Qg hc;rw[cap j i hj]at h1;exact .inl ⟨j,hj,h1⟩
  ·rw[out i hc]at h1;exact .inr ⟨hc,h1⟩
 refine⟨by rw[wK];exact E.len,fun i d h=>?_,fun i s d h1 h2=>?_,fun i j s t d d' p h1 h2 h3 h4 h5 h6=>?_,fun p h=>?_,fun p h=>?_⟩
 ·by_cases hc:i∈caps
  ·obtain⟨j,hj⟩:=Qg hc;rw[cap j i hj]at h;obtain⟨v,g1,g2⟩:=B.val _ d h;exact⟨v,bget hj g1,g2.less same⟩
  ·rw[out i hc]at h;obtain⟨v,g1,g2⟩:=E.val i d h;exact⟨v,g1,g2.go kp nn⟩
 ·rcases own i s d h1 h2 with⟨j,hj,hs⟩|⟨hc,hs⟩
  ·obtain⟨p,g1,g2,g3⟩:=B.own _ s d hs h2;exact⟨p,bget hj g1,.inl g2,g3.go rfl (fun _ _ e _=>e) fun b z=>.inl (same b z)⟩
  ·obtain⟨p,g1,g2,g3⟩:=E.own i s d hs h2;have nb:=nob i s d p hc hs h2 g1;refine⟨p,g1,.inr ⟨g2,nb⟩,g3.go ?_ kp nn⟩;cases q:H p with
   | none=>exact absurd q g3.live
   | some o=>exact x.kp p o q nb
 ·rcases own i s d h1 h2 with⟨j1,c1,s1⟩|⟨c1,s1⟩<;>rcases own j t d' h3 h4 with⟨j2,c2,s2⟩|⟨c2,s2⟩
  ·have e:=B.uni _ _ s t d d' p s1 h2 s2 h4 (by rw[my c1,h5];rfl) (by rw[my c2,h6];rfl)
   have e':j1=j2:=by lia
   subst e';rw[c1]at c2;exact Option.some.inj c2
  ·exfalso
   obtain⟨q,g1,g2,_⟩:=B.own _ s d s1 h2;have:=bget c1 g1;rw[h5]at this;cases this;have nb:=nob j t d' p c2 s2 h4 h6;obtain⟨q2,k1,_,k3⟩:=E.own j t d' s2 h4;rw[h6]at k1;cases k1;exact(x.nw p g2).elim nb k3.live
  ·exfalso
   obtain⟨q,g1,g2,_⟩:=B.own _ t d' s2 h4;have:=bget c2 g1;rw[h6]at this;cases this;have nb:=nob i s d p c1 s1 h2 h5;obtain⟨q2,k1,_,k3⟩:=E.own i s d s1 h2;rw[h5]at k1;cases k1;exact(x.nw p g2).elim nb k3.live
  ·exact E.uni i j s t d d' p s1 h2 s2 h4 h5 h6
 ·rcases h with h|h
  ·exact fun z=>B.dis p h (.inl z)
  ·exact E.dis p h.1
 ·rcases h with(h|h)|h
  ·exact B.liv p (.inl h)
  ·exact x.lv p (E.liv p (.inl h.1))
  ·exact x.lv p (E.liv p (.inr h))
def Di{a b:En}(h0:∀(i:Nat) s,a[i]?=some s->i<k->s=.e)(h:Kp a b)(hk:k<=b.length):Kp a (rst k b):=by
 have lk:(rst k b).length=b.length:=by simp[rst];lia
 have at_:∀i,k<=i->(rst k b)[i]?=b[i]?:=fun i hi=>by
  unfold rst;rw[Xe (by simpa using hi),Yf,Xg]
  congr 1;lia
 refine⟨lk.trans h.len,fun i s e g=>?_,fun i d e=>?_⟩
 ·by_cases hi:i<k
  ·have:=h0 i s e hi;subst this;exact absurd rfl g
  ·obtain⟨s',e',g'⟩:=h.has i s e g;exact⟨s',by rw[at_ i (by lia)];exact e',g'⟩
 ·by_cases hi:i<k
  ·have:=h0 i _ e hi;cases this
  ·obtain⟨d',e'⟩:=h.io i d e;exact⟨d',by rw[at_ i (by lia)];exact e'⟩
def KB{caps:List Nat}{sb:En}(nd:caps.Nodup)(lt:∀i∈caps,i<st.length)(hl:sb.length=k+caps.length)(h:Kp (lW k caps st) sb):Kp st (wb caps (sb.drop k) st):=by
 have dl:(sb.drop k).length=caps.length:=by rw[Xk];lia
 have cap:∀(j i:Nat),caps[j]?=some i->(wb caps (sb.drop k) st)[i]?=sb[k+j]?:=fun j i h=>by
  rw[De caps _ st nd dl h (lt i (Xc h)),Xg]
 refine⟨wK _ _ _,fun i s e g=>?_,fun i d e=>?_⟩
 ·by_cases hc:i∈caps
  ·obtain⟨j,hj⟩:=Qg hc;rw[cap j i hj];exact h.has (k+j) s (by rw[yp hj,e];rfl) g
  ·exact⟨s,by rw[qy _ _ _ hc];exact e,g⟩
 ·by_cases hc:i∈caps
  ·obtain⟨j,hj⟩:=Qg hc;rw[cap j i hj];exact h.io (k+j) d (by rw[yp hj,e];rfl)
  ·exact⟨d,by rw[qy _ _ _ hc];exact e⟩
def t6(i:Nat)(s:Sl)(h:(lW k caps st)[i]?=some s)(hi:i<k):s=.e:=by
 unfold lW at h;rw[Zf (by simpa using hi),Wg,Ag hi]at h
 exact(Option.some.inj h).symm
def ItC(K:Aa)(Z:AS)(caps:List Nat)(st:En)(σ:St)(J:It)(items:List D)(H:Hp)(O:AS):Prop:=∀H' Oi,Ext (Ob caps st σ) H Oi H'->(∀p,U (Oo caps st σ O Oi) Z p->Lv H' p)->(∀i,items.length<=i->J.stop i H')/\∀(i:Nat) d,items[i]?=some d->J.go i H'/\∀x H'',J.yld i H' x H''->Same H' H''/\DA K (U (Oo caps st σ O Oi) Z) H'' x d
def KC(K:Aa)(caps:List Nat)(wi:TI)(fi:FI):Prop:=∀(st:En)(σ:St)(H:Hp)(O Z:AS)(R:It->Hp->Prop),ER K st σ H O Z->∀items st',fi st=some (items,st') ->
 (∀J H' O',Ext O H O' H'->Kp st st'->ER K st' σ H' O' Z->ItC K Z caps st' σ J items H' O'->R J H')->wi σ H R
def RdI.ic(h:RdI K wi fi):KC K caps wi fi:=fun st σ H O Z R E items st' e q =>
 h st σ H O Z R E items st' e fun J H1 O1 x1 k1 E1 it=>q J H1 O1 x1 k1 E1 fun H' Oi x2 lv=>it H' _ (wN E1 x2) lv
def Dj(hi:KC K caps wi fi)(hg:RdG K g fg tg)(ht:∀j∈tg,j<k)(hc:RdT K tc fc)(he:RdE K te fe) :
  RdE K (sH k caps wi g tc te) (bt k caps fi fg fc fe):=by
 intro st σ H O Z Q E r st' h q;refine bsP h fun items st1 e1 h=>?_;by_cases hok:(t5 caps st1.length&&decide (items.length<=1000000))=true
 rotate_left
 ·simp only[Al hok]at h;cases h
 simp only[Ag hok]at h;refine bsP h fun total sf e2 h=>?_;cases h;have hok1:caps.Nodup/\(∀i∈caps,i<st1.length)/\items.length<=1000000:=by
  rw[Wf,decide_eq_true_eq]at hok;unfold t5 at hok;rw[Wf,decide_eq_true_eq,Qf]at hok;exact⟨hok.1.1,fun i hi=>Ap (hok.1.2 i hi),hok.2⟩
 obtain⟨nd,lt,hfew⟩:=hok1;refine hi st σ H O Z _ E items st1 e1 fun J H1 O1 x1 k1 E1 it=>?_;have bl:(blk k caps σ).length=k+caps.length:=by simp[blk]
 have el:(lW k caps st1).length=k+caps.length:=by simp[lW]
 refine⟨items.length,fun i xs H'=>∃sb Oi ds ds2,Ext (Ob caps st1 σ) H1 Oi H'/\ER K sb (blk k caps σ) H' Oi (Zb caps st1 σ O1 Z)/\El K (U Oi (Zb caps st1 σ O1 Z)) H' xs ds/\bB fg fc fe k (items.drop i) sb=some (ds2,sf)/\ds++ds2=total/\Kp (lW k caps st1) sb/\xs.length<=i,
  ⟨lW k caps st1,Ob caps st1 σ,[],total,Ext.refl _ _,IA E1 nd,El.nil,e2,rfl,Kp.refl _,Xb _⟩,?_,?_⟩
 ·rintro xs H' ⟨sb,Oi,ds,ds2,x2,B,exs,e3,ed,kb,_⟩;rw[BX (Xb _)]at e3;obtain⟨rfl,rfl⟩:([]:List D)=ds2/\sb=sf:=by
   have:=Option.some.inj e3;exact⟨congrArg Prod.fst this,congrArg Prod.snd this⟩
  rw[Vh]at ed;subst ed;obtain⟨stop,_⟩:=it H' Oi x2 (Dh E1 nd lt (kb.len.trans el) x2 B).liv;refine⟨stop _ (Xb _),fun p hp=>?_⟩;have sl:sb.length=k+caps.length:=kb.len.trans el;have Eo:=Dh E1 nd lt sl x2 B;have ko:=KB nd lt sl kb;have el2:El K (U (Oo caps st1 σ O1 Oi) Z) H' xs ds:=exs.less fun b z=>by
   rcases z with(z|z)|z
   ·exact .inl z
   ·exact .inr (.inr z)
   ·exact .inr (.inl z)
  obtain⟨E3,rv⟩:=Eo.new hp el2;have xx:=x1.trans (wN E1 x2);exact q _ _ _ (xx.trans (Same.ext (bE hp _))) (k1.trans ko) E3 rv fun p' e=>by cases e;exact xx.dead hp
 ·rintro i xs H' hlt ⟨sb,Oi,ds,ds2,x2,B,exs,e3,ed,kb,hxl⟩;have hd:items.drop i=items[i]::items.drop (i+1):=BL hlt;rw[hd]at e3;refine bsO e3 fun s1 e4 e3=>?_;refine bsP e3 fun c s2 e5 e3=>?_;obtain⟨_,go⟩:=it H' Oi x2 (Dh E1 nd lt (kb.len.trans el) x2 B).liv;obtain⟨g1,g2⟩:=go i _ (Ya hlt);refine⟨g1,Zl hxl (Yc hlt (few hfew)),fun x H'' hy=>?_⟩;obtain⟨sm,da⟩:=g2 x H'' hy;have xm:Ext Oi H' Oi H'':=Same.ext sm;have da':DA K (U Oi (Zb caps st1 σ O1 Z)) H'' x items[i]:=da.less fun b z=>by
   rcases z with z|z|z
   ·exact .inl (.inl z)
   ·exact .inr z
   ·exact .inl (.inr z)
  refine hg sb _ H'' Oi _ x _ _ (B.same sm) da' s1 e4 fun τ kt kq3 E4=>?_;have sl:sb.length=k+caps.length:=kb.len.trans el;have tl:τ.length=(blk k caps σ).length:=by rw[← E4.len,kq3.len,sl,bl]
  have tk:∀j,k<=j->(blk k caps σ)[j]?=τ[j]?:=fun j hj=>((kt j fun z=>absurd (ht j z) (by lia)).1).symm
  have drop:τ.drop k=(blk k caps σ).drop k:=by
   refine List.ext_getElem? fun j=>?_;rw[Xg,Xg];exact(tk _ (by lia)).symm
  have kp1:Kp (lW k caps st1) s1:=by
   refine⟨kq3.len.trans kb.len,fun j s e g=>?_,fun j d e=>?_⟩
   ·by_cases hj:j<k
    ·have:=t6 j s e hj;subst this;exact absurd rfl g
    ·obtain⟨s',e',g'⟩:=kb.has j s e g;exact⟨s',by rw[(kt j fun z=>absurd (ht j z) (by lia)).2];exact e',g'⟩
   ·by_cases hj:j<k
    ·have:=t6 j _ e hj;cases this
    ·obtain⟨d',e'⟩:=kb.io j d e;exact⟨d',by rw[(kt j fun z=>absurd (ht j z) (by lia)).2];exact e'⟩
  refine hc s1 τ H'' Oi _ _ E4 c s2 e5 fun H3 O3 x3 k3 E5=>?_;have kp2:=kp1.trans k3;cases c with
  | false =>
   simp only[We,if_false]at e3 ⊢;have hs2:k<=s2.length:=by rw[kp2.len,el];lia
   exact⟨drop,rst k s2,O3,ds,ds2,(x2.trans xm).trans x3,Dg E5 tl.symm hs2 tk,exs.ext (xm.trans x3),e3,ed,Di t6 kp2 hs2,by lia⟩
  | true =>
   rw[Ag rfl]at e3 ⊢;refine bsP e3 fun ry s3 e6 e3=>?_;refine bsP e3 fun dy s4 e7 e3=>?_;refine bsP e3 fun ds3 sf' e8 e3=>?_;cases e3;refine he s2 τ H3 O3 _ _ E5 ry s3 e6 fun y H4 O4 x4 k4 E6 rv w=>?_;obtain⟨O5,x5,k5,E7,day⟩:=rv.esc E6 e7;have kp3:=(kp2.trans k4).trans k5;have hs4:k<=s4.length:=by rw[kp3.len,el];lia
   refine⟨drop,rst k s4,O5,ds++[dy],ds3,(((x2.trans xm).trans x3).trans x4).trans x5,Dg E7 tl.symm hs4 tk,(exs.ext (((xm.trans x3).trans x4).trans x5)).app (El.one day),e8,by rw[Zj];exact ed,Di t6 kp3 hs4,by simp;lia⟩
def lA(hi:RdI K wi fi)(hg:RdG K g fg tg)(ht:∀j∈tg,j<k)(hc:RdT K tc fc)(he:RdE K te fe) :
  RdE K (sH k caps wi g tc te) (bt k caps fi fg fc fe):=Dj hi.ic hg ht hc he
def mz(n:Nat)(ds:List D):En:=ds.map Sl.v++List.replicate (n-ds.length) Sl.e
def IB(st:En):Rs->Option Rz
 | .d x=>some (x,false)
 | .f x=>some (x,true)
 | .s i=>match st[i]? with
  | some (.o x)=>some (x,true)
  | some (.v x)=>some (x,false)
  | _=>none
def fin:Ot->Option Rz
 | .nx _=>some (.non,false)
 | .rt r st=>IB st r
 | _=>none
def aS(F:FS)(n m:Nat):List D->Option Rz:=fun ds=>if ds.length=m then(F (mz n ds)).bind fin else none
def Dk{N:List Str}(el:El K Z H vs ds)(lv:∀p,Z p->Lv H p):ER K (mz N.length ds) (L2.start N vs) H (fun _=>False) Z:=by
 have gv:∀(i:Nat) s,(mz N.length ds)[i]?=some s->s.get≠none->∃d,s=.v d/\ds[i]?=some d:=fun i s e n=>by
  unfold mz at e;by_cases hi:i<ds.length
  ·rw[Zf (by simpa using hi),Qd]at e
   obtain⟨d,h1,h2⟩:=Yd.mp e;exact⟨d,h2.symm,h1⟩
  ·rw[Xe (by simpa using hi),Wg]at e
   by_cases hz:i-(ds.map Sl.v).length<N.length-ds.length
   ·rw[Ag hz]at e;cases e;exact absurd rfl n
   ·rw[Al hz]at e;cases e
 have no:∀(i:Nat) s d,(mz N.length ds)[i]?=some s->s.ow=some d->False:=fun i s d e h=>by
  obtain⟨x,rfl,_⟩:=gv i s e (kF h);cases h
 refine⟨by simp[mz,L2.start,el.1],fun i d e=>?_,fun i s d e h=>(no i s d e h).elim,fun i j s t d d' p e h=>(no i s d e h).elim,fun p h=>h.elim,fun p h=>h.elim (fun z=>z.elim) (lv p)⟩
 obtain⟨x,h1,h2⟩:=gv i _ e (by simp[Sl.get])
 cases h1;obtain⟨v,g1,g2⟩:=el.at h2;refine⟨v,?_,g2.less fun b z=>z.elim (fun y=>y.elim) fun y=>y⟩;unfold L2.start;have hi:=(Xd.mp g1).1;rw[Zf (by simpa using hi),Qd,g1];rfl
def FD{N:List Str}(h:RdS K ts F)(sp:spV K (aS F N.length m) vs H Q XE):ts { nx:=fun _ H'=>Q .non H',rt:=Q } (L2.start N vs) H:=by
 obtain⟨Z,ds,z,el,lv,e,q⟩:=sp;have hm:ds.length=m:=by
  by_cases hm:ds.length=m
  ·exact hm
  ·simp only[aS,Al hm]at e;cases e
 simp only[aS,Ag hm]at e;refine bsO e fun o e1 e2=>?_;have same:∀{O':AS}{H':Hp},Ext (fun _=>False) H O' H'->Same H H':=fun {O' H'} x b o e=>x.kp b o e fun z=>z;refine h _ _ H _ Z _ (Dk el lv) o e1 ?_;cases o with
 | nx s =>
  cases e2;exact fun σ' H' O' x _ _=>q .non H' (same x) .non
 | bk s=>cases e2
 | ct s=>cases e2
 | rt r s =>
  intro v σ' H' O' x k E rv w;have sub:∀b,Z b->U O' Z b:=fun b z=>.inr z;cases r with
  | d y=>cases e2;exact q v H' (same x) (DA.less (show DA K (U O' Z) H' v y from rv) sub)
  | f y =>
   cases e2;obtain⟨p,rfl,h1,h2,h3,_⟩:=rv;exact q _ H' (same x) ⟨p,rfl,w p rfl,h3.go rfl (fun _ _ e _=>e) fun b z=>.inl (z.elim .inl fun y=>.inr (.inr y))⟩
  | s i =>
   obtain⟨h1,t,h2,h3⟩:=rv
   have e2':(match s[i]? with
    | some (.o x)=>some (x,true)
    | some (.v x)=>some (x,false)
    | _=>none)=some z:=e2
   rw[h2]at e2';cases t with
   | e=>cases e2'
   | io y=>cases e2'
   | v y =>
    cases e2';obtain⟨u,g1,g2⟩:=E.val i y h2;rw[h1]at g1;cases g1;exact q v H' (same x) (g2.less sub)
   | o y =>
    cases e2';obtain⟨p,g1,g2,g3⟩:=E.own i _ y h2 rfl;rw[h1]at g1;cases g1;refine q _ H' (same x) ⟨p,rfl,(x.nw p g2).elim (fun z=>z.elim) (fun z=>z),g3.go rfl (fun _ _ e _=>e) fun b z=>.inl (z.elim (fun y=>.inl (by rw[y];exact g2)) fun y=>.inr y)⟩
def iN(n:Nat)(x:D)(ds:List D):En:=Sl.io x::(ds.map Sl.v++List.replicate (n-(ds.length+1)) Sl.e)
def zP(z:Option Rz)(st:En):Option (Rz×D):=match st[0]? with
 | some (Sl.io x)=>z.bind fun y=>some (y,x)
 | _=>none
def Hf:Ot->Option (Rz×D)
 | .nx st=>zP (some (.non,false)) st
 | .rt r st=>zP (IB st r) st
 | _=>none
def cB(F:FS)(n m:Nat):D->List D->Option (Rz×D):=fun x ds=>if ds.length+1=m then(F (iN n x ds)).bind Hf else none
def zQ{N : List Str}(nz : ¬ Z f)(ho : OA K (ins f Z) H f x)(el : El K (ins f Z) H ws ds)(lv : ∀ p, Z p → Lv H p) : ER K (iN N.length x ds) (L2.start N (.ref f :: ws)) H (fun b => b = f) Z := by
  have gv : ∀ (i : Nat) s, (iN N.length x ds)[i]? = some s → s.get ≠ none → (i = 0 ∧ s = .io x) ∨ ∃ j d, i = j + 1 ∧ s = .v d ∧ ds[j]? = some d := fun i s e n => by
    cases i with
    | zero => left; exact ⟨rfl, by have : Sl.io x = s := by simpa [iN] using e
                                   exact this.symm⟩
    | succ j =>
      right;have e : (ds.map Sl.v ++ List.replicate (N.length - (ds.length + 1)) Sl.e)[j]? = some s := by simpa [iN] using e
      by_cases hi : j < ds.length
      · rw [AX (by simpa using hi), Bu] at e
        obtain ⟨d, h1, h2⟩ := Option.map_eq_some_iff.mp e;exact ⟨j, d, rfl, h2.symm, h1⟩
      · rw [BJ (by simpa using hi), BT] at e
        by_cases hz : j - (ds.map Sl.v).length < N.length - (ds.length + 1)
        · rw [Ag hz] at e; cases e; exact absurd rfl n
        · rw [Al hz] at e; cases e
  have s0 : (L2.start N (.ref f :: ws))[0]? = some (some (.ref f)) := by simp [L2.start]
  have own0 : ∀ (i : Nat) s d, (iN N.length x ds)[i]? = some s → s.ow = some d → i = 0 ∧ d = x := fun i s d e h => by
    rcases gv i s e (kF h) with ⟨h1, rfl⟩ | ⟨j, d', _, rfl, _⟩
    · cases h; exact ⟨h1, rfl⟩
    · cases h
  refine ⟨by simp [iN, L2.start, el.1], fun i d e => ?_, fun i s d e h => ?_, fun i j s t d d' p e h e' h' _ _ => ?_, fun p h => by rw [h]; exact nz, fun p h => ?_⟩
  · rcases gv i _ e (by simp [Sl.get]) with ⟨_, h⟩ | ⟨j, d', rfl, h, h2⟩
    · cases h
    · cases h
      obtain ⟨v, g1, g2⟩ := el.at h2;refine ⟨v, ?_, g2⟩;have hi := (List.getElem?_eq_some_iff.mp g1).1;unfold L2.start;rw [AX (by simp; lia), Bu]
      simp [g1]
  · obtain ⟨rfl, rfl⟩ := own0 i s d e h
    exact ⟨f, s0, rfl, ho⟩
  · rw [(own0 i s d e h).1, (own0 j t d' e' h').1]
  · rcases h with h | h
    · rw [h]; exact ho.lv
    · exact lv p h
set_option tactic.hygienic true in
def zR{N:List Str}(h:RdS K ts F)(sp:kD K (cB F N.length m) vs H Q XE):ts { nx:=fun _ H'=>Q .non H',rt:=Q } (L2.start N vs) H:=by
 obtain⟨f,ws,Z,x,ds,z,x',rfl,nz,ho,el,lv,e,q⟩:=sp;have hm:ds.length+1=m:=by
  by_cases hm:ds.length+1=m
  ·exact hm
  ·simp only[cB,Al hm]at e;cases e
 simp only[cB,Ag hm]at e;refine bsO e fun o e1 e2=>?_;have but:∀{O':AS}{H':Hp},Ext (fun b=>b=f) H O' H'->∀b o,H b=some o->b≠f->H' b=some o:=fun {O' H'} x b o e n=>x.kp b o e n;have i0:(iN N.length x ds)[0]?=some (.io x):=rfl;have s0:(L2.start N (.ref f::ws))[0]?=some (some (.ref f)):=by simp[L2.start]
 have f0:∀{s:En}{σ':St}{H':Hp}{O':AS}{y:D},Kq (iN N.length x ds) (L2.start N (.ref f::ws)) s σ'->ER K s σ' H' O' Z->s[0]?=some (.io y)->O' f/\OA K (U O' Z) H' f y:=fun {s σ' H' O' y} k E e=>by
  obtain⟨g1,_⟩:=k.io 0 x i0;obtain⟨p,h1,h2,h3⟩:=E.own 0 _ y e rfl;rw[g1,s0]at h1;cases h1;exact⟨h2,h3⟩
 refine h _ _ H _ Z _ (zQ nz ho el lv) o e1 ?_;cases o with
 | bk s=>cases e2
 | ct s=>cases e2
 | nx s =>
  intro σ' H' O' x2 k E;have e3:zP (some (.non,false)) s=some (z,x'):=e2;unfold zP at e3;split at e3
  ·rename_i y ey
   cases e3;obtain⟨h1,h2⟩:=f0 k E ey;exact q .non H' (but x2) ⟨.non,h2.go rfl (fun _ _ e _=>e) fun b z=>.inl (z.elim (fun w=>.inl (by rw[w];exact h1)) .inr)⟩
  ·cases e3
 | rt r s =>
  intro v σ' H' O' x2 k E rv w;have e3:zP (IB s r) s=some (z,x'):=e2;unfold zP at e3;split at e3
  ·rename_i y ey
   refine bsO e3 fun z' e4 e3=>?_;cases e3;obtain⟨h1,h2⟩:=f0 k E ey;have sub:∀b,ins f Z b->U O' Z b:=fun b z=>z.elim (fun w=>.inl (by rw[w];exact h1)) .inr
   cases r with
   | d u=>cases e4;exact q v H' (but x2) ⟨DA.less (show DA K (U O' Z) H' v u from rv) sub,h2.go rfl (fun _ _ e _=>e) fun b z=>.inl (sub b z)⟩
   | f u =>
    cases e4;obtain⟨p,rfl,g1,g2,g3,E2⟩:=rv;obtain⟨h3,h4⟩:=f0 k E2 ey;exact q _ H' (but x2) ⟨p,rfl,w p rfl,g3.go rfl (fun _ _ e _=>e) (fun b z=>.inl (z.elim .inl fun y=>.inr (sub b y))),h4.go rfl (fun _ _ e _=>e) fun b z=>.inl (z.elim (fun y=>.inl (.inl y)) fun y=>(sub b y).elim (fun a=>.inl (.inr a)) .inr)⟩
   | s i =>
    obtain⟨g1,t,g2,g3⟩:=rv
    have e5:(match s[i]? with
     | some (.o x)=>some (x,true)
     | some (.v x)=>some (x,false)
     | _=>none)=some z:=e4
    rw[g2]at e5;cases t with
    | e=>cases e5
    | io u=>cases e5
    | v u =>
     cases e5;obtain⟨u',j1,j2⟩:=E.val i u g2;rw[g1]at j1;cases j1;exact q v H' (but x2) ⟨j2.less sub,h2.go rfl (fun _ _ e _=>e) fun b z=>.inl (sub b z)⟩
    | o u =>
     cases e5;obtain⟨p,j1,j2,j3⟩:=E.own i _ u g2 rfl;rw[g1]at j1;cases j1;have npf:p≠f:=fun z=>by
      subst z;obtain⟨p0,l1,_⟩:=E.own 0 _ _ ey rfl;obtain⟨l2,_⟩:=k.io 0 x i0;rw[l2,s0]at l1;cases l1;have:=E.uni i 0 _ _ u _ _ g2 rfl ey rfl g1 (by rw[l2,s0])
      subst this;rw[ey]at g2;cases g2
     have hp:H p=none:=(x2.nw p j2).elim (fun z=>absurd z npf) (fun z=>z);have sub2:∀b,ins p (ins f Z) b->U O' Z b:=fun b z=>z.elim (fun y=>.inl (by rw[y];exact j2)) (sub b)
     exact q _ H' (but x2) ⟨p,rfl,hp,j3.go rfl (fun _ _ e _=>e) (fun b z=>.inl (sub2 b z)),h2.go rfl (fun _ _ e _=>e) fun b z=>.inl (sub2 b z)⟩
  ·cases e3
def IC(sp:spV K (aS F n m) vs H Q XE):vs.length=m:=by
 obtain⟨Z,ds,z,el,lv,e,q⟩:=sp;by_cases hm:ds.length=m
 ·exact el.1.trans hm
 ·simp only[aS,Al hm]at e;cases e
def KD(sp:kD K (cB F n m) vs H Q XE):vs.length=m:=by
 obtain⟨f,ws,Z,x,ds,z,x',rfl,nz,ho,el,lv,e,q⟩:=sp;by_cases hm:ds.length+1=m
 ·have:=el.1;simp;lia
 ·simp only[cB,Al hm]at e;cases e
end
end VF
namespace VF
open PySem L2
section
variable {K:Aa}{Y Y':AS}{H H':Hp}{v:V}{d:D}{vs:List V}{ds:List D}
def orD(b b':D->D->Option Rz):D->D->Option Rz:=fun x y=>match b x y with
 | some z=>some z
 | none=>b' x y
set_option tactic.hygienic true in
def RdOp.or(h:RdOp K r b)(h':RdOp K r' b'):RdOp K (fun x y H Q=>r x y H Q∨r' x y H Q) (orD b b'):=by
 intro Y H x y d1 d2 z Q lv b1 b2 e q;unfold orD at e;split at e
 ·rename_i z' ez
  cases e;exact .inl (h Y H x y d1 d2 z Q lv b1 b2 ez q)
 ·exact .inr (h' Y H x y d1 d2 z Q lv b1 b2 e q)
def orC(b b':List D->Option Rz):List D->Option Rz:=fun x=>match b x with
 | some z=>some z
 | none=>b' x
set_option tactic.hygienic true in
def RdCB.or(h:RdCB K r b)(h':RdCB K r' b'):RdCB K (fun xs H Q=>r xs H Q∨r' xs H Q) (orC b b'):=by
 intro Y H xs ds z Q lv b1 e q;unfold orC at e;split at e
 ·rename_i z' ez
  cases e;exact .inl (h Y H xs ds z Q lv b1 ez q)
 ·exact .inr (h' Y H xs ds z Q lv b1 e q)
def bI0(g:Int->Int->D):D->D->Option Rz
 | .int i,.int j=>some (g i j,false)
 | _,_=>none
theorem vm(h:∀Y H i j,DA K Y H (gV i j) (gD i j)):RdOp K (rI0 gV) (bI0 gD):=by
 intro Y H x y d1 d2 z Q lv b1 b2 e q;cases d1 with
 | int i =>
  cases d2 with
  | int j =>
   cases e;exact⟨i,j,b1,b2,q _ H (Same.refl H) (h Y H i j)⟩
  | _=>cases e
 | _=>cases e
def bI(C:Int->Int->Prop)[∀i j,Decidable (C i j)](g:Int->Int->D):D->D->Option Rz
 | .int i,.int j=>if C i j then some (g i j,false) else none
 | _,_=>none
theorem FF[dc:∀i j,Decidable (C i j)](h:∀Y H i j,DA K Y H (gV i j) (gD i j)):RdOp K (rI C gV) (bI C gD):=by
 intro Y H x y d1 d2 z Q lv b1 b2 e q;cases d1 with
 | int i =>
  cases d2 with
  | int j =>
   obtain⟨c,e⟩:=aF e;cases e;exact⟨i,j,b1,b2,c,q _ H (Same.refl H) (h Y H i j)⟩
  | _=>cases e
 | _=>cases e
instance (i j:Int):Decidable (CMul i j):=by unfold CMul;infer_instance
instance (i j:Int):Decidable (wB i j):=by unfold wB;infer_instance
instance (i j:Int):Decidable (CL i j):=by unfold CL;infer_instance
def sI:=bI0 fun i j=>.int (i+j)
def yq:=bI CMul fun i j=>.int (i*j)
def oA:=bI wB fun i j=>.int (i / j)
def jj:=bI (fun _ j=>0<j) fun i j=>.int (i % j)
def KF:=bI CL fun i j=>.int (i ^ j.toNat)
def KG:=bI0 fun i j=>.bl (decide (i<j))
def bLe:=bI0 fun i j=>.bl (decide (i<=j))
def bGt:=bI0 fun i j=>.bl (decide (j<i))
def bGe:=bI0 fun i j=>.bl (decide (j<=i))
def ro_addI:RdOp K (rI0 fun i j=>.int (i+j)) sI:=vm fun _ _ _ _=>.int _
def ro_mulI:RdOp K (rI CMul fun i j=>.int (i*j)) yq:=FF fun _ _ _ _=>.int _
def ID:RdOp K (rI wB fun i j=>.int (i / j)) oA:=FF fun _ _ _ _=>.int _
def IE:RdOp K (rI (fun _ j=>0<j) fun i j=>.int (i % j)) jj:=FF fun _ _ _ _=>.int _
def IF:RdOp K (rI CL fun i j=>.int (i ^ j.toNat)) KF:=FF fun _ _ _ _=>.int _
def ro_ltI:RdOp K (rI0 fun i j=>.bl (decide (i<j))) KG:=vm fun _ _ _ _=>.bl _
def KH:RdOp K (rI0 fun i j=>.bl (decide (i<=j))) bLe:=vm fun _ _ _ _=>.bl _
def KJ:RdOp K (rI0 fun i j=>.bl (decide (j<i))) bGt:=vm fun _ _ _ _=>.bl _
def KK:RdOp K (rI0 fun i j=>.bl (decide (j<=i))) bGe:=vm fun _ _ _ _=>.bl _
def Dl:D->Option Rz
 | .int i=>some (.int (-i),false)
 | _=>none
theorem IG:Im K (rU fun i=>.int (-i)) Dl:=by
 intro Y H x d1 z Q lv b1 e q;cases d1 with
 | int i=>cases e;exact⟨i,b1,q _ H (Same.refl H) (.int _)⟩
 | _=>cases e
def scD:D->Option V
 | .non=>some .non
 | .bl b=>some (.bl b)
 | .int i=>some (.int i)
 | .str x=>some (.str x)
 | _=>none
theorem oB(h:BA K Y H v d)(e:scD d=some w):v=w:=by
 cases d with
 | non=>cases e;exact h
 | bl b=>cases e;exact h
 | int i=>cases e;exact h
 | str x=>cases e;exact h
 | _=>cases e
theorem vn(e:scD d=some w):ma w=true:=by
 cases d with
 | non=>cases e;rfl
 | bl b=>cases e;rfl
 | int i=>cases e;rfl
 | str x=>cases e;rfl
 | _=>cases e
def zS(neg:Bool):D->D->Option Rz:=fun a b=>(scD a).bind fun x=>(scD b).bind fun y=>if HR x y=true then some (.bl (if neg then !decide (x=y) else decide (x=y)),false) else none
def IH:RdOp K rEq (zS false):=by
 intro Y H x y d1 d2 z Q lv b1 b2 e q;refine bsO e fun x' e1 e=>?_;refine bsO e fun y' e2 e=>?_;obtain⟨c,e⟩:=aF e;cases e;obtain rfl:=oB b1 e1;obtain rfl:=oB b2 e2;exact⟨c,q _ H (Same.refl H) (.bl _)⟩
def ro_neS:RdOp K rNe (zS true):=by
 intro Y H x y d1 d2 z Q lv b1 b2 e q;refine bsO e fun x' e1 e=>?_;refine bsO e fun y' e2 e=>?_;obtain⟨c,e⟩:=aF e;cases e;obtain rfl:=oB b1 e1;obtain rfl:=oB b2 e2;exact⟨c,q _ H (Same.refl H) (.bl _)⟩
def D.isN:D->Bool
 | .non=>true
 | _=>false
theorem II(h:BA K Y H v d):decide (v=.non)=d.isN:=by
 cases d with
 | non=>rw[show v=V.non from h];rfl
 | bl b=>rw[show v=V.bl b from h];rfl
 | int i=>rw[show v=V.int i from h];rfl
 | str x=>rw[show v=V.str x from h];rfl
 | ty x=>rw[show v=V.ty x from h];rfl
 | tup ds=>obtain⟨a,_,rfl,_⟩:=h;rfl
 | lst ds=>obtain⟨a,_,rfl,_⟩:=h;rfl
 | fl ds=>obtain⟨a,_,rfl,_⟩:=h;rfl
 | dk ds=>obtain⟨a,_,rfl,_⟩:=h;rfl
 | dt ds=>obtain⟨a,_,_,rfl,_⟩:=h;rfl
def IJ(neg:Bool):D->D->Option Rz
 | a,.non=>some (.bl (if neg then !a.isN else a.isN),false)
 | _,_=>none
theorem IM:RdOp K (fun x y H Q=>y=.non/\Q (.bl (decide (x=.non))) H) (IJ false):=by
 intro Y H x y d1 d2 z Q lv b1 b2 e q;cases d2 with
 | non =>
  cases e;refine⟨b2,?_⟩;rw[II b1];exact q _ H (Same.refl H) (.bl _)
 | _=>cases e
def sJ:D->D->Option Rz
 | .str a,.str b=>if a.length+b.length<=1000000 then some (.str (a++b),false) else none
 | _,_=>none
theorem ro_addS:RdOp K (fun x y H Q=>∃i j,x=.str i/\y=.str j/\i.length+j.length<=sizeLine/\Q (.str (i++j)) H) sJ:=by
 intro Y H x y d1 d2 z Q lv b1 b2 e q;cases d1 with
 | str a =>
  cases d2 with
  | str b =>
   obtain⟨c,e⟩:=aF e;cases e;exact⟨a,b,b1,b2,few c,q _ H (Same.refl H) (.str _)⟩
  | _=>cases e
 | _=>cases e
def jk(el:El K Y H vs ds)(hp:H p=none):RES K Y H (upd H p (.lst vs)) (.ref p) (.lst ds,true) :=
 ⟨p,rfl,hp,vs,b8,el.away (bE hp _) hp⟩
def kG(el:El K Y H vs ds)(hp:H p=none)(lv:∀p,Y p->Lv H p):RES K Y H (upd H p (.tup vs)) (.ref p) (.tup ds,false) :=
 .tup ⟨b8,fun z=>(lv p z).1 hp⟩ el.1 (el.same (bE hp _)).2
def wO:D->D->Option Rz
 | .lst a,.lst b=>if a.length+b.length<=1000000 then some (.lst (a++b),true) else none
 | _,_=>none
theorem ro_cat:RdOp K Ic wO:=by
 intro Y H x y d1 d2 z Q lv b1 b2 e q;cases d1 with
 | lst a =>
  cases d2 with
  | lst b =>
   obtain⟨c,e⟩:=aF e;cases e;obtain⟨p,xs,rfl,hp,el⟩:=b1;obtain⟨p2,ys,rfl,hp2,el2⟩:=b2;exact⟨p,p2,xs,ys,rfl,rfl,hp,hp2,by rw[el.1,el2.1];exact few c,fun r hr=>q _ _ (bE hr _) (jk (el.app el2) hr)⟩
  | _=>cases e
 | _=>cases e
def sK:D->D->Option Rz
 | .tup (x::a),.tup (y::b)=>if a.length+b.length<=999998 then some (.tup ((x::a)++(y::b)),false) else none
 | .tup (x::a),.tup []=>if a.length<=999998 then some (.tup (x::a),false) else none
 | _,_=>none
theorem FJ:RdOp K (CT K) sK:=by
 intro Y H x y d1 d2 z Q lv b1 b2 e q;cases d1 with
 | tup a =>
  cases a with
  | nil=>cases e
  | cons a0 a =>
  cases d2 with
  | tup b =>
   obtain⟨p,xs,rfl,hp,el⟩:=b1;obtain⟨p2,ys,rfl,hp2,el2⟩:=b2;have hx:xs≠[]:=fun z=>by have:=el.1;rw[z]at this;cases this
   cases b with
   | nil =>
    obtain⟨c,e⟩:=aF e;cases e;obtain rfl:=el2.unnil;exact⟨p,p2,xs,[],rfl,rfl,hp.sq,hp2.sq,hx,by rw[el.1];exact few (by simp;lia),fun _=>q _ H (Same.refl H) (.tup hp el.1 el.2),fun z=>absurd rfl z⟩
   | cons b0 b =>
    obtain⟨c,e⟩:=aF e;cases e;have hy:ys≠[]:=fun z=>by have:=el2.1;rw[z]at this;cases this
    exact⟨p,p2,xs,ys,rfl,rfl,hp.sq,hp2.sq,hx,by rw[el.1,el2.1];exact few (by simp;lia),fun z=>absurd z hy,fun _ r hr=>q _ _ (bE hr _) (kG (el.app el2) hr lv)⟩
  | _=>cases e
 | _=>cases e
def cz:=orD sI (orD sJ (orD wO sK))
def Dm:D->D->Option Rz
 | .str a,.int n=>if 0<=n/\n<=1000/\a.length<=1000 then some (.str (Txt.mul a n),false) else none
 | _,_=>none
theorem FK:RdOp K (fun x y H Q=>∃(a:Str)(n:Int),x=.str a/\y=.int n/\MulOk a n/\Q (.str (Txt.mul a n)) H) Dm:=by
 intro Y H x y d1 d2 z Q lv b1 b2 e q;cases d1 with
 | str a =>
  cases d2 with
  | int n =>
   obtain⟨c,e⟩:=aF e;cases e;exact⟨a,n,b1,b2,mulOk_of c.1 c.2.1 c.2.2,q _ H (Same.refl H) (.str _)⟩
  | _=>cases e
 | _=>cases e
def nA:=orD yq Dm
def KM:D->D->Option Rz
 | .str a,.str b=>some (.bl (decide (a.cps.toList<b.cps.toList)),false)
 | _,_=>none
theorem IN:RdOp K (fun x y H Q=>∃i j,x=.str i/\y=.str j/\Q (.bl (decide (i.cps.toList<j.cps.toList))) H) KM:=by
 intro Y H x y d1 d2 z Q lv b1 b2 e q;cases d1 with
 | str a =>
  cases d2 with
  | str b=>cases e;exact⟨a,b,b1,b2,q _ H (Same.refl H) (.bl _)⟩
  | _=>cases e
 | _=>cases e
def bLt:=orD KG KM
def wP(neg:Bool):D->D->Option Rz
 | .str a,.str b=>some (.bl (if neg then !(!(Builtin.Str.occurrences b a 0 b.length 1).isEmpty) else !(Builtin.Str.occurrences b a 0 b.length 1).isEmpty),false)
 | _,_=>none
theorem ro_inS:RdOp K (fun x y H Q=>∃i j,x=.str i/\y=.str j/\Q (.bl (!(Builtin.Str.occurrences j i 0 j.length 1).isEmpty)) H) (wP false):=by
 intro Y H x y d1 d2 z Q lv b1 b2 e q;cases d1 with
 | str a =>
  cases d2 with
  | str b=>cases e;exact⟨a,b,b1,b2,q _ H (Same.refl H) (.bl _)⟩
  | _=>cases e
 | _=>cases e
theorem ro_notinS:RdOp K (fun x y H Q=>∃i j,x=.str i/\y=.str j/\Q (.bl (!(!(Builtin.Str.occurrences j i 0 j.length 1).isEmpty))) H) (wP true):=by
 intro Y H x y d1 d2 z Q lv b1 b2 e q;cases d1 with
 | str a =>
  cases d2 with
  | str b=>cases e;exact⟨a,b,b1,b2,q _ H (Same.refl H) (.bl _)⟩
  | _=>cases e
 | _=>cases e
def ph:List D->Option (List V)
 | []=>some []
 | d::r=>(scD d).bind fun v=>(ph r).bind fun vs=>some (v::vs)
theorem vo:∀{ds:List D}{vs ws:List V},El K Y H vs ds->ph ds=some ws->vs=ws/\ws.all ma=true
 | [],vs,ws,el,e=>by cases e;exact⟨el.unnil,rfl⟩
 | d::r,vs,ws,el,e=>by
  refine bsO e fun w e1 e=>?_;refine bsO e fun ws' e2 e=>?_;cases e;obtain⟨v,t,rfl,da,el⟩:=el.uncons;obtain⟨rfl,h⟩:=vo el e2;have hv:=oB da.ba e1;subst hv;exact⟨rfl,by rw[Zm,vn e1,h];rfl⟩
def D.seq:D->Option (List D)
 | .lst ds=>some ds
 | .tup ds=>some ds
 | .fl ds=>some ds
 | _=>none
theorem qz(h:BA K Y H v d)(e:d.seq=some ds):∃a vs,v=.ref a/\(SqL K H a vs∨SqT K H a vs)/\El K Y H vs ds:=by
 cases d with
 | lst _=>cases e;obtain⟨a,vs,h1,h2,h3⟩:=h;exact⟨a,vs,h1,.inl (.inl (.inl h2)),h3⟩
 | tup _=>cases e;obtain⟨a,vs,h1,h2,h3⟩:=h;exact⟨a,vs,h1,.inr h2.sq,h3⟩
 | fl _=>cases e;obtain⟨a,vs,h1,h2,h3⟩:=h;exact⟨a,vs,h1,.inl h2.sq,h3⟩
 | _=>cases e
def zT(neg:Bool):D->D->Option Rz:=fun a b=>(scD a).bind fun x=>(b.seq).bind fun ds=>(ph ds).bind fun ws=>some (.bl (if neg then !inV x ws else inV x ws),false)
def Do(neg:Bool):RdOp K (rIn K neg) (zT neg):=by
 intro Y H x y d1 d2 z Q lv b1 b2 e q;refine bsO e fun x' e1 e=>?_;refine bsO e fun ds e2 e=>?_;refine bsO e fun ws e3 e=>?_;cases e;obtain⟨a,vs,rfl,sq,el⟩:=qz b2 e2;obtain rfl:=oB b1 e1;obtain⟨rfl,h⟩:=vo el e3;exact⟨a,vs,rfl,sq,vn e1,h,q _ H (Same.refl H) (.bl _)⟩
def bIn:=orD (wP false) (zT false)
def kH:=orD (wP true) (zT true)
def Dq:D->D->Option Rz
 | .lst ds,.int i=>(atI ds i).bind fun d=>some (d,false)
 | .fl ds,.int i=>(atI ds i).bind fun d=>some (d,false)
 | _,_=>none
def FL:D->D->Option Rz
 | .tup ds,.int i=>(atI ds i).bind fun d=>some (d,false)
 | _,_=>none
def IO:D->D->Option Rz
 | .str z,.int i=>if z.length<=1000000 then(atI z.cps.toList i).bind fun c=>some (.str ⟨#[c]⟩,false) else none
 | _,_=>none
def wQ(el:El K Y H vs ds)(e:atI ds i=some d):∃v,atI vs i=some v/\DA K Y H v d:=by
 unfold atI at e ⊢;rw[el.1];refine bsO e fun j e1 e2=>?_;obtain⟨v,h1,h2⟩:=el.at e2;exact⟨v,by rw[e1];exact h1,h2⟩
theorem ro_ixL:RdOp K (HX K) Dq:=by
 intro Y H x y d1 d2 z Q lv b1 b2 e q;cases d1 with
 | lst a =>
  cases d2 with
  | int i =>
   refine bsO e fun d e1 e=>?_;cases e;obtain⟨p,xs,rfl,hp,el⟩:=b1;obtain⟨v,h1,h2⟩:=wQ el e1;exact⟨p,xs,i,v,rfl,b2,.inl (.inl hp),h1,q v H (Same.refl H) h2⟩
  | _=>cases e
 | fl a =>
  cases d2 with
  | int i =>
   refine bsO e fun d e1 e=>?_;cases e;obtain⟨p,xs,rfl,hp,el⟩:=b1;obtain⟨v,h1,h2⟩:=wQ el e1;exact⟨p,xs,i,v,rfl,b2,hp.sq,h1,q v H (Same.refl H) h2⟩
  | _=>cases e
 | _=>cases e
theorem ro_ixT:RdOp K (HY K) FL:=by
 intro Y H x y d1 d2 z Q lv b1 b2 e q;cases d1 with
 | tup a =>
  cases d2 with
  | int i =>
   refine bsO e fun d e1 e=>?_;cases e;obtain⟨p,xs,rfl,hp,el⟩:=b1;obtain⟨v,h1,h2⟩:=wQ el e1;exact⟨p,xs,i,v,rfl,b2,hp.sq,h1,q v H (Same.refl H) h2⟩
  | _=>cases e
 | _=>cases e
theorem IP:RdOp K HZ IO:=by
 intro Y H x y d1 d2 z Q lv b1 b2 e q;cases d1 with
 | str a =>
  cases d2 with
  | int i =>
   obtain⟨c,e⟩:=aF e;refine bsO e fun ch e1 e=>?_;cases e;exact⟨a,i,ch,b1,b2,few c,e1,q _ H (Same.refl H) (.str _)⟩
  | _=>cases e
 | _=>cases e
def bIx:=orD Dq (orD FL IO)
def KN:RdOp K (rIx K) bIx:=ro_ixL.or (ro_ixT.or IP)
abbrev FO:=En->Option (Option Int×En)
def RdO(K:Aa)(t:TO)(f:FO):Prop:=∀(st:En)(σ:St)(H:Hp)(O Z:AS)(Q:Option Int->Hp->Prop),ER K st σ H O Z->∀c st',f st=some (c,st') ->
 (∀H' O',Ext O H O' H'->Kp st st'->ER K st' σ H' O' Z->Q c H')->t σ H Q
def oNo:FO:=fun st=>some (none,st)
def IQ:RdO K x9 oNo:=by
 intro st σ H O Z Q E c st' e q;cases e;exact q H O (Ext.refl _ _) (Kp.refl _) E
def asInt(st:En)(r:Rs):Option Int:=match cont st r with
 | some (.int i)=>some i
 | _=>none
def bM(fe:FE):FO:=fun st=>(fe st).bind fun x=>(asInt x.2 x.1).bind fun i=>some (some i,x.2)
set_option tactic.hygienic true in
def vp(h:RdE K te fe):RdO K (G1 te) (bM fe):=by
 intro st σ H O Z Q E c st' e q;refine bsP e fun r st1 e1 e=>?_;refine bsO e fun i e2 e=>?_;cases e;refine h st σ H O Z _ E r _ e1 fun v H1 O1 x1 k1 E1 rv w=>?_;have ev:v=.int i:=by
  unfold asInt at e2;split at e2
  ·rename_i j ej
   cases e2;exact rv.ba E1 ej
  ·cases e2
 exact⟨i,ev,q H1 O1 x1 k1 E1⟩
def RdSl(K:Aa)(r:V->Option Int->Option Int->Hp->VK->Prop)(b:D->Option Int->Option Int->Option Rz):Prop:=∀(Y:AS)(H:Hp)(x:V)(lo hi:Option Int)(d1:D)(z:Rz)(Q:VK),(∀p,Y p->Lv H p)->BA K Y H x d1->b d1 lo hi=some z ->
 (∀v H',Same H H'->RES K Y H H' v z->Q v H')->r x lo hi H Q
def fSl(b:D->Option Int->Option Int->Option Rz)(fe:FE)(fl fh:FO):FE:=fun st=>(fe st).bind fun x=>(fl x.2).bind fun l=>(fh l.2).bind fun u=>(cont u.2 x.1).bind fun d=>(b d l.1 u.1).bind fun z=>some (mk z,u.2)
def vq(hr:RdSl K r b)(he:RdE K te fe)(hl:RdO K tl fl)(hh:RdO K th fh):RdE K (tSl r te tl th) (fSl b fe fl fh):=by
 intro st σ H O Z Q E r' st' h q;refine bsP h fun r1 st1 e1 h=>?_;refine bsP h fun lo st2 e2 h=>?_;refine bsP h fun hi st3 e3 h=>?_;refine bsO h fun d1 e4 h=>?_;refine bsO h fun z e5 h=>?_;cases h;refine he st σ H O Z _ E r1 st1 e1 fun v1 H1 O1 x1 k1 E1 rv1 w1=>?_;refine hl st1 σ H1 O1 Z _ E1 lo st2 e2 fun H2 O2 x2 k2 E2=>?_;refine hh st2 σ H2 O2 Z _ E2 hi _ e3 fun H3 O3 x3 k3 E3=>?_;have b1:=(rv1.nf.ext (x2.trans x3) (k2.trans k3)).ba E3 (by rw[im];exact e4)
 refine hr (U O3 Z) H3 v1 lo hi d1 z _ E3.liv b1 e5 fun v H4 s hres=>?_;obtain⟨E4,rv4⟩:=hres.rv E3 s;have xx:=(x1.trans x2).trans x3;exact q v H4 O3 (xx.trans (Same.ext s)) ((k1.trans k2).trans k3) E4 rv4 (hres.fsh.back xx)
def cutD(xs:List D)(lo hi:Option Int):List D:=(xs.drop (HT.sIx xs.length 0 lo)).take (HT.sIx xs.length xs.length hi-HT.sIx xs.length 0 lo)
def El.cut(el:El K Y H vs ds)(lo hi:Option Int):El K Y H (vd vs lo hi) (cutD ds lo hi):=by
 unfold vd cutD;rw[el.1];exact(el.drop _).take _
def orS(b b':D->Option Int->Option Int->Option Rz):D->Option Int->Option Int->Option Rz:=fun x l h=>match b x l h with
 | some z=>some z
 | none=>b' x l h
set_option tactic.hygienic true in
def RdSl.or(h:RdSl K r b)(h':RdSl K r' b'):RdSl K (fun x lo hi H Q=>r x lo hi H Q∨r' x lo hi H Q) (orS b b'):=by
 intro Y H x lo hi d1 z Q lv b1 e q;unfold orS at e;split at e
 ·rename_i z' ez
  cases e;exact .inl (h Y H x lo hi d1 z Q lv b1 ez q)
 ·exact .inr (h' Y H x lo hi d1 z Q lv b1 e q)
def zU:D->Option Int->Option Int->Option Rz
 | .lst ds,lo,hi=>some (.lst (cutD ds lo hi),true)
 | .fl ds,lo,hi=>some (.lst (cutD ds lo hi),true)
 | _,_,_=>none
theorem KO:RdSl K (H9 K) zU:=by
 intro Y H x lo hi d1 z Q lv b1 e q;cases d1 with
 | lst a =>
  cases e;obtain⟨p,xs,rfl,hp,el⟩:=b1;exact⟨p,xs,rfl,.inl (.inl hp),fun r hr=>q _ _ (bE hr _) (jk (el.cut lo hi) hr)⟩
 | fl a =>
  cases e;obtain⟨p,xs,rfl,hp,el⟩:=b1;exact⟨p,xs,rfl,hp.sq,fun r hr=>q _ _ (bE hr _) (jk (el.cut lo hi) hr)⟩
 | _=>cases e
def pN:D->Option Int->Option Int->Option Rz
 | .tup ds,lo,hi=>if HT.sIx ds.length 0 lo=0/\HT.sIx ds.length ds.length hi=ds.length then none else some (.tup (cutD ds lo hi),false)
 | _,_,_=>none
theorem KP:RdSl K (HV K) pN:=by
 intro Y H x lo hi d1 z Q lv b1 e q;cases d1 with
 | tup a =>
  by_cases c:HT.sIx a.length 0 lo=0/\HT.sIx a.length a.length hi=a.length
  ·simp only[pN,Ag c]at e;cases e
  ·simp only[pN,Al c]at e;cases e;obtain⟨p,xs,rfl,hp,el⟩:=b1;exact⟨p,xs,rfl,hp.sq,by rw[el.1];exact c,fun r hr=>q _ _ (bE hr _) (kG (el.cut lo hi) hr lv)⟩
 | _=>cases e
def Dr:D->Option Int->Option Int->Option Rz
 | .str z,lo,hi=>if z.length<=1000000 then some (.str (Txt.slice z lo hi),false) else none
 | _,_,_=>none
theorem KQ:RdSl K (fun x lo hi H Q=>∃z:Str,x=.str z/\z.length<=sizeLine/\Q (.str (Txt.slice z lo hi)) H) Dr:=by
 intro Y H x lo hi d1 z Q lv b1 e q;cases d1 with
 | str a =>
  obtain⟨c,e⟩:=aF e;cases e;exact⟨a,b1,few c,q _ H (Same.refl H) (.str _)⟩
 | _=>cases e
def bSl:=orS zU (orS pN Dr)
def Ds:List D->Option Rz
 | [d]=>(d.seq).bind fun ds=>some (.int ds.length,false)
 | _=>none
theorem rc_lenQ:RdCB K (fun xs H Q=>∃p ys,xs=[.ref p]/\(SqL K H p ys∨SqT K H p ys)/\Q (.int ys.length) H) Ds:=by
 intro Y H xs ds z Q lv bs e q;cases bs with
 | nil=>cases e
 | cons b1 bs =>
  cases bs with
  | cons _ _=>cases e
  | nil =>
   refine bsO e fun es e1 e=>?_;cases e;obtain⟨a,vs,rfl,sq,el⟩:=qz b1 e1;refine⟨a,vs,rfl,sq,?_⟩;rw[el.1];exact q _ H (Same.refl H) (.int _)
def Dt:List D->Option Rz
 | [.str z]=>if z.length<=1000000 then some (.int z.length,false) else none
 | _=>none
theorem FM:RdCB K (fun xs H Q=>∃z:Str,xs=[.str z]/\z.length<=sizeLine/\Q (.int z.length) H) Dt:=by
 intro Y H xs ds z Q lv bs e q;cases bs with
 | nil=>cases e
 | @cons v vs d ds b1 bs =>
  cases bs with
  | cons _ _=>cases d<;>cases e
  | nil =>
   cases d with
   | str a =>
    obtain⟨c,e⟩:=aF e;cases e;exact⟨a,by rw[show v=V.str a from b1],few c,q _ H (Same.refl H) (.int _)⟩
   | _=>cases e
def cC:=orC Ds Dt
def Hg:List D->Option Rz
 | [d]=>(d.seq).bind fun ds=>some (.lst ds,true)
 | _=>none
theorem rc_list:RdCB K (fun xs H Q=>∃p ys,xs=[.ref p]/\(SqL K H p ys∨SqT K H p ys)/\∀l,H l=none->Q (.ref l) (upd H l (.lst ys))) Hg:=by
 intro Y H xs ds z Q lv bs e q;cases bs with
 | nil=>cases e
 | cons b1 bs =>
  cases bs with
  | cons _ _=>cases e
  | nil =>
   refine bsO e fun es e1 e=>?_;cases e;obtain⟨a,vs,rfl,sq,el⟩:=qz b1 e1;exact⟨a,vs,rfl,sq,fun r hr=>q _ _ (bE hr _) (jk el hr)⟩
def Du:List D->Option Rz
 | [.lst ds]=>some (.tup ds,false)
 | [.fl ds]=>some (.tup ds,false)
 | [.tup ds]=>some (.tup ds,false)
 | _=>none
theorem rc_tuple:RdCB K (fun xs H Q=>∃p ys,xs=[.ref p]/\((SqL K H p ys/\∀l,H l=none->Q (.ref l) (upd H l (.tup ys)))∨(SqT K H p ys/\Q (.ref p) H))) Du:=by
 intro Y H xs ds z Q lv bs e q;cases bs with
 | nil=>cases e
 | @cons v vs d ds b1 bs =>
  cases bs with
  | cons _ _=>cases d<;>cases e
  | nil =>
   cases d with
   | lst a =>
    cases e;obtain⟨p,xs,rfl,hp,el⟩:=b1;exact⟨p,xs,rfl,.inl ⟨.inl (.inl hp),fun r hr=>q _ _ (bE hr _) (kG el hr lv)⟩⟩
   | fl a =>
    cases e;obtain⟨p,xs,rfl,hp,el⟩:=b1;exact⟨p,xs,rfl,.inl ⟨hp.sq,fun r hr=>q _ _ (bE hr _) (kG el hr lv)⟩⟩
   | tup a =>
    cases e;obtain⟨p,xs,rfl,hp,el⟩:=b1;exact⟨p,xs,rfl,.inr ⟨hp.sq,q _ H (Same.refl H) (.tup hp el.1 el.2)⟩⟩
   | _=>cases e
def nB:List D->Option (List Bool)
 | []=>some []
 | .bl b::r=>(nB r).bind fun bs=>some (b::bs)
 | _=>none
theorem vt:∀{ds:List D}{vs:List V}{bs:List Bool},El K Y H vs ds->nB ds=some bs->vs=bs.map V.bl
 | [],vs,bs,el,e=>by cases e;exact el.unnil
 | d::r,vs,bs,el,e=>by
  obtain⟨v,t,rfl,da,el2⟩:=el.uncons;cases d with
  | bl b =>
   refine bsO e fun bs' e1 e=>?_;cases e;have h:=vt el2 e1;rw[h,show v=V.bl b from da.ba];rfl
  | _=>cases e
def pO:List D->Option Rz
 | [.lst ds]=>(nB ds).bind fun bs=>some (.bl (bs.all id),false)
 | _=>none
theorem Dv:RdCB K (fun xs H Q=>∃(p:Addr)(bs:List Bool),xs=[.ref p]/\SqL K H p (bs.map V.bl)/\Q (.bl (bs.all id)) H) pO:=by
 intro Y H xs ds z Q lv bs e q;cases bs with
 | nil=>cases e
 | @cons v vs d ds b1 bs =>
  cases bs with
  | cons _ _=>cases d<;>cases e
  | nil =>
   cases d with
   | lst a =>
    refine bsO e fun bs e1 e=>?_;cases e;obtain⟨p,xs,rfl,hp,el⟩:=b1;obtain rfl:=vt el e1;exact⟨p,bs,rfl,.inl (.inl hp),q _ H (Same.refl H) (.bl _)⟩
   | _=>cases e
def wR(K:Aa)(r:V->List V->Hp->VK->Prop)(b:D->List D->Option Rz):Prop:=∀(Y:AS)(H:Hp)(x:V)(xs:List V)(d:D)(ds:List D)(z:Rz)(Q:VK),(∀p,Y p->Lv H p)->BA K Y H x d->BAs K Y H xs ds->b d ds=some z ->
 (∀v H',Same H H'->RES K Y H H' v z->Q v H')->r x xs H Q
def IR(T:String):D->Bool
 | .str _=>decide (T="str")
 | .lst _=>decide (T="list")
 | .dk _=>decide (T="dict")
 | .dt _=>decide (T="dict")
 | _=>false
theorem KR(h:BA K Y H v d)(e:IR T d=true):tyV K T v H:=by
 cases d with
 | str x =>
  have e':T="str":=Ap e;rw[show v=V.str x from h];exact e'
 | lst x=>obtain⟨a,vs,rfl,h1,_⟩:=h;exact .inl ⟨Ap e,vs,.inl (.inl h1)⟩
 | dk x=>obtain⟨a,vs,rfl,h1,_⟩:=h;exact .inr (.inr (.inl ⟨Ap e,.inl ⟨vs,h1⟩⟩))
 | dt x=>obtain⟨a,ep,vs,rfl,_,h1,_⟩:=h;exact .inr (.inr (.inl ⟨Ap e,.inr ⟨ep,vs,h1⟩⟩))
 | _=>cases e
def fBM(T:String)(b:D->List D->Option Rz)(fo:FE)(fa:FA):FE:=fun st=>(fo st).bind fun x=>(cont x.2 x.1).bind fun d0=>if IR T d0=true then(fa x.2).bind fun y=>(cont y.2 x.1).bind fun d=>(eH y.2 y.1).bind fun ds=>(b d ds).bind fun z=>some (mk z,y.2) else none
def Hh(hr:wR K r b)(ho:RdE K to fo)(ha:RdA K ta fa):RdE K (tBM K T r to ta) (fBM T b fo fa):=by
 intro st σ H O Z Q E r' st' h q;refine bsP h fun r1 st1 e1 h=>?_;refine bsO h fun d0 e2 h=>?_;obtain⟨c,h⟩:=aF h;refine bsP h fun rs st2 e3 h=>?_;refine bsO h fun d e4 h=>?_;refine bsO h fun ds e5 h=>?_;refine bsO h fun z e6 h=>?_;cases h;refine ho st σ H O Z _ E r1 st1 e1 fun v1 H1 O1 x1 k1 E1 rv1 w1=>⟨KR (rv1.ba E1 e2) c,?_⟩;refine ha st1 σ H1 O1 Z _ E1 rs _ e3 fun vs H2 O2 x2 k2 E2 rvs=>?_;have b1:=(rv1.nf.ext x2 k2).ba E2 (by rw[im];exact e4)
 refine hr (U O2 Z) H2 v1 vs d ds z _ E2.liv b1 (rvs.bas E2 e5) e6 fun v H3 s hres=>?_;obtain⟨E3,rv3⟩:=hres.rv E2 s;exact q v H3 O2 ((x1.trans x2).trans (Same.ext s)) (k1.trans k2) E3 rv3 (hres.fsh.back (x1.trans x2))
def gL:List D->Option (List Str)
 | []=>some []
 | .str x::r=>(gL r).bind fun xs=>some (x::xs)
 | _=>none
theorem lB:∀{ds:List D}{vs:List V}{xs:List Str},El K Y H vs ds->gL ds=some xs->vs=xs.map V.str
 | [],vs,xs,el,e=>by cases e;exact el.unnil
 | d::r,vs,xs,el,e=>by
  obtain⟨v,t,rfl,da,el2⟩:=el.uncons;cases d with
  | str b =>
   refine bsO e fun xs' e1 e=>?_;cases e;have h:=lB el2 e1;rw[h,show v=V.str b from da.ba];rfl
  | _=>cases e
def dF:D->List D->Option Rz
 | .str sep,[.lst ds]=>(gL ds).bind fun ys=>if (ys.map (·.length)).sum+ys.length*sep.length<=16777216 then some (.str (Txt.join sep ys),false) else none
 | _,_=>none
theorem yr:wR K (fun x vs H Q=>∃(sep:Str)(p:Addr)(ys:List Str),x=.str sep/\vs=[.ref p]/\SqL K H p (ys.map V.str)/\(ys.map (·.length)).sum+ys.length*sep.length<=16777216/\Q (.str (Txt.join sep ys)) H) dF:=by
 intro Y H x xs d ds z Q lv b1 bs e q;cases d with
 | str sep =>
  cases bs with
  | nil=>cases e
  | @cons v vs d ds b2 bs =>
   cases bs with
   | cons _ _=>cases d<;>cases e
   | nil =>
    cases d with
    | lst es =>
     refine bsO e fun ys e1 e=>?_;obtain⟨c,e⟩:=aF e;cases e;obtain⟨p,ws,rfl,hp,el⟩:=b2;obtain rfl:=lB el e1;exact⟨sep,p,ys,b1,rfl,.inl (.inl hp),c,q _ H (Same.refl H) (.str _)⟩
    | _=>cases e
 | _=>cases e
def pY:D->List D->Option Rz
 | .str a,[.str b]=>some (.bl (Txt.startswith a b),false)
 | _,_=>none
theorem sL:wR K (fun x vs H Q=>∃(a b:Str),x=.str a/\vs=[.str b]/\Q (.bl (Txt.startswith a b)) H) pY:=by
 intro Y H x xs d ds z Q lv b1 bs e q;cases d with
 | str a =>
  cases bs with
  | nil=>cases e
  | @cons v vs d ds b2 bs =>
   cases bs with
   | cons _ _=>cases d<;>cases e
   | nil =>
    cases d with
    | str b=>cases e;exact⟨a,b,b1,by rw[show v=V.str b from b2],q _ H (Same.refl H) (.bl _)⟩
    | _=>cases e
 | _=>cases e
def isL:D->Bool
 | .lst _=>true
 | _=>false
theorem tyL(h:OA K Y H p x)(e:isL x=true):tyV K "list" (.ref p) H:=by
 cases x with
 | lst ds=>obtain⟨vs,h1,_⟩:=h;exact .inl ⟨rfl,vs,.inl (.inl h1)⟩
 | _=>cases e
theorem El.upd(h:El K Y H vs ds)(hp:Y p):El K Y (L2.upd H p o) vs ds:=h.go (fun b u e n=>by
 have hb:b≠p:=fun z=>n (by rw[z];exact hp)
 rw[bd hb];exact e) fun b z=>.inl z
def ip:D->List D->Option (D×D)
 | .lst xs,[y]=>if xs.length<1000000 then some (.non,.lst (xs++[y])) else none
 | _,_=>none
theorem sM:RdM K "list" tS isL ip:=⟨fun Y H p x h e=>tyL h e,fun Y H p x vs ds y x' Q hp ho el e q=>by
 cases x with
 | lst xs =>
  cases ds with
  | nil=>cases e
  | cons d ds =>
   cases ds with
   | cons _ _=>cases e
   | nil =>
    obtain⟨c,e⟩:=aF e;cases e;obtain⟨ws,h1,h2⟩:=ho;obtain⟨v,r,rfl,da,el⟩:=el.uncons;obtain rfl:=el.unnil;exact⟨p,ws,v,rfl,rfl,h1,by rw[h2.1];exact few (by lia),q .non _ .non ⟨_,b8,(h2.app (El.one da)).upd hp⟩⟩
 | _=>cases e⟩
def qA:D->D->D->Option D
 | .lst xs,.int k,v=>(ixN xs.length k).bind fun j=>some (.lst (xs.set j v))
 | _,_,_=>none
theorem zV:He K G3 qA:=by
 intro Y H p x k v dk dv x' Q hp ho bk da e q;cases x with
 | lst xs =>
  cases dk with
  | int i =>
   refine bsO e fun j e1 e=>?_;cases e;obtain⟨ws,h1,h2⟩:=ho;exact⟨p,ws,i,j,rfl,bk,h1,by rw[h2.1];exact e1,q _ ⟨_,b8,(h2.set da j).upd hp⟩⟩
  | _=>cases e
 | _=>cases e
def vv(xs:List Str):FA:=fun st=>some (xs.map fun x=>.d (.str x),st)
theorem FN:RdA K (G5 xs) (vv xs):=by
 intro st σ H O Z Q E rs st' e q;cases e;refine q _ H O (Ext.refl _ _) (Kp.refl _) E ?_;clear q;induction xs with
 | nil=>exact .nil
 | cons x r ih=>exact .cons (show DA K _ H (.str x) (.str x) from .str x) ih
end
end VF
namespace VF
open PySem PySem.Spec PyProof.Rows L2
section
variable {X:Cx}{K:Aa}{Y:AS}{H:Hp}{v:V}{d:D}{vs:List V}{ds:List D}
def yt(K:Aa):R2:=fun x y H Q=>(rI0 fun i j=>.int (i+j)) x y H Q∨((∃i j,x=.str i/\y=.str j/\i.length+j.length<=sizeLine/\Q (.str (i++j)) H)∨(Ic x y H Q∨CT K x y H Q))
def yu(h:X.K=K):OpR X (binaryOp .Add) (yt K):=op_add.or (op_add_str.or (op_cat.or (h ▸ Ft)))
def ro_addA:RdOp K (yt K) cz:=ro_addI.or (ro_addS.or (ro_cat.or FJ))
def Hi:R2:=fun x y H Q=>(rI CMul fun i j=>.int (i*j)) x y H Q∨(∃(a:Str)(n:Int),x=.str a/\y=.int n/\MulOk a n/\Q (.str (Txt.mul a n)) H)
def lC:OpR X (binaryOp .Mult) Hi:=op_mul.or wI
def FP:RdOp K Hi nA:=ro_mulI.or FK
def KS:R2:=fun x y H Q=>(rI0 fun i j=>.bl (decide (i<j))) x y H Q∨(∃i j,x=.str i/\y=.str j/\Q (.bl (decide (i.cps.toList<j.cps.toList))) H)
def wS:OpR X (compareOp .Lt) KS:=op_lt.or zu
def IS:RdOp K KS bLt:=ro_ltI.or IN
def IT(K:Aa):R2:=fun x y H Q=>(∃i j,x=.str i/\y=.str j/\Q (.bl (!(Builtin.Str.occurrences j i 0 j.length 1).isEmpty)) H)∨rIn K false x y H Q
def oC(h:X.K=K):OpR X (compareOp .In) (IT K):=op_in_str.or (h ▸ zy)
def ro_inA:RdOp K (IT K) bIn:=ro_inS.or (Do false)
def yv(K:Aa):R2:=fun x y H Q=>(∃i j,x=.str i/\y=.str j/\Q (.bl (!(!(Builtin.Str.occurrences j i 0 j.length 1).isEmpty))) H)∨rIn K true x y H Q
def oD(h:X.K=K):OpR X (compareOp .NotIn) (yv K):=op_notin_str.or (h ▸ tO)
def zW:RdOp K (yv K) kH:=ro_notinS.or (Do true)
def bEq:=zS false
def IU:RdOp K rEq bEq:=IH
def IV:D->D->Option Rz
 | .lst xs,.lst []=>some (.bl (!xs.isEmpty),false)
 | _,_=>none
def KU(K:Aa):R2:=fun x y H Q=>∃(a b:Addr)(xs:List V),x=.ref a/\y=.ref b/\SqL K H a xs/\SqL K H b []/\Q (.bl (!xs.isEmpty)) H
theorem IW:RdOp K (KU K) IV:=by
 intro Y H x y d1 d2 z Q lv b1 b2 e q;cases d1 with
 | lst xs =>
  cases d2 with
  | lst ys =>
   cases ys with
   | nil =>
    cases e;obtain⟨p,ws,rfl,hp,el⟩:=b1;obtain⟨p2,zs,rfl,hp2,el2⟩:=b2;obtain rfl:=el2.unnil;refine⟨p,p2,ws,rfl,rfl,.inl (.inl hp),.inl (.inl hp2),?_⟩;have e:ws.isEmpty=xs.isEmpty:=by
     cases ws with
     | nil=>cases xs with
      | nil=>rfl
      | cons _ _=>cases el.1
     | cons _ _=>cases xs with
      | nil=>cases el.1
      | cons _ _=>rfl
    rw[e];exact q _ H (Same.refl H) (.bl _)
   | cons _ _=>cases e
  | _=>cases e
 | _=>cases e
def bNe:=orD (zS true) IV
def IX(K:Aa):R2:=fun x y H Q=>rNe x y H Q∨KU K x y H Q
def f8(h:X.K=K)(hu:X.A.units+64<cLine):OpR X (compareOp .NotEq) (IX K):=op_ne.or (by subst h;exact Il (by lia))
def ro_neA:RdOp K (IX K) bNe:=ro_neS.or IW
def IY(K:Aa):V->Option Int->Option Int->Hp->VK->Prop:=fun x lo hi H Q=>H9 K x lo hi H Q∨(HV K x lo hi H Q∨(∃z:Str,x=.str z/\z.length<=sizeLine/\Q (.str (Txt.slice z lo hi)) H))
def iO(h:X.K=K):SlR X (IY K):=SlR.or (h ▸ Fu) (SlR.or (h ▸ HW) Ij)
def yw:RdSl K (IY K) bSl:=RdSl.or KO (RdSl.or KP KQ)
def Dw(K:Aa):List V->Hp->VK->Prop:=fun xs H Q=>(∃p ys,xs=[.ref p]/\(SqL K H p ys∨SqT K H p ys)/\Q (.int ys.length) H)∨(∃z:Str,xs=[.str z]/\z.length<=sizeLine/\Q (.int z.length) H)
def zX(h:X.K=K):CallR X (.builtin "len") (Dw K):=CallR.or (h ▸ tP) tQ
def IZ:RdCB K (Dw K) cC:=rc_lenQ.or FM
def Dx(z:Str):El K Y H (sgn z) (nr z):=by
 refine⟨by simp[sgn,nr],fun i v d h1 h2=>?_⟩
 unfold sgn at h1;unfold nr at h2;rw[Qd]at h1 h2;obtain⟨c,e1,rfl⟩:=Yd.mp h1;rw[e1]at h2;obtain rfl:=Option.some.inj h2;exact .str _
def Dy:List D->Option Rz
 | [.str z]=>if z.cps.size<=1000000 then some (.lst (nr z),true) else none
 | _=>none
def Dz:List V->Hp->VK->Prop:=fun xs H Q=>∃z:Str,xs=[.str z]/\z.cps.size<=sizeLine/\∀l,H l=none->Q (.ref l) (upd H l (.lst (sgn z)))
theorem DB:RdCB K Dz Dy:=by
 intro Y H xs ds z Q lv bs e q;cases bs with
 | nil=>cases e
 | @cons v vs d ds b1 bs =>
  cases bs with
  | cons _ _=>cases d<;>cases e
  | nil =>
   cases d with
   | str a =>
    obtain⟨c,e⟩:=aF e;cases e;exact⟨a,by rw[show v=V.str a from b1],few c,fun r hr=>q _ _ (bE hr _) (jk (Dx a) hr)⟩
   | _=>cases e
def yx:List D->Option Rz
 | [.str z]=>if z.cps.size<=1000000 then some (.tup (nr z),false) else none
 | _=>none
def yy:List V->Hp->VK->Prop:=fun xs H Q=>∃z:Str,xs=[.str z]/\z.cps.size<=sizeLine/\∀l,H l=none->Q (.ref l) (upd H l (.tup (sgn z)))
theorem zY:RdCB K yy yx:=by
 intro Y H xs ds z Q lv bs e q;cases bs with
 | nil=>cases e
 | @cons v vs d ds b1 bs =>
  cases bs with
  | cons _ _=>cases d<;>cases e
  | nil =>
   cases d with
   | str a =>
    obtain⟨c,e⟩:=aF e;cases e;exact⟨a,by rw[show v=V.str a from b1],few c,fun r hr=>q _ _ (bE hr _) (kG (Dx a) hr lv)⟩
   | _=>cases e
def DC:=orC Hg Dy
def aY:=orC Du yx
def DD(K:Aa):List V->Hp->VK->Prop:=fun xs H Q=>(∃p ys,xs=[.ref p]/\(SqL K H p ys∨SqT K H p ys)/\∀l,H l=none->Q (.ref l) (upd H l (.lst ys)))∨Dz xs H Q
def t7(K:Aa):List V->Hp->VK->Prop:=fun xs H Q=>(∃p ys,xs=[.ref p]/\((SqL K H p ys/\∀l,H l=none->Q (.ref l) (upd H l (.tup ys)))∨(SqT K H p ys/\Q (.ref p) H)))∨yy xs H Q
def wT(h:X.K=K)(hc:X.calm=true):CallR X (.type "list") (DD K):=CallR.or (h ▸ tR) (qv hc)
def vx(h:X.K=K)(hc:X.calm=true):CallR X (.type "tuple") (t7 K):=CallR.or (h ▸ rN) (pK hc)
def DE:RdCB K (DD K) DC:=rc_list.or DB
def zZ:RdCB K (t7 K) aY:=rc_tuple.or zY
def tyN:D->String
 | .non=>"NoneType"
 | .bl _=>"bool"
 | .int _=>"int"
 | .str _=>"str"
 | .tup _=>"tuple"
 | .lst _=>"list"
 | .fl _=>"list"
 | .dk _=>"dict"
 | .dt _=>"dict"
 | .ty _=>"type"
def DF(n T:String):Bool:=n == T||(n == "bool"&&T == "int")
def I0:∀n∈["NoneType","bool","int","str","tuple","list","dict"],∀T∈["bool","int","str","tuple","list","dict"],
  (if (Value.type n == Value.type T)=true then some true else if PySem.W.kitMeta T=true then(fastBuiltinMro n).map (·.contains (Value.type T)) else none)=some (DF n T):=by decide +kernel
def LK:List D->Option Rz
 | [d,.ty T]=>if (["bool","int","str","tuple","list","dict"].contains T&&tyN d != "type")=true then some (.bl (DF (tyN d) T),false) else none
 | _=>none
def bF:=LK
def I8(K:Aa):List V->Hp->VK->Prop:=fun xs H Q=>∃(Y:AS)(x:V)(d:D)(T:String),xs=[x,.ty T]/\BA K Y H x d/\(["bool","int","str","tuple","list","dict"].contains T&&tyN d != "type")=true/\Q (.bl (DF (tyN d) T)) H
theorem z9:RdCB K (I8 K) bF:=by
 intro Y H xs ds z Q lv bs e q;cases bs with
 | nil=>cases e
 | @cons v vs d ds b1 bs =>
  cases bs with
  | nil=>cases e
  | @cons v2 vs2 d2 ds2 b2 bs =>
   cases bs with
   | cons _ _=>cases d2<;>cases e
   | nil =>
    cases d2 with
    | ty T =>
     obtain⟨c,e⟩:=aF e;cases e;exact⟨Y,v,d,T,by rw[show v2=V.ty T from b2],b1,c,q _ H (Same.refl H) (.bl _)⟩
    | _=>cases e
def t8(h:X.K=K):CallR X (.builtin "isinstance") (I8 K):=by
 subst h;intro pins s σ H xs us Q I rv h;obtain⟨Y,x,d,T,rfl,b1,c,q⟩:=h;obtain⟨u,w',rfl,rx,ry⟩:=vals2 rv;cases (show w'=Value.type T from ry);rw[Wf]at c;have hT:T∈["bool","int","str","tuple","list","dict"]:=List.contains_iff_mem.mp c.1;have fin:∀tk,EP X pins σ Q (.bool (DF (tyN d) T)) { s with toks:=tk }:=fun tk=>⟨.bl _,H,I.tok tk,rfl,q⟩;have ko:∀n∈["NoneType","bool","int","str","tuple","list","dict"],tyN d=n->PySem.W.kitOne X.K (.type n) (.type T)=some (DF (tyN d) T):=fun n hn e=>by
  rw[e];exact Ik (I0 n hn T hT)
 cases d with
 | non =>
  obtain rfl:=(show x=V.non from b1);exact eY I rx .non (ko "NoneType" (by decide) rfl) fin
 | bl b =>
  obtain rfl:=(show x=V.bl b from b1);exact eY I rx (.bl b) (ko "bool" (by decide) rfl) fin
 | int i =>
  obtain rfl:=(show x=V.int i from b1);exact eY I rx (.int i) (ko "int" (by decide) rfl) fin
 | str z =>
  obtain rfl:=(show x=V.str z from b1);exact eY I rx (.str z) (ko "str" (by decide) rfl) fin
 | ty n=>exact absurd c.2 (by simp[tyN])
 | lst ds =>
  obtain⟨a,vs,rfl,h1,_⟩:=b1;exact eY I rx (.lst h1) (ko "list" (by decide) rfl) fin
 | fl ds =>
  obtain⟨a,vs,rfl,h1,_⟩:=b1;cases (show u=Value.ref a from rx);obtain⟨its,_,pl,_⟩:=I.list h1.sq;obtain⟨o,ho,hc,_⟩:=pl.isList;exact Ar Bq I.kIn ⟨o,ho,hc⟩ (ko "list" (by decide) rfl) (fun z=>nomatch z) fin
 | tup ds =>
  obtain⟨a,vs,rfl,h1,_⟩:=b1;cases (show u=Value.ref a from rx);obtain⟨its,_,pl,_⟩:=I.tuple h1.sq;obtain⟨o,ho,hc,_⟩:=pl;exact Ar PySem.W.kitx_tuple I.kIn ⟨o,ho,hc⟩ (ko "tuple" (by decide) rfl) (fun z=>nomatch z) fin
 | dk ds =>
  obtain⟨a,vs,rfl,h1,_⟩:=b1;exact eY I rx (.dK h1) (ko "dict" (by decide) rfl) fin
 | dt ds =>
  obtain⟨a,ep,vs,rfl,_,h1,_⟩:=b1;exact eY I rx (.dT h1) (ko "dict" (by decide) rfl) fin
def pP(l:Addr)(its:Array Value)(n:Nat)(b:Addr)(more:Array Value)(m:Nat)(dd:Option Addr)(sl:Array (Option Value))(h0:¬(!its.isEmpty&&Builtin.List.listTooLong (its.size+more.size))=true)(h1:its.size<=sizeLine)(h2:its.size+more.size<=sizeLine+1) :
  Meets (Builtin.«list.extend» ⟨[.ref l,.ref b],[]⟩) (fun _ R s=>s.heap.get? l=some { cls:=.type "list",dict:=none,data:=.seq its n,slots:=#[] }/\s.heap.get? b=some { cls:=.type "tuple",dict:=dd,data:=.seq more m,slots:=sl }/\R (.ok (.ret Value.none)) { s with heap:=s.heap.update l (Obj.mapSeq fun x=>x++more),toks:=s.toks }) :=
 .of_wp fun prog w A R s0 hh=>by
  obtain⟨hp,gg,dp,tks,oo⟩:=s0;obtain⟨hl,hb,hR⟩:=hh;have a1:=AutoSeq1.idx_int;have a2:=AutoSeq1.sub_tuple_tuple;have a3:=AutoSeq1.sub_list_list;have a4:=AutoSeq1.sub_tuple_list;have a5:=AutoSeq1.sub_list_tuple;have fits:(its++more).size<=sizeLine+1:=by
   rw[Array.size_append];exact h2
  wp_walk using (wpAny_updateSeq hl rfl (hz:=h1) (_hz':=fits)),A4 hl,A4 hb
  exact⟨_,rfl,hR⟩
def Hj(K:Aa):V->List V->Hp->VK->Prop:=fun x vs H Q=>∃l b xs zs,x=.ref l/\vs=[.ref b]/\H l=some (.lst xs)/\SqT K H b zs/\xs.length+zs.length<=sizeLine/\Q .non (upd H l (.lst (xs++zs)))
def FQ(h:X.K=K):MtM X "list.extend" (Hj K):=by
 subst h;intro pins s σ H x vs v us Q I rx rv h;obtain⟨l,b,xs,zs,rfl,rfl,hH,hB,hz,q⟩:=h;cases rx;obtain⟨u,rfl,ru⟩:=rv.one;cases ru;obtain⟨z,its,n,r,hl,e⟩:=I.lstM hH;obtain⟨its2,r2,pl,hz2⟩:=I.tuple hB;obtain⟨⟨c2,dd2,d2,sl2⟩,ho2,hc2,n2,hd2⟩:=id pl;obtain rfl:c2=.type "tuple":=hc2;obtain rfl:d2=.seq its2.toArray n2:=hd2;have hl2:=r2.length;have hsz:its.toArray.size+its2.toArray.size<=sizeLine:=by rw[Wb,Wb];lia
 have hlong:¬ (!its.toArray.isEmpty&&Builtin.List.listTooLong (its.toArray.size+its2.toArray.size))=true:=by
  rw[ve hsz,Bool.and_false];exact Qc
 refine AL F.slot_list_extend ⟨_,e,rfl⟩ F.entry_list_extend (F.args_list_extend_2 _ _)
  (pP l its.toArray n b its2.toArray n2 dd2 sl2 hlong (by rw[Wb];lia) (by lia)) ⟨e,ho2,?_⟩
 refine⟨.non,_,I.lset (its':=its++its2) hH e (by simp) (r.append r2) ?_,rfl,q⟩
 rw[Qb];lia
def Hk(K:Aa):V->List V->Hp->VK->Prop:=fun x vs H Q=>yb x vs H Q∨Hj K x vs H Q
def wU(h:X.K=K)(_:X.calm=true):MtM X "list.extend" (Hk K):=by
 intro pins s σ H x vs v us Q I rx rv hh;rcases hh with hh|hh
 ·exact zG pins s σ H x vs v us Q I rx rv hh
 ·exact FQ h pins s σ H x vs v us Q I rx rv hh
def t9:D->List D->Option (D×D)
 | .lst xs,[.lst ys]=>if xs.length+ys.length<=1000000 then some (.non,.lst (xs++ys)) else none
 | .lst xs,[.tup ys]=>if xs.length+ys.length<=1000000 then some (.non,.lst (xs++ys)) else none
 | _,_=>none
theorem sN:RdM K "list" (Hk K) isL t9:=⟨fun Y H p x h e=>tyL h e,fun Y H p x vs ds y x' Q hp ho el e q=>by
 cases x with
 | lst xs =>
  cases ds with
  | nil=>cases e
  | cons d ds =>
   cases ds with
   | cons _ _=>cases d<;>cases e
   | nil =>
    obtain⟨ws,h1,h2⟩:=ho;obtain⟨v,r,rfl,da,el⟩:=el.uncons;obtain rfl:=el.unnil;cases d with
    | lst ys =>
     obtain⟨c,e⟩:=aF e;cases e;cases da with
     | @lst a us _ g0 g1 g2 g3=>exact .inl ⟨p,a,ws,us,rfl,rfl,h1,g1,by rw[h2.1,g2];exact few c,q .non _ .non ⟨_,b8,(h2.app ⟨g2,g3⟩).upd hp⟩⟩
    | tup ys =>
     obtain⟨c,e⟩:=aF e;cases e;cases da with
     | @tup a us _ g1 g2 g3=>exact .inr ⟨p,a,ws,us,rfl,rfl,h1,g1.sq,by rw[h2.1,g2];exact few c,q .non _ .non ⟨_,b8,(h2.app ⟨g2,g3⟩).upd hp⟩⟩
    | _=>cases e
 | _=>cases e⟩
def KW(K:Aa)(tl:TE):TI:=fun σ H R=>xU K tl σ H R∨(HM K tl σ H R∨Ih tl σ H R)
def bv(h:X.K=K)(hl:PE X l tl):PI X tg l (KW K tl):=by
 subst h;intro pins s σ H R I hh;rcases hh with hh|hh|hh
 ·exact Fo hl pins s σ H R I hh
 ·exact HN hl pins s σ H R I hh
 ·exact Ii hl pins s σ H R I hh
def fIA(fe:FE):FI:=fun st=>match fIL fe st with
 | some z=>some z
 | none=>match fIT fe st with
  | some z=>some z
  | none=>fIS fe st
set_option tactic.hygienic true in
def DG(h:RdE K te fe):RdI K (KW K te) (fIA fe):=by
 intro st σ H O Z R E items st' e q;unfold fIA at e;split at e
 ·rename_i z ez
  cases e;exact .inl (FB h st σ H O Z R E items st' ez q)
 ·split at e
  ·rename_i z ez
   cases e;exact .inr (.inl (Ix h st σ H O Z R E items st' ez q))
  ·exact .inr (.inr (Iz h st σ H O Z R E items st' e q))
def leS(a b:Str):Prop:=¬ b.cps.toList<a.cps.toList
instance (a b:Str):Decidable (leS a b):=by unfold leS;infer_instance
def DH(h:leS a b)(g:leS b a):a=b:=by
 unfold leS at *;rw[List.not_lt]at *;have e:=List.le_antisymm h g;cases a;cases b;exact congrArg Str.mk (Array.toList_inj.mp e)
def boot_sorted:bootBuiltins "sorted"=some (.builtin "sorted"):=by decide +kernel
def FR(xs:List Str):El K Y H (xs.map V.str) (xs.map D.str):=by
 refine⟨by simp,fun i v d h1 h2=>?_⟩
 rw[Qd]at h1 h2;obtain⟨c,e1,rfl⟩:=Yd.mp h1;rw[e1]at h2;obtain rfl:=Option.some.inj h2;exact .str _
end
end VF
namespace VF
open PySem L2
section
variable {K:Aa}
def cZ{X:Cx}(hg:Gl X x)(hm:X.mg x=none)(hv:bootBuiltins x=some (.type T))(hn:x≠"__name__":=by decide)(hd:(x == ("__debug__":Str))=false:=by decide):PE X (.Name x pos) (tC (.ty T)):=Fn hg hm hv rfl hn hd
def yA(K:Aa):Sp:=fun vs H Q _=>∃(a:Addr)(ns:List Int),vs=[.ref a]/\SqL K H a (ns.map V.int)/\ns.length<=63/\∀H',Q (.bl true) H'
end
end VF
namespace VF
open PySem L2
inductive Dp:Nat->D->Prop where
 | bl (n:Nat) (b:Bool):Dp (n+1) (.bl b)
 | int (n:Nat) (i:Int):Dp (n+1) (.int i)
 | str (n:Nat) (x:Str):Dp (n+1) (.str x)
 | non (n:Nat):Dp (n+1) .non
 | tup {n:Nat} {ds:List D}:ds.length<=1000000->(∀d∈ds,Dp n d)->Dp (n+1) (.tup ds)
 | lst {n:Nat} {ds:List D}:ds.length<=1000000->(∀d∈ds,Dp n d)->Dp (n+1) (.lst ds)
open Classical in
noncomputable def eJ(n:Nat):List D->Option Rz
 | [u,v]=>if u=v/\Dp n u then some (.bl true,false) else none
 | _=>none
open Classical in
def qB(h:Dp n u):eJ n [u,u]=some (.bl true,false):=by
 show(if u=u/\Dp n u then some (D.bl true,false) else none)=_;rw[Ag ⟨rfl,h⟩]
set_option tactic.hygienic true in
def sO(h:eJ n ds=some z):∃u,ds=[u,u]/\Dp n u/\z=(.bl true,false):=by
 unfold eJ at h;split at h
 ·rename_i u v
  by_cases c:u=v/\Dp n u
  ·rw[Ag c]at h;obtain⟨rfl,c⟩:=c;exact⟨u,rfl,c,(Option.some.inj h).symm⟩
  ·rw[Al c]at h;cases h
 ·cases h
end VF
namespace VF
open PySem L2
section
variable {st st1 st2 st3 s s1 s2:En}{r r1 r2:Rs}{d d1 d2 x y x':D}{ds es:List D}{rs:List Rs}{z:Rz}{o:Ot}{i k n m:Nat}{F G B:FS}{fa fb fe fi':FE}{fr:FA}{f g:FT}{fi:FI}{fg:FG}{caps:List Nat}
def am(h:F st=some (.nx s))(h2:G s=a):aA F G st=a:=by simp only[aA,h,Xa];exact h2
def bJ(h:F st=some (.rt r s)):aA F G st=some (.rt r s):=by simp only[aA,h,Xa]
def dm(h:f st=some (true,s))(h2:F s=a):sIf f F G st=a:=by simp only[sIf,h,Xa,if_true];exact h2
def bq(h:f st=some (false,s))(h2:G s=a):sIf f F G st=a:=by simp only[sIf,h,Xa,We,if_false];exact h2
def bm(h:fe st=some (.d x,s))(h2:tW i (.v x) s=some s1):be fe i st=some (.nx s1):=by simp only[be,h,Xa,h2]
def cO(h:fe st=some (.f x,s))(h2:tW i (.o x) s=some s1):be fe i st=some (.nx s1):=by simp only[be,h,Xa,h2]
def iq(h:fe st=some (r,s)):kE fe st=some (.nx s):=by simp only[kE,h,Xa]
def av(h:fe st=some (r,s)):aM fe st=some (.rt r s):=by simp only[aM,h,Xa]
def aq(h1:fa st=some (r1,s1))(h2:fb s1=some (r2,s2))(h3:cont s2 r1=some d1)(h4:cont s2 r2=some d2)(h5:b d1 d2=some z)(hz:mk z=r:=by rfl):fOp b fa fb st=some (r,s2):=by
 simp only[fOp,h1,h2,h3,h4,h5,hz,Xa]
def ad(h1:fa st=some (r,s1))(h2:fr s1=some (rs,s2)):aa fa fr st=some (r::rs,s2):=by simp only[aa,h1,h2,Xa]
def aI(h1:fr st=some (rs,s1))(h2:eH s1 rs=some ds)(h3:b ds=some z)(hz:mk z=r:=by rfl):fCB b fr st=some (r,s1):=by simp only[fCB,h1,h2,h3,hz,Xa]
def aW(h1:fr st=some (rs,s1))(h2:eZ rs s1=some (ds,s2))(h3:b ds=some z)(hz:mk z=r:=by rfl):bL b fr st=some (r,s2):=by simp only[bL,h1,h2,h3,hz,Xa]
def az(h1:fr st=some (rs,s1))(h2:eH s1 rs=some ds)(h3:b ds=some (d,false))(h4:d.isSc=true):aG b fr st=some (.d d,s1):=by
 simp only[aG,h1,h2,h3,Xa,h4];rfl
def aX{t t0:Sl}(h0:st[i]?=some t0)(h00:t0.ow=some x0)(h1:fr st=some (rs,s1))(h2:eZ rs s1=some (ds,s2))(h3:s2[i]?=some t)(h4:t.ow=some x)(h5:b x ds=some (z,x'))(hz:mk z=r:=by rfl)(h6:s2.set i (t.put x')=st3:=by rfl):fIO b i fr st=some (r,st3):=by
 simp only[fIO,h0,h00,h1,h2,h3,h4,h5,h6,hz,Xa]
def wV{t t0:Sl}(h0:st[i]?=some t0)(h00:t0.ow=some x0)(hk:ok x0=true)(h1:fr st=some (rs,s1))(h2:eZ rs s1=some (ds,s2))(h3:s2[i]?=some t)(h4:t.ow=some x)(h5:mm x ds=some (y,x'))(h6:s2.set i (t.put x')=st3:=by rfl):fM ok mm i fr st=some (.d y,st3):=by
 simp only[fM,h0,h00,hk,h1,h2,h3,h4,h5,h6,Xa,if_true]
def aC(h:fe st=some (r,s))(h2:tru s r=some c):ax fe st=some (c,s):=by simp only[ax,h,h2,Xa]
def f9(h:f st=some (c,s)):eI f st=some (!c,s):=by simp only[eI,h,Xa]
def DI(h:f st=some (true,s))(h2:g s=a):nk f g st=a:=by simp only[nk,h,Xa,if_true];exact h2
def Hl(h:f st=some (false,s)):nk f g st=some (false,s):=by simp only[nk,h,Xa,We,if_false]
def nC(h:f st=some (false,s))(h2:g s=a):kz f g st=a:=by simp only[kz,h,Xa,We,if_false];exact h2
def ga(h:fa st=some (r,s))(h1:tru s r=some true)(h2:fb s=a):gn fa fb st=a:=by simp only[gn,h,h1,Xa,if_true];exact h2
def aO(h1:fi st=some (ds,s1))(h2:(t5 caps s1.length&&decide (ds.length<=1000000))=true)(h3:bB fg fc fe k ds (lW k caps s1)=some (es,s2))(h4:wb caps (s2.drop k) s1=st3:=by rfl):bt k caps fi fg fc fe st=some (.f (.lst es),st3):=by
 simp only[bt,h1,Xa];rw[Ag h2,h3,← h4];rfl
def oE(h1:fi st=some (ds,s1))(h2:md fg B ds s1=some o):rP fi fg B st=some o:=by simp only[rP,h1,Xa];exact h2
def ay(h0:ds.length=m)(h1:F (mz n ds)=some o)(h2:fin o=some z):aS F n m ds=some z:=by
 simp only[aS,Ag h0,h1,Xa];exact h2
def bb(h0:ds.length+1=m)(h1:F (iN n x ds)=some o)(h2:Hf o=some w):cB F n m x ds=some w:=by
 simp only[cB,Ag h0,h1,Xa];exact h2
theorem lD(h:D->D):∀(items:List D)(sb:En),(∀x∈items,∃s1 s2 y s3 s4,fg x sb=some s1/\fc s1=some (true,s2)/\fe s2=some (y,s3)/\esc y s3=some (h x,s4)/\rst k s4=sb)->bB fg fc fe k items sb=some (items.map h,sb)
 | [],sb,_=>rfl
 | x::r,sb,hh=>by
  obtain⟨s1,s2,y,s3,s4,e1,e2,e3,e4,e5⟩:=hh x Zc;have ih:=lD h r sb fun z hz=>hh z (Vb _ hz);simp only[bB,e1,e2,e3,e4,Xa,if_true,e5,ih,Xf]
theorem i5(I:List D->En->Prop)(step:∀(pre:List D)(x:D)(sb:En),I pre sb->∃s1 s2 y s3 d s4,fg x sb=some s1/\fc s1=some (true,s2)/\fe s2=some (y,s3)/\esc y s3=some (d,s4)/\I (pre++[d]) (rst k s4)) :
  ∀(items:List D)(pre:List D)(sb:En),I pre sb->∃ds sf,bB fg fc fe k items sb=some (ds,sf)/\ds.length=items.length/\I (pre++ds) sf
 | [],pre,sb,h=>⟨[],sb,rfl,rfl,by rw[Vh];exact h⟩
 | x::r,pre,sb,h=>by
  obtain⟨s1,s2,y,s3,d,s4,e1,e2,e3,e4,e5⟩:=step pre x sb h;obtain⟨ds,sf,e6,e7,e8⟩:=i5 I step r (pre++[d]) (rst k s4) e5;refine⟨d::ds,sf,?_,by simp[e7],by rw[Zj]at e8;exact e8⟩
  simp only[bB,e1,e2,e3,e4,Xa,if_true,e6]
theorem ua(I:Nat->En->Prop)(Out:En->Prop)(step:∀(m:Nat)(st:En),I m st->(∃s1,f st=some (false,s1)/\Out s1)∨∃s1 s2 m',f st=some (true,s1)/\B s1=some (.nx s2)/\m'<m/\I m' s2) :
  ∀(n m:Nat)(st:En),m<n->I m st->∃sf,sWh f B n st=some (.nx sf)/\Out sf
 | 0,m,st,hn,_=>absurd hn (Nat.not_lt_zero _)
 | n+1,m,st,hn,h=>by
  rcases step m st h with⟨s1,e1,ho⟩|⟨s1,s2,m',e1,e2,hm,h2⟩
  ·exact⟨s1,by simp only[sWh,e1,Xa,We,if_false],ho⟩
  ·obtain⟨sf,e3,ho⟩:=ua I Out step n m' s2 (by lia) h2
   exact⟨sf,by simp only[sWh,e1,e2,Xa,if_true];exact e3,ho⟩
end
end VF
namespace VF
open PySem L2
def ix_str{z:Str}(hz:z.length<=1000000)(h:atI z.cps.toList i=some c):bIx (.str z) (.int i)=some (.str ⟨#[c]⟩,false):=by
 have e1:Dq (.str z) (.int i)=none:=rfl;have e2:FL (.str z) (.int i)=none:=rfl;have e3:IO (.str z) (.int i)=some (.str ⟨#[c]⟩,false):=by
  show(if z.length<=1000000 then(atI z.cps.toList i).bind (fun c=>some (D.str ⟨#[c]⟩,false)) else none)=_;rw[Ag hz,h];rfl
 unfold bIx orD;rw[e1,e2];exact e3
def gp{a b:Str}(h:a.length+b.length<=1000000):cz (.str a) (.str b)=some (.str (a++b),false):=by
 have e1:sI (.str a) (.str b)=none:=rfl;have e2:sJ (.str a) (.str b)=some (.str (a++b),false):=by
  show(if a.length+b.length<=1000000 then some (D.str (a++b),false) else none)=_;rw[Ag h]
 unfold cz orD;rw[e1,e2]
def FU{a:Str}(h:0<=n/\n<=1000/\a.length<=1000):nA (.str a) (.int n)=some (.str (Txt.mul a n),false):=by
 have e1:yq (.str a) (.int n)=none:=rfl;have e2:Dm (.str a) (.int n)=some (.str (Txt.mul a n),false):=by
  show(if 0<=n/\n<=1000/\a.length<=1000 then some (D.str (Txt.mul a n),false) else none)=_;rw[Ag h]
 unfold nA orD;rw[e1,e2]
theorem gM:∀xs:List Str,gL (xs.map D.str)=some xs
 | []=>rfl
 | x::r=>by
  show(gL (r.map D.str)).bind (fun xs=>some (x::xs))=_;rw[gM r];rfl
theorem lE:∀xs:List Str,ph (xs.map D.str)=some (xs.map V.str)
 | []=>rfl
 | x::r=>by
  show(ph (r.map D.str)).bind (fun vs=>some (V.str x::vs))=_;rw[lE r];rfl
theorem sP:∀n:Nat,nB (List.replicate n (D.bl true))=some (List.replicate n true)
 | 0=>rfl
 | n+1=>by
  show(nB (List.replicate n (D.bl true))).bind (fun bs=>some (true::bs))=_;rw[sP n];rfl
def kI(n:Nat):pO [.lst (List.replicate n (D.bl true))]=some (.bl true,false):=by
 show(nB (List.replicate n (D.bl true))).bind (fun bs=>some (D.bl (bs.all id),false))=_;rw[sP];show some (D.bl ((List.replicate n true).all id),false)=_;have:(List.replicate n true).all id=true:=by
  rw[Qf];intro b hb;exact BN hb
 rw[this]
def Hm{xs:List Str}:bIn (.str x) (.lst (xs.map D.str))=some (.bl (decide (x∈xs)),false):=by
 have e1:wP false (.str x) (.lst (xs.map D.str))=none:=rfl;have e2:zT false (.str x) (.lst (xs.map D.str))=some (.bl (decide (x∈xs)),false):=by
  show(ph (xs.map D.str)).bind (fun ws=>some (D.bl (inV (.str x) ws),false))=_;rw[lE];show some (D.bl (inV (.str x) (xs.map V.str)),false)=_;have e:inV (.str x) (xs.map V.str)=decide (x∈xs):=by
   unfold inV;rw[List.any_map];induction xs with
   | nil=>rfl
   | cons y r ih =>
    rw[Bg,ih rfl];show((y == x)||decide (x∈r))=_;by_cases e:y=x
    ·subst e;simp
    ·have e':¬ x=y:=fun z=>e z.symm;simp[e,e']
  rw[e]
 unfold bIn orD;rw[e1];exact e2
def DJ{z:Str}(h:z.length<=1000000):bSl (.str z) lo hi=some (.str (Txt.slice z lo hi),false):=by
 have e1:zU (.str z) lo hi=none:=rfl;have e2:pN (.str z) lo hi=none:=rfl;have e3:Dr (.str z) lo hi=some (.str (Txt.slice z lo hi),false):=by
  show(if z.length<=1000000 then some (D.str (Txt.slice z lo hi),false) else none)=_;rw[Ag h]
 unfold bSl orS;rw[e1,e2];exact e3
section
variable {st s s1 s2 s3:En}{r r1:Rs}{rs:List Rs}{d d0 d1:D}{ds:List D}{z:Rz}{fe fo:FE}{fa:FA}{fl fh:FO}
def cE(h1:fo st=some (r1,s1))(h2:cont s1 r1=some d0)(h3:IR T d0=true)(h4:fa s1=some (rs,s2))(h5:cont s2 r1=some d)(h6:eH s2 rs=some ds)(h7:b d ds=some z)(hz:mk z=r:=by rfl):fBM T b fo fa st=some (r,s2):=by
 simp only[fBM,h1,h2,h3,h4,h5,h6,h7,hz,Xa,if_true]
def eK{j:Int}(h1:fa st=some (rs,s1))(h2:eH s1 rs=some [.int j])(h3:-(2 ^ 62)<=j/\j<2 ^ 62):nq fa st=some (rng 0 j.toNat,s1):=by
 simp only[nq,h1,h2,Xa,Iy];rw[Ag h3]
def dN(h1:fe st=some (r,s1))(h2:fl s1=some (lo,s2))(h3:fh s2=some (hi,s3))(h4:cont s3 r=some d)(h5:b d lo hi=some z)(hz:mk z=r':=by rfl):fSl b fe fl fh st=some (r',s3):=by
 simp only[fSl,h1,h2,h3,h4,h5,hz,Xa]
def KY{f:FT}{fa fb:FE}{a:Option (Rs×En)}(h:f st=some (true,s))(h2:fa s=a):fIf f fa fb st=a:=by simp only[fIf,h,Xa,if_true];exact h2
def KZ{f:FT}{fa fb:FE}{a:Option (Rs×En)}(h:f st=some (false,s))(h2:fb s=a):fIf f fa fb st=a:=by simp only[fIf,h,Xa,We,if_false];exact h2
def cV(h1:fe st=some (r,s1))(h2:esc r s1=some (.tup ds,s2)):fIA fe st=some (ds,s2):=by
 have e1:fIL fe st=none:=by simp only[fIL,h1,h2,Xa,D.its,Option.bind_none]
 have e2:fIT fe st=some (ds,s2):=by simp only[fIT,h1,h2,Xa,D.itt]
 unfold fIA;rw[e1,e2]
def bO(h1:fa st=some (rs,s1))(h2:eZ rs s1=some (ds,s2))(h3:ds.length<=1000000):cr fa st=some (.d (.tup ds),s2):=by
 simp only[cr,h1,h2,Xa];rw[Ag h3]
end
theorem kJ(all:List D)(I:List D->En->Prop)(step:∀(gone:List D)(x:D)(rest:List D)(st:En),all=gone++x::rest->I gone st->∃s1 s2,fg x st=some s1/\B s1=some (.nx s2)/\I (gone++[x]) s2) :
  ∀(items gone:List D)(st:En),all=gone++items->I gone st->∃sf,md fg B items st=some (.nx sf)/\I all sf
 | [],gone,st,ha,h=>⟨st,rfl,by rw[ha,Vh];exact h⟩
 | x::r,gone,st,ha,h=>by
  obtain⟨s1,s2,e1,e2,e3⟩:=step gone x r st ha h;obtain⟨sf,e4,e5⟩:=kJ all I step r (gone++[x]) s2 (by rw[Zj];exact ha) e3
  refine⟨sf,?_,e5⟩;simp only[md,e1,e2,Xa];exact e4
end VF
namespace VF
open PySem L2
section
variable {K:Aa}
def b1(g:D->Option D):List D->Option Rz
 | [d]=>(g d).map fun r=>(r,false)
 | _=>none
theorem wW(h:∀(Y:AS)(H:Hp)(v:V)(d o:D)(Q:VK),BA K Y H v d->g d=some o->(∀u,DA K Y H u o->Q u H)->r [v] H Q):RdCB K r (b1 g):=by
 intro Y H xs ds z Q lv bs e q;cases bs with
 | nil=>cases e
 | @cons v vs d ds c1 bs =>
  cases bs with
  | cons _ _=>cases e
  | nil =>
   obtain⟨o,eo,rfl⟩:=Yd.mp e;exact h Y H v d o Q c1 eo fun u hu=>q u H (Same.refl H) hu
def yB:D->Option D
 | .int i=>if i.natAbs.log2<1920 then some (.str (toString i)) else none
 | _=>none
theorem rc_strI:RdCB K (fun xs H Q=>∃i:Int,xs=[.int i]/\i.natAbs.log2<1920/\Q (.str (toString i)) H) (b1 yB):=wW fun Y H v d o Q c e q=>by
 cases d with
 | int i =>
  obtain⟨hz,e⟩:=aF e;cases e;exact⟨i,by rw[show v=V.int i from c],hz,q _ (.str _)⟩
 | _=>cases e
end
end VF
namespace L2
open PySem PySem.Spec PyProof.Rows
section
variable {X:Cx}{a:Expr}{ta:TE}{pos:Pos}
def K0:V->Hp->VK->Prop:=fun x H Q=>(∃z:Str,x=.str z/\z.length<=sizeLine/\Q (.str z) H)∨∃i:Int,x=.int i/\i.natAbs.log2<1920/\Q (.str (toString i)) H
def oF(ha:PE X a ta):PE X (.FormattedValue a (-1) none pos) (tUn K0 ta):=by
 intro pins s σ H Q I h;refine wpAny_FormattedValue_plain (thn (ha pins s σ H _ I h) fun v s1 zz9=>?_);obtain⟨x,H1,I1,r1,q1⟩:=zz9;rcases q1 with⟨z,rfl,hz,q⟩|⟨i,rfl,hz,q⟩
 ·obtain⟨t,rfl⟩:=r1;exact wpAny_formatField_str ⟨.str z,H1,I1,⟨_,rfl⟩,q⟩ ⟨.str z,H1,I1.tok _,⟨_,rfl⟩,q⟩ hz
 ·obtain⟨t,rfl⟩:=r1;exact wpAny_formatField_int hz ⟨.str _,H1,I1.tok _,⟨_,rfl⟩,q⟩
abbrev TJ:=Str->TE
def PJ(X:Cx)(es:List Expr)(t:TJ):Prop :=
 ∀(acc:Str)(pins:List (Addr×Obj))(s:Shared)(σ:St)(H:Hp)(Q:VK),Inv X pins σ H s->t acc σ H Q ->
  Joins (model X.prog X.w) X.A X.xe (evalEach es X.env) acc (fun out s₁=>out.length<=sizeLine/\EP X pins σ Q (.str out s₁.toks) { s₁ with toks:=s₁.toks+1 }) s
def tJn:TJ:=fun acc _ H Q=>acc.length<=sizeLine/\Q (.str acc) H
def tJc(ta:TE)(t:TJ):TJ:=fun acc σ H Q=>ta σ H fun x H1=>∃y:Str,x=.str y/\(acc++y).length<=sizeLine/\t (acc++y) σ H1 Q
def ub:PJ X [] tJn:=fun acc pins s σ H Q I h=>⟨h.1,.str acc,H,I.tok _,⟨_,rfl⟩,h.2⟩
def fO(ha:PE X a ta)(hr:PJ X es t):PJ X (a::es) (tJc ta t):=by
 intro acc pins s σ H Q I h;rw[arm_evalEach_cons];refine thn (ha pins s σ H _ I h) fun v s1 zz9=>?_;obtain⟨x,H1,I1,r1,q1⟩:=zz9;obtain⟨y,rfl,hz,q⟩:=q1;obtain⟨t,rfl⟩:=r1;exact⟨y,t,rfl,hz,hr _ pins s1 σ H1 Q I1 q⟩
def tJ(t:TJ):TE:=t Str.empty
def pZ(h:PJ X (a::b::es) t):PE X (.JoinedStr (a::b::es) pos) (tJ t):=fun pins s σ H Q I q=>wpAny_JoinedStr (h Str.empty pins s σ H Q I q)
def Hn:List V->Hp->VK->Prop:=fun xs H Q=>(∃i:Int,xs=[.int i]/\i.natAbs.log2<1920/\Q (.str (toString i)) H)∨∃z:Str,xs=[.str z]/\Q (.str z) H
def cF:CallR X (.type "str") Hn:=by
 intro pins s σ H xs us Q I r h;rcases h with h|⟨z,rfl,q⟩
 ·exact tK pins s σ H xs us Q I r h
 ·obtain⟨u,rfl,t,rfl⟩:=vals1 r;exact PySem.P.str_of_str ⟨.str z,H,I,⟨_,rfl⟩,q⟩
end
end L2
namespace VF
open PySem L2
section
variable {K:Aa}
def vy:D->Option Rz
 | .str z=>if z.length<=1000000 then some (.str z,false) else none
 | .int i=>if i.natAbs.log2<1920 then some (.str (toString i),false) else none
 | _=>none
theorem I9:Im K K0 vy:=by
 intro Y H x d z Q lv c e q;cases d with
 | str y =>
  obtain⟨hz,e⟩:=aF e;cases e;exact .inl ⟨y,c,few hz,q _ H (Same.refl H) (.str _)⟩
 | int i =>
  obtain⟨hz,e⟩:=aF e;cases e;exact .inr ⟨i,c,hz,q _ H (Same.refl H) (.str _)⟩
 | _=>cases e
def RdJ(K:Aa)(t:TJ)(f:Str->FE):Prop:=∀acc,RdE K (t acc) (f acc)
def fJn:Str->FE:=fun acc st=>if acc.length<=1000000 then some (.d (.str acc),st) else none
def fJc(fa:FE)(f:Str->FE):Str->FE:=fun acc st=>(fa st).bind fun x=>match cont x.2 x.1 with
 | some (.str y)=>if (acc++y).length<=1000000 then f (acc++y) x.2 else none
 | _=>none
def fJ(f:Str->FE):FE:=f Str.empty
def K1:RdJ K tJn fJn:=by
 intro acc st σ H O Z Q E r st' e q;obtain⟨hz,e⟩:=aF e;cases e;exact⟨few hz,q _ H O (Ext.refl O H) (Kp.refl _) E (.str _) (by trivial)⟩
set_option tactic.hygienic true in
def Ho(ha:RdE K ta fa)(h:RdJ K t f):RdJ K (tJc ta t) (fJc fa f):=by
 intro acc st σ H O Z Q E r st' e q;refine bsP e fun r1 st1 e1 e=>?_;refine ha st σ H O Z _ E r1 st1 e1 fun v1 H1 O1 x1 k1 E1 rv1 w1=>?_;dsimp only at e;split at e
 ·rename_i y e3
  have b1:v1=.str y:=rv1.ba E1 e3;obtain⟨hz,e⟩:=aF e;exact⟨y,b1,few hz,h (acc++y) st1 σ H1 O1 Z Q E1 r st' e fun v H2 O2 x2 k2 E2 rv w2=>q v H2 O2 (x1.trans x2) (k1.trans k2) E2 rv (w2.back x1)⟩
 ·cases e
def K2(h:RdJ K t f):RdE K (tJ t) (fJ f):=h Str.empty
def K3:D->Option D
 | .str z=>some (.str z)
 | _=>none
def eW:=orC (b1 yB) (b1 K3)
theorem FV:RdCB K Hn eW:=rc_strI.or (wW fun Y H v d o Q c e q=>by
 cases d with
 | str z=>cases e;exact⟨z,by rw[show v=V.str z from c],q _ (.str _)⟩
 | _=>cases e)
end
end VF
namespace VF
open PySem L2
inductive Pl:Nat->D->Prop where
 | non (n:Nat):Pl (n+1) .non
 | int (n:Nat) (i:Int):Pl (n+1) (.int i)
 | str (n:Nat) (x:Str):Pl (n+1) (.str x)
 | tup {n:Nat} {ds:List D}:(∀d∈ds,Pl n d)->Pl (n+1) (.tup ds)
 | lst {n:Nat} {ds:List D}:(∀d∈ds,Pl n d)->Pl (n+1) (.lst ds)
inductive RH(h:Heap):Value->D->Prop where
 | non:RH h .none .non
 | int (i:Int) (t:Tok):RH h (.int i t) (.int i)
 | str (x:Str) (t:Tok):RH h (.str x t) (.str x)
 | tup {a:Addr} {its:List Value} {ds:List D}:h.IsTuple a its.toArray->its.length=ds.length->(∀(i:Nat) u d,its[i]?=some u->ds[i]?=some d->RH h u d)->RH h (.ref a) (.tup ds)
 | lst {a:Addr} {its:List Value} {ds:List D}:h.IsList a its.toArray->its.length=ds.length->(∀(i:Nat) u d,its[i]?=some u->ds[i]?=some d->RH h u d)->RH h (.ref a) (.lst ds)
section
variable {X:Cx}{K:Aa}{Y:AS}{H:Hp}{s:Shared}{pins:List (Addr×Obj)}{σ:St}
theorem Pl.up(h:Pl n d):Pl (n+1) d:=by
 induction h with
 | non n=>exact .non _
 | int n i=>exact .int _ i
 | str n x=>exact .str _ x
 | tup _ ih=>exact .tup ih
 | lst _ ih=>exact .lst ih
theorem eL:∀{vs:List V}{us:List Value},Vals vs us->∀(i:Nat) u,us[i]?=some u->∃v,vs[i]?=some v/\RelV v u
 | _,_,.nil,i,u,h=>by simp at h
 | v::_,w::_,.cons r rs,0,u,h=>by
  have e:w=u:=by simpa using h
  exact⟨v,rfl,e ▸ r⟩
 | _::_,_::_,.cons r rs,i+1,u,h=>by
  obtain⟨v,h1,h2⟩:=eL rs i u (by simpa using h)
  exact⟨v,by simpa using h1,h2⟩
theorem DA.rh(h:DA K Y H v d)(p:Pl n d)(I:Inv X pins σ H s)(hK:X.K=K):∀{u:Value},RelV v u->RH s.heap u d:=by
 induction h generalizing n with
 | non=>intro u r;cases r;exact .non
 | bl b=>cases p
 | int i=>intro u r;obtain⟨t,rfl⟩:=r;exact .int i t
 | str x=>intro u r;obtain⟨t,rfl⟩:=r;exact .str x t
 | ty n=>cases p
 | fl _ _ _ _=>cases p
 | dk _ _ _ _ _=>cases p
 | dt _ _ _ _ _ _=>cases p
 | @tup a vs ds h1 h2 h3 ih =>
  intro u r;cases r;cases p with
  | tup p =>
   obtain⟨its,r,t,_⟩:=I.tuple (hK ▸ h1.sq);refine .tup t (r.length.symm.trans h2) fun i u d e1 e2=>?_;obtain⟨v,e3,rv⟩:=eL r i u e1;exact ih i v d e3 e2 (p d (Xc e2)) rv
 | @lst a vs ds h0 h1 h2 h3 ih =>
  intro u r;cases r;cases p with
  | lst p =>
   obtain⟨its,r,t,_⟩:=I.list (show SqL X.K H a vs from .inl (.inl h1));refine .lst t.isList (r.length.symm.trans h2) fun i u d e1 e2=>?_;obtain⟨v,e3,rv⟩:=eL r i u e1;exact ih i v d e3 e2 (p d (Xc e2)) rv
theorem BA.rh(h:BA K Y H v d)(p:Pl n d)(I:Inv X pins σ H s)(hK:X.K=K)(ru:RelV v u):RH s.heap u d:=by
 cases p with
 | non=>cases (show v=.non from h);cases ru;exact .non
 | int _ i=>cases (show v=.int i from h);obtain⟨t,rfl⟩:=ru;exact .int i t
 | str _ x=>cases (show v=.str x from h);obtain⟨t,rfl⟩:=ru;exact .str x t
 | tup p =>
  obtain⟨a,vs,rfl,h1,el⟩:=h;cases ru;obtain⟨its,r,t,_⟩:=I.tuple (hK ▸ h1.sq);refine .tup t (r.length.symm.trans el.1) fun i u d e1 e2=>?_;obtain⟨v,e3,rv⟩:=eL r i u e1;exact(el.2 i v d e3 e2).rh (p d (Xc e2)) I hK rv
 | lst p =>
  obtain⟨a,vs,rfl,h1,el⟩:=h;cases ru;obtain⟨its,r,t,_⟩:=I.list (show SqL X.K H a vs from .inl (.inl h1));refine .lst t.isList (r.length.symm.trans el.1) fun i u d e1 e2=>?_;obtain⟨v,e3,rv⟩:=eL r i u e1;exact(el.2 i v d e3 e2).rh (p d (Xc e2)) I hK rv
def B1{h:Heap}(h1:h.IsTuple a x)(h2:h.IsTuple a y):x=y:=by
 obtain⟨o,e1,_,n,d1⟩:=h1;obtain⟨o',e2,_,n',d2⟩:=h2;rw[e1]at e2;cases e2;rw[d1]at d2;cases d2;rfl
def wX{h:Heap}(h1:h.IsList a x)(h2:h.IsList a y):x=y:=by
 obtain⟨o,e1,_,n,d1⟩:=h1;obtain⟨o',e2,_,n',d2⟩:=h2;rw[e1]at e2;cases e2;rw[d1]at d2;cases d2;rfl
def vz{h:Heap}(h1:h.IsList a x)(h2:h.IsTuple a y):False:=by
 obtain⟨o,e1,c1,_⟩:=h1;obtain⟨o',e2,c2,_⟩:=h2;rw[e1]at e2;cases e2;rw[c1]at c2;injection c2 with c2;exact absurd c2 (by decide)
theorem RH.inj(r:RH h u d):∀{d':D},RH h u d'->d=d':=by
 induction r with
 | non=>intro d' r';cases r';rfl
 | int i t=>intro d' r';cases r';rfl
 | str x t=>intro d' r';cases r';rfl
 | @tup a its ds t hl _ ih =>
  intro d' r';cases r' with
  | @tup _ its' ds' t' hl' f =>
   have e:its=its':=by simpa using B1 t t'
   subst e;have:ds=ds':=by
    refine BD (hl.symm.trans hl') fun i h1 h2=>?_;exact ih i its[i] ds[i] (Ya (by lia)) (Ya h1) (f i its[i] ds'[i] (Ya (by lia)) (Ya h2))
   rw[this]
  | lst t' _ _=>exact(vz t' t).elim
 | @lst a its ds t hl _ ih =>
  intro d' r';cases r' with
  | @lst _ its' ds' t' hl' f =>
   have e:its=its':=by simpa using wX t t'
   subst e;have:ds=ds':=by
    refine BD (hl.symm.trans hl') fun i h1 h2=>?_;exact ih i its[i] ds[i] (Ya (by lia)) (Ya h1) (f i its[i] ds'[i] (Ya (by lia)) (Ya h2))
   rw[this]
  | tup t' _ _=>exact(vz t t').elim
open Classical in
def DK{xs ys:List D}(h:xs.length=ys.length):((List.range xs.length).all fun j=>decide (xs[j]?=ys[j]?))=decide (xs=ys):=by
 rw[Ye,Qf,decide_eq_true_eq];constructor
 ·intro e;refine List.ext_getElem? fun j=>?_;by_cases hj:j<xs.length
  ·exact Ap (e j (Xh.mpr hj))
  ·rw[Vi (by lia),Vi (by lia)]
 ·rintro rfl j _;exact Ad rfl
open Classical in
def eq3{d1 d2:D}{u1 u2:Value}{A:Around}(h:¬ d1=d2)(a:SeqAt.EqAt A s u1 u2 false)(b:SeqAt.RcAt A s u1 u2 false)(c:SeqAt.RcNeAt A s u1 u2 true) :
  SeqAt.EqAt A s u1 u2 (decide (d1=d2))/\SeqAt.RcAt A s u1 u2 (decide (d1=d2))/\SeqAt.RcNeAt A s u1 u2 (!decide (d1=d2)):=by
 rw[Ae h];exact⟨a,b,c⟩
open Classical in
def it3{s:Shared}{its its':List Value}{ds ds':List D}(hl:its.length=ds.length)(hl':its'.length=ds'.length)(f:∀(j:Nat) u d,its[j]?=some u->ds[j]?=some d->RH s.heap u d)(f':∀(j:Nat) u d,its'[j]?=some u->ds'[j]?=some d->RH s.heap u d)(p1:∀d∈ds,Pl n d)(p2:∀d∈ds',Pl n d)
  (ih:∀{d1 d2:D}{u1 u2:Value},Pl n d1->Pl n d2->RH s.heap u1 d1->RH s.heap u2 d2->SeqAt.EqAt A s u1 u2 (decide (d1=d2)))(j:Nat)(h1:j<its.toArray.size)(h2:j<its'.toArray.size):SeqAt.EqAt A s its.toArray[j] its'.toArray[j] (decide (ds[j]?=ds'[j]?)):=by
 have h1':j<its.length:=by simpa using h1
 have h2':j<its'.length:=by simpa using h2
 have e1:ds[j]?=some ds[j]:=Ya (hl ▸ h1');have e2:ds'[j]?=some ds'[j]:=Ya (hl' ▸ h2');have z:=ih (p1 _ (Xc e1)) (p2 _ (Xc e2)) (f j its[j] _ (Ya h1') e1) (f' j its'[j] _ (Ya h2') e2);have e:decide (ds[j]?=ds'[j]?)=decide (ds[j]=ds'[j]):=by rw[e1,e2,Ye];simp
 rw[e];exact z
open Classical in
def RH.eqAt:∀(n:Nat){s:Shared}{d1 d2:D}{u1 u2:Value}{A:Around},Pl n d1->Pl n d2->RH s.heap u1 d1->RH s.heap u2 d2->A.units+n<cLine ->
  SeqAt.EqAt A s u1 u2 (decide (d1=d2))/\SeqAt.RcAt A s u1 u2 (decide (d1=d2))/\SeqAt.RcNeAt A s u1 u2 (!decide (d1=d2)):=by
 intro n;induction n with
 | zero=>intro s d1 d2 u1 u2 A p;cases p
 | succ n ih =>
  intro s d1 d2 u1 u2 A p1 p2 r1 r2 hu;have hu':A.units<cLine:=by lia
  cases r1 with
  | non =>
   cases r2 with
   | non=>rw[Ad rfl];exact⟨SeqAt.EqAt.same _,SeqAt.RcAt.none_none,SeqAt.RcNeAt.none_none⟩
   | int i t=>exact eq3 (by intro z;cases z) (SeqAt.EqAt.none_int _ _) (SeqAt.RcAt.none_int _ _) (SeqAt.RcNeAt.none_int _ _)
   | str x t=>exact eq3 (by intro z;cases z) (SeqAt.EqAt.none_str _ _) (SeqAt.RcAt.none_str _ _) (SeqAt.RcNeAt.none_str _ _)
   | tup t _ _=>exact eq3 (by intro z;cases z) (SeqAt.EqAt.none_tuple t hu') (SeqAt.RcAt.none_tuple t hu') (SeqAt.RcNeAt.none_tuple t hu')
   | lst t _ _=>exact eq3 (by intro z;cases z) (SeqAt.EqAt.none_list t hu') (SeqAt.RcAt.none_list t hu') (SeqAt.RcNeAt.none_list t hu')
  | int i t =>
   cases r2 with
   | non=>exact eq3 (by intro z;cases z) (SeqAt.EqAt.int_none _ _) (SeqAt.RcAt.int_none _ _) (SeqAt.RcNeAt.int_none _ _)
   | int j t' =>
    have e:decide (D.int i=D.int j)=(i == j):=by rw[Ye];simp
    rw[e];exact⟨SeqAt.EqAt.int_int _ _ _ _,SeqAt.RcAt.int_int _ _ _ _,SeqAt.RcNeAt.int_int _ _ _ _⟩
   | str x t'=>exact eq3 (by intro z;cases z) (Bk _ _ _ _) (SeqAt.RcAt.int_str _ _ _ _) (SeqAt.RcNeAt.int_str _ _ _ _)
   | tup t' _ _=>exact eq3 (by intro z;cases z) (SeqAt.EqAt.int_tuple _ _ t' hu') (SeqAt.RcAt.int_tuple _ _ t' hu') (SeqAt.RcNeAt.int_tuple _ _ t' hu')
   | lst t' _ _=>exact eq3 (by intro z;cases z) (SeqAt.EqAt.int_list _ _ t' hu') (SeqAt.RcAt.int_list _ _ t' hu') (SeqAt.RcNeAt.int_list _ _ t' hu')
  | str x t =>
   cases r2 with
   | non=>exact eq3 (by intro z;cases z) (SeqAt.EqAt.str_none _ _) (SeqAt.RcAt.str_none _ _) (SeqAt.RcNeAt.str_none _ _)
   | int j t'=>exact eq3 (by intro z;cases z) (Bj _ _ _ _) (SeqAt.RcAt.str_int _ _ _ _) (SeqAt.RcNeAt.str_int _ _ _ _)
   | str y t' =>
    have e:decide (D.str x=D.str y)=(x == y):=by rw[Ye];simp
    rw[e];exact⟨SeqAt.EqAt.str_str _ _ _ _,SeqAt.RcAt.str_str _ _ _ _,SeqAt.RcNeAt.str_str _ _ _ _⟩
   | tup t' _ _=>exact eq3 (by intro z;cases z) (SeqAt.EqAt.str_tuple _ _ t' hu') (SeqAt.RcAt.str_tuple _ _ t' hu') (SeqAt.RcNeAt.str_tuple _ _ t' hu')
   | lst t' _ _=>exact eq3 (by intro z;cases z) (SeqAt.EqAt.str_list _ _ t' hu') (SeqAt.RcAt.str_list _ _ t' hu') (SeqAt.RcNeAt.str_list _ _ t' hu')
  | @tup a its ds t hl f =>
   cases r2 with
   | non=>exact eq3 (by intro z;cases z) (SeqAt.EqAt.tuple_none t hu') (SeqAt.RcAt.tuple_none t hu') (SeqAt.RcNeAt.tuple_none t hu')
   | int j t'=>exact eq3 (by intro z;cases z) (SeqAt.EqAt.tuple_int _ _ t hu') (SeqAt.RcAt.tuple_int _ _ t hu') (SeqAt.RcNeAt.tuple_int _ _ t hu')
   | str y t'=>exact eq3 (by intro z;cases z) (SeqAt.EqAt.tuple_str _ _ t hu') (SeqAt.RcAt.tuple_str _ _ t hu') (SeqAt.RcNeAt.tuple_str _ _ t hu')
   | lst t' _ _=>exact eq3 (by intro z;cases z) (SeqAt.EqAt.tuple_list t t' hu') (SeqAt.RcAt.tuple_list t t' hu') (SeqAt.RcNeAt.tuple_list t t' hu')
   | @tup b its' ds' t' hl' f' =>
    cases p1 with
    | tup p1 =>
    cases p2 with
    | tup p2 =>
    have it:=it3 (A:=A.in1) hl hl' f f' p1 p2 fun q1 q2 q3 q4=>(ih (A:=A.in1) q1 q2 q3 q4 (by show A.units+1+n<cLine;lia)).1
    have e:decide (D.tup ds=D.tup ds')=((List.range (min its.toArray.size its'.toArray.size)).all (fun j=>decide (ds[j]?=ds'[j]?))&&its.toArray.size == its'.toArray.size):=by
     simp only[Wb];by_cases hh:its.length=its'.length
     ·rw[← hh,Nat.min_self,hl,DK (by lia),Ye];simp
     ·have:ds≠ds':=fun z=>hh (by rw[hl,hl',z])
      rw[Ye];simp[hh,this]
    have rc:SeqAt.RcAt A s (.ref a) (.ref b) (decide (D.tup ds=D.tup ds')):=by
     rw[e];exact SeqAt.RcAt.tuples (A:=A) (e:=fun j=>decide (ds[j]?=ds'[j]?)) t t' hu' it
    have rn:SeqAt.RcNeAt A s (.ref a) (.ref b) (!decide (D.tup ds=D.tup ds')):=by
     rw[e];exact SeqAt.RcNeAt.tuples (A:=A) (e:=fun j=>decide (ds[j]?=ds'[j]?)) t t' hu' it
    refine⟨?_,rc,rn⟩;by_cases hab:a=b
    ·subst hab;have:=RH.inj (RH.tup t hl f) (RH.tup t' hl' f');rw[this,Ad rfl];exact SeqAt.EqAt.same _
    ·exact SeqAt.EqAt.of_refs hab rc
  | @lst a its ds t hl f =>
   cases r2 with
   | non=>exact eq3 (by intro z;cases z) (SeqAt.EqAt.list_none t hu') (SeqAt.RcAt.list_none t hu') (SeqAt.RcNeAt.list_none t hu')
   | int j t'=>exact eq3 (by intro z;cases z) (SeqAt.EqAt.list_int _ _ t hu') (SeqAt.RcAt.list_int _ _ t hu') (SeqAt.RcNeAt.list_int _ _ t hu')
   | str y t'=>exact eq3 (by intro z;cases z) (SeqAt.EqAt.list_str _ _ t hu') (SeqAt.RcAt.list_str _ _ t hu') (SeqAt.RcNeAt.list_str _ _ t hu')
   | tup t' _ _=>exact eq3 (by intro z;cases z) (SeqAt.EqAt.list_tuple t t' hu') (SeqAt.RcAt.list_tuple t t' hu') (SeqAt.RcNeAt.list_tuple t t' hu')
   | @lst b its' ds' t' hl' f' =>
    cases p1 with
    | lst p1 =>
    cases p2 with
    | lst p2 =>
    have it:=it3 (A:=A.in1) hl hl' f f' p1 p2 fun q1 q2 q3 q4=>(ih (A:=A.in1) q1 q2 q3 q4 (by show A.units+1+n<cLine;lia)).1
    have both:SeqAt.RcAt A s (.ref a) (.ref b) (decide (D.lst ds=D.lst ds'))/\SeqAt.RcNeAt A s (.ref a) (.ref b) (!decide (D.lst ds=D.lst ds')):=by
     by_cases hh:its.length=its'.length
     ·have e:decide (D.lst ds=D.lst ds')=(List.range its.toArray.size).all fun j=>decide (ds[j]?=ds'[j]?):=by
       simp only[Wb];rw[hl,DK (by lia),Ye];simp
      rw[e];exact⟨SeqAt.RcAt.lists (A:=A) (e:=fun j=>decide (ds[j]?=ds'[j]?)) t t' (by simpa using hh) hu' it,SeqAt.RcNeAt.lists (A:=A) (e:=fun j=>decide (ds[j]?=ds'[j]?)) t t' (by simpa using hh) hu' it⟩
     ·have:ds≠ds':=fun z=>hh (by rw[hl,hl',z])
      rw[Ae (by intro z;cases z;exact this rfl)]
      exact⟨SeqAt.RcAt.lists_lengths t t' (by simpa using hh) hu',BI t t' (by simpa using hh) hu'⟩
    obtain⟨rc,rn⟩:=both;refine⟨?_,rc,rn⟩;by_cases hab:a=b
    ·subst hab;have:=RH.inj (RH.lst t hl f) (RH.lst t' hl' f');rw[this,Ad rfl];exact SeqAt.EqAt.same _
    ·exact SeqAt.EqAt.of_refs hab rc
open Classical in
noncomputable def B2(neg:Bool):D->D->Option Rz:=fun a b=>if Pl 40 a/\Pl 40 b then some (.bl (if neg then !decide (a=b) else decide (a=b)),false) else none
open Classical in
def Ja(K:Aa)(neg:Bool):R2:=fun x y H Q=>∃(Y:AS)(a b:D),BA K Y H x a/\BA K Y H y b/\Pl 40 a/\Pl 40 b/\Q (.bl (if neg then !decide (a=b) else decide (a=b))) H
def Jb(neg:Bool):RdOp K (Ja K neg) (B2 neg):=by
 intro Y H x y d1 d2 z Q lv b1 b2 e q;unfold B2 at e;obtain⟨c,e⟩:=aF e;cases e;exact⟨Y,d1,d2,b1,b2,c.1,c.2,q _ H (Same.refl H) (.bl _)⟩
def Jc(h:X.K=K)(hu:X.A.units+64<cLine):OpR X (compareOp .NotEq) (Ja K true):=by
 intro pins s σ H x y v u Q I rx ry ⟨Y,a,b,b1,b2,p1,p2,q⟩;exact(RH.eqAt 40 (A:=X.A) p1 p2 (b1.rh p1 I h rx) (b2.rh p2 I h ry) (by lia)).2.2 _ _ _ _ ⟨.bl _,H,I,rfl,q⟩
noncomputable def oG:=orD bNe (B2 true)
def K4(K:Aa):R2:=fun x y H Q=>IX K x y H Q∨Ja K true x y H Q
def wY(h:X.K=K)(hu:X.A.units+64<cLine):OpR X (compareOp .NotEq) (K4 K):=(f8 h hu).or (Jc h hu)
def Jd:RdOp K (K4 K) oG:=ro_neA.or (Jb true)
open Classical in
noncomputable def FW(neg:Bool):D->D->Option Rz:=fun a b=>match b.seq with
 | some ds=>if Pl 40 a/\(∀d∈ds,Pl 40 d) then some (.bl (if neg then !decide (a∈ds) else decide (a∈ds)),false) else none
 | none=>none
open Classical in
def Je(K:Aa)(neg:Bool):R2:=fun x y H Q=>∃(Y:AS)(a b:D)(ds:List D),BA K Y H x a/\BA K Y H y b/\b.seq=some ds/\Pl 40 a/\(∀d∈ds,Pl 40 d)/\Q (.bl (if neg then !decide (a∈ds) else decide (a∈ds))) H
set_option tactic.hygienic true in
def Jf(neg:Bool):RdOp K (Je K neg) (FW neg):=by
 intro Y H x y d1 d2 z Q lv b1 b2 e q;unfold FW at e;split at e
 ·rename_i ds hs
  obtain⟨c,e⟩:=aF e;cases e;exact⟨Y,d1,d2,ds,b1,b2,hs,c.1,c.2,q _ H (Same.refl H) (.bl _)⟩
 ·cases e
open Classical in
def qC{ds:List D}{its:List Value}{A:Around}(hl:its.length=ds.length)(f:∀(i:Nat) u d,its[i]?=some u->ds[i]?=some d->RH s.heap u d)(p1:Pl 40 a)(p2:∀d∈ds,Pl 40 d)(r:RH s.heap u a)(hu:A.units+64<cLine) :
  (∀y,y∈its.toArray->SeqAt.EqAt A.in1 s y u (decide (RH s.heap y a)))/\its.toArray.any (fun y=>decide (RH s.heap y a))=decide (a∈ds):=by
 constructor
 ·intro y hy;obtain⟨i,hi,rfl⟩:=Zi.mp (show y∈its by simpa using hy)
  have e1:ds[i]?=some ds[i]:=Ya (by lia)
  have ry:=f i its[i] _ (Ya hi) e1;have z:=(RH.eqAt 40 (A:=A.in1) (p2 _ (Xc e1)) p1 ry r (by show A.units+1+40<cLine;lia)).1
  have e:decide (ds[i]=a)=decide (RH s.heap its[i] a):=by
   rw[Ye,decide_eq_true_eq,decide_eq_true_eq];exact⟨fun e=>e ▸ ry,fun r'=>ry.inj r'⟩
  rw[← e];exact z
 ·rw[Ye,decide_eq_true_eq];simp only[List.any_toArray,List.any_eq_true,decide_eq_true_eq];constructor
  ·rintro⟨y,hy,ry⟩;obtain⟨i,hi,rfl⟩:=Zi.mp hy;have e1:ds[i]?=some ds[i]:=Ya (by lia)
   have:=(f i its[i] _ (Ya hi) e1).inj ry;rw[← this];exact Xc e1
  ·intro ha;obtain⟨i,hi,rfl⟩:=Zi.mp ha;exact⟨its[i],Yj _,f i _ _ (Ya (by lia)) (Ya hi)⟩
def B3{d:D}{ds:List D}(h:BA K Y H v d)(e:d.seq=some ds)(p:∀x∈ds,Pl 40 x)(I:Inv X pins σ H s)(hK:X.K=K)(ru:RelV v u) :
  ∃a its,u=.ref a/\(s.heap.IsList a (List.toArray its)∨s.heap.IsTuple a its.toArray)/\its.length=ds.length/\∀(i:Nat) u d,its[i]?=some u->ds[i]?=some d->RH s.heap u d:=by
 obtain⟨a,vs,rfl,sq,el⟩:=qz h e;cases ru;have rest:∀{its:List Value},Vals vs its->its.length=ds.length/\∀(i:Nat) u d,its[i]?=some u->ds[i]?=some d->RH s.heap u d:=fun {its} r=>by
  refine⟨r.length.symm.trans el.1,fun i u d e1 e2=>?_⟩;obtain⟨v,e3,rv⟩:=eL r i u e1;exact(el.2 i v d e3 e2).rh (p d (Xc e2)) I hK rv
 rcases sq with sq|sq
 ·obtain⟨its,r,t,_⟩:=I.list (hK ▸ sq);exact⟨a,its,rfl,.inl t.isList,rest r⟩
 ·obtain⟨its,r,t,_⟩:=I.tuple (hK ▸ sq);exact⟨a,its,rfl,.inr t,rest r⟩
def Jg(h:X.K=K)(hu:X.A.units+64<cLine):OpR X (compareOp .In) (Je K false):=by
 intro pins s σ H x y v u Q I rx ry ⟨Y,a,b,ds,b1,b2,hs,p1,p2,q⟩;obtain⟨l,its,rfl,hl,hn,f⟩:=B3 b2 hs p2 I h ry;obtain⟨h1,h2⟩:=qC (A:=X.A) hn f p1 p2 (b1.rh p1 I h rx) hu;rcases hl with hl|hl
 ·refine SeqAt.in_listAt _ hl h1 ?_;rw[h2];exact⟨.bl _,H,I,rfl,q⟩
 ·refine Bx _ hl h1 ?_;rw[h2];exact⟨.bl _,H,I,rfl,q⟩
noncomputable def wZ:=orD bIn (FW false)
def K5(K:Aa):R2:=fun x y H Q=>IT K x y H Q∨Je K false x y H Q
def Jh(h:X.K=K)(hu:X.A.units+64<cLine):OpR X (compareOp .In) (K5 K):=(oC h).or (Jg h hu)
def Ji:RdOp K (K5 K) wZ:=ro_inA.or (Jf false)
end
end VF
namespace VF
open PySem L2 PySem.Spec
section
variable {X:Cx}{a b e:Expr}{ta te:TE}
def uc(hK:X.K=K)(hc:X.calm=true)(h:PGs X es t)
  (hn:(assignEach es X.env).length=n:=by rfl)(hst:(assignEach es X.env).findIdx? (·.1)=none:=by rfl):PG X (.Tuple es k pos) (HK K n t):=hK ▸ HL hc h hn hst
end
section
variable {K:Aa}{Y O O' Z:AS}{H H':Hp}{v:V}{d:D}{st st':En}{σ:St}
def cT:FS:=fun _=>none
def DL:RdS K CH cT:=by
 intro st σ H O Z Dn E o e;cases e
end
end VF
namespace VF
open PySem L2 PySem.Spec
section
variable {X:Cx}{K:Aa}
def DM(K:Aa):R2:=fun x y H Q=>∃a b ys,x=.ref a/\y=.ref b/\SqT K H a []/\SqT K H b ys/\Q (.ref b) H
def FX(h:X.K=K):OpR X (binaryOp .Add) (DM K):=by
 intro pins s σ H x y v u Q I rx ry hh;obtain⟨a,b,ys,rfl,rfl,ha,hb,q⟩:=hh;cases rx;cases ry;subst h;obtain⟨its,r1,p1,_⟩:=I.tuple ha;obtain⟨its2,r2,p2,_⟩:=I.tuple hb;cases r1;obtain⟨⟨cls,dd,data,sl⟩,ho,hc,n,hd⟩:=id p1;obtain⟨⟨cls2,dd2,data2,sl2⟩,ho2,hc2,n2,hd2⟩:=id p2;simp only at hc hd hc2 hd2;subst hc hd hc2 hd2;exact concat_meets ⟨_,ho,rfl⟩ ⟨_,ho2,rfl⟩ Bv seq_tuple_add A2 A0 (AY _ _)
   (PyProof.Rows.tuple_addW0 a b _ _ n n2 dd dd2 sl sl2 rfl) ⟨ho,ho2,.ref b,H,I,rfl,q⟩
def Hq:D->D->Option Rz
 | .tup [],.tup b=>some (.tup b,false)
 | _,_=>none
theorem FY:RdOp K (DM K) Hq:=by
 intro Y H x y d1 d2 z Q lv b1 b2 e q;cases d1 with
 | tup a =>
  cases a with
  | cons a0 a=>cases e
  | nil =>
   cases d2 with
   | tup b =>
    cases e;obtain⟨p,xs,rfl,hp,el⟩:=b1;obtain⟨p2,ys,rfl,hp2,el2⟩:=b2;obtain rfl:=el.unnil;exact⟨p,p2,ys,rfl,rfl,hp.sq,hp2.sq,q _ H (Same.refl H) (.tup hp2 el2.1 el2.2)⟩
   | _=>cases e
 | _=>cases e
def b9:=orD cz Hq
def Hr(K:Aa):R2:=fun x y H Q=>yt K x y H Q∨DM K x y H Q
def bQ(h:X.K=K):OpR X (binaryOp .Add) (Hr K):=(yu h).or (FX h)
def FZ:RdOp K (Hr K) b9:=ro_addA.or FY
def Jj(K:Aa):V->Option Int->Option Int->Hp->VK->Prop:=fun x lo hi H Q=>∃a xs,x=.ref a/\SqT K H a xs/\(HT.sIx xs.length 0 lo=0/\HT.sIx xs.length xs.length hi=xs.length)/\Q (.ref a) H
end
end VF
namespace HT
open PySem PyProof.Rows
section
variable {prog:Program}{w:World}{A:Around}{E:Value->Shared->Prop}{s:Shared}
def getItem_tuple_all{t sl:Addr}{items:Array Value}{vl vu:Value}{lo hi:Option Int}{Q:Value->Shared->Prop}(ht:IsTup s.heap t items)(hs:s.heap.IsSliceOf sl vl vu .none)(pl:IsPart vl lo)(pu:IsPart vu hi)
  (hw:sIx items.size 0 lo=0/\sIx items.size items.size hi=items.size)(h:Q (.ref t) s):wpAny (model prog w) A (getItem (.ref t) (.ref sl)) Q E s:=by
 obtain⟨os,hos,hcs,hds⟩:=id hs;have hTs:s.TypeIs (.ref sl) "slice":=⟨os,hos,hcs⟩;unfold getItem
 try with_reducible refine AK ?_
 first|refine Ab (Af ?_)|skip
 refine Ab (wpAny_sequenceKey ht.typeIs (by decide) ?_)
 refine Ab (Az (name:=Str.ofString "__getitem__") ht.typeIs AE
  (AG AE ht.typeIs entry_tuple_getitem ?_ (args_tuple_getitem _ _)))
 show wpAny _ _ (Builtin.Tuple.tupleItemsOf (.ref t) >>= _) _ _ s;refine Ab (tupleItemsOf_ ht ?_);refine Ab (AO hTs ?_);rw[Ag (by decide)]
 refine Ab (iZ hs pl pu ?_);have hyes:(((sIx items.size 0 lo:Nat):Int) == 0&&(1:Int) == 1&&(sIx items.size items.size hi-sIx items.size 0 lo) == items.size)=true:=by
  rw[hw.1,hw.2];simp
 show wpAny _ _ (if (((sIx items.size 0 lo:Nat):Int) == 0&&(1:Int) == 1&&(sIx items.size items.size hi-sIx items.size 0 lo) == items.size)=true then _ else _) _ _ s;rw[Ag hyes];unfold Builtin.Tuple.tupleIsExact;refine Ab (Ab (AO ht.typeIs (Af ?_)));rw[Ag (by decide)]
 exact Ab (AU (Af ⟨_,rfl,Af h⟩))
end
end HT
namespace VF
open PySem L2
section
variable {X:Cx}{K:Aa}
def DN(h:X.K=K):SlR X (Jj K):=by
 intro pins s σ H x v vl vu lo hi sl Q I rx hs pl pu hh;obtain⟨a,xs,rfl,hx,hw,q⟩:=hh;cases rx;subst h;obtain⟨its,r,ht,hz⟩:=I.tuple hx;have hlen:its.toArray.size=xs.length:=by rw[Wb];exact r.length.symm
 refine⟨"tuple",_,AE.lookup,ht.typeIs,?_⟩;exact HT.getItem_tuple_all ht hs pl pu (by rw[hlen];exact hw) ⟨.ref a,H,I,rfl,q⟩
def F3:D->Option Int->Option Int->Option Rz
 | .tup ds,lo,hi=>if HT.sIx ds.length 0 lo=0/\HT.sIx ds.length ds.length hi=ds.length then some (.tup ds,false) else none
 | _,_,_=>none
theorem K6:RdSl K (Jj K) F3:=by
 intro Y H x lo hi d1 z Q lv b1 e q;cases d1 with
 | tup a =>
  obtain⟨c,e⟩:=aF e;cases e;obtain⟨p,xs,rfl,hp,el⟩:=b1;exact⟨p,xs,rfl,hp.sq,by rw[el.1];exact c,q _ H (Same.refl H) (.tup hp el.1 el.2)⟩
 | _=>cases e
def eu:=orS bSl F3
def K7(K:Aa):V->Option Int->Option Int->Hp->VK->Prop:=fun x lo hi H Q=>IY K x lo hi H Q∨Jj K x lo hi H Q
def eM(h:X.K=K):SlR X (K7 K):=SlR.or (iO h) (DN h)
def DO:RdSl K (K7 K) eu:=RdSl.or yw K6
def qD(ds:List D)(lo hi:Option Int):eu (.tup ds) lo hi=some (.tup (cutD ds lo hi),false):=by
 have e1:zU (.tup ds) lo hi=none:=rfl;have e3:Dr (.tup ds) lo hi=none:=rfl;by_cases c:HT.sIx ds.length 0 lo=0/\HT.sIx ds.length ds.length hi=ds.length
 ·have e2:pN (.tup ds) lo hi=none:=by simp only[pN,Ag c]
  have e4:F3 (.tup ds) lo hi=some (.tup ds,false):=by simp only[F3,Ag c]
  have e5:cutD ds lo hi=ds:=by
   unfold cutD;rw[c.1,c.2];simp
  unfold eu bSl orS;rw[e1,e2,e3,e4,e5]
 ·have e2:pN (.tup ds) lo hi=some (.tup (cutD ds lo hi),false):=by simp only[pN,Al c]
  unfold eu bSl orS;rw[e1,e2]
theorem yC{a b:List D}(h:a.length+b.length<=100000):b9 (.tup a) (.tup b)=some (.tup (a++b),false):=by
 have e1:sI (.tup a) (.tup b)=none:=rfl;have e2:sJ (.tup a) (.tup b)=none:=rfl;have e3:wO (.tup a) (.tup b)=none:=rfl;cases a with
 | nil =>
  have e4:sK (.tup []) (.tup b)=none:=rfl;unfold b9 cz orD;rw[e1,e2,e3,e4];rfl
 | cons x a =>
  have e4:sK (.tup (x::a)) (.tup b)=some (.tup (x::a++b),false):=by
   simp only[Qa]at h;cases b with
   | nil=>simp only[sK,Vh];rw[Ag (by lia)]
   | cons y b =>
    simp only[Qa]at h;simp only[sK];rw[Ag (by lia)]
  unfold b9 cz orD;rw[e1,e2,e3,e4]
def dO{a b:List D}(h:a.length+b.length<=1000000):b9 (.lst a) (.lst b)=some (.lst (a++b),true):=by
 have e1:sI (.lst a) (.lst b)=none:=rfl;have e2:sJ (.lst a) (.lst b)=none:=rfl;have e3:wO (.lst a) (.lst b)=some (.lst (a++b),true):=by simp only[wO];rw[Ag h]
 unfold b9 cz orD;rw[e1,e2,e3]
def DP{ds:List D}(h:j<=ds.length):cutD ds none (some (j:Int))=ds.take j:=by
 unfold cutD;rw[HT.sIx_none,HT.sIx_nat,Wk h];simp
def kK{ds:List D}(h:i<=ds.length):cutD ds (some (i:Int)) none=ds.drop i:=by
 unfold cutD;rw[HT.sIx_none,HT.sIx_nat,Wk h,Qj];rw[Xk];lia
def F4{ds:List D}(h:i<=ds.length)(h':j<=ds.length):cutD ds (some (i:Int)) (some (j:Int))=(ds.drop i).take (j-i):=by
 unfold cutD;rw[HT.sIx_nat,HT.sIx_nat,Wk h,Wk h']
end
end VF
namespace VF
open PySem L2
section
variable {α:Type}{fg:FG}{B:FS}{fc:FT}{fe:FE}{k:Nat}
theorem oH(f:α->D)(all:List α)(I:List α->En->Prop)(step:∀(gone:List α)(x:α)(rest:List α)(st:En),all=gone++x::rest->I gone st->∃s1 s2,fg (f x) st=some s1/\B s1=some (.nx s2)/\I (gone++[x]) s2) :
  ∀(items gone:List α)(st:En),all=gone++items->I gone st->∃sf,md fg B (items.map f) st=some (.nx sf)/\I all sf
 | [],gone,st,ha,h=>⟨st,rfl,by rw[ha,Vh];exact h⟩
 | x::r,gone,st,ha,h=>by
  obtain⟨s1,s2,e1,e2,e3⟩:=step gone x r st ha h;obtain⟨sf,e4,e5⟩:=oH f all I step r (gone++[x]) s2 (by rw[Zj];exact ha) e3
  refine⟨sf,?_,e5⟩;simp only[Xf,md,e1,e2,Xa];exact e4
theorem qE(f g:α->D)(p:α->Bool)(sb:En):∀(xs:List α),(∀x∈xs,∃s1 s2,fg (f x) sb=some s1/\fc s1=some (p x,s2)/\(p x=false->rst k s2=sb)/\(p x=true->∃y s3 s4,fe s2=some (y,s3)/\esc y s3=some (g x,s4)/\rst k s4=sb)) ->
  bB fg fc fe k (xs.map f) sb=some ((xs.filter p).map g,sb)
 | [],_=>rfl
 | x::r,h=>by
  obtain⟨s1,s2,e1,e2,hf,ht⟩:=h x Zc;have ih:=qE f g p sb r fun y hy=>h y (Vb _ hy);cases hp:p x with
  | false =>
   rw[hp]at e2;simp only[Xf,bB,e1,e2,Xa,We,if_false,hf hp,ih,List.filter_cons,hp]
  | true =>
   rw[hp]at e2;obtain⟨y,s3,s4,e3,e4,e5⟩:=ht hp;simp only[Xf,bB,e1,e2,Xa,if_true,e3,e4,e5,ih,List.filter_cons,hp]
def aK(f g:α->D)(sb:En)(xs:List α)(h:∀x∈xs,∃s1 s2 y s3 s4,fg (f x) sb=some s1/\fc s1=some (true,s2)/\fe s2=some (y,s3)/\esc y s3=some (g x,s4)/\rst k s4=sb) :
  bB fg fc fe k (xs.map f) sb=some (xs.map g,sb):=by
 have:=qE (fg:=fg) (fc:=fc) (fe:=fe) (k:=k) f g (fun _=>true) sb xs fun x hx=>by
  obtain⟨s1,s2,y,s3,s4,e1,e2,e3,e4,e5⟩:=h x hx;exact⟨s1,s2,e1,e2,fun z=>(Bool.noConfusion z),fun _=>⟨y,s3,s4,e3,e4,e5⟩⟩
 rw[this,List.filter_eq_self.mpr fun _ _=>rfl]
end
end VF
namespace VF22
open PySem PySem.Spec PyProof.Rows L2 VF
def ItN(t:Bool):String:=if t then "tuple_iterator" else "list_iterator"
def SqN(t:Bool):String:=if t then "tuple" else "list"
def Io(t:Bool)(h:Heap)(a l:Addr)(i:Nat):Prop:=∃o,h.get? a=some o/\o.cls=.type (ItN t)/\o.data=.fields #[.ref l,.int i 0]
def So(t:Bool)(h:Heap)(l:Addr)(xs:Array Value):Prop:=∃o,h.get? l=some o/\o.cls=.type (SqN t)/\∃n,o.data=.seq xs n
variable {t t1 t2:Bool}{h h':Heap}
theorem Io.by(a:Io t h it l i)(k:∀o,h.get? it=some o->h'.get? it=some o):Io t h' it l i:=by
 obtain⟨o,e,r⟩:=a;exact⟨o,k o e,r⟩
theorem So.by(a:So t h l xs)(k:∀o,h.get? l=some o->h'.get? l=some o):So t h' l xs:=by
 obtain⟨o,e,r⟩:=a;exact⟨o,k o e,r⟩
section
variable {P:Program}{w:World}{A:Around}{E:Value->Shared->Prop}{s:Shared}
def DQ(a:Io t s.heap it l i)(b:So t s.heap l xs)(hx:xs[i]?=some x)
  (q:∀h1,Io t h1 it l (i+1)->Heap.SameBut it s.heap h1->Q x { s with heap:=h1 }):wpAny (model P w) A (Builtin.SmallTypes.nextOf (.ref it)) Q E s:=by
 cases t with
 | false=>exact wpAny_nextOf_list_item (i:=i) (l:=l) (items:=xs) a b hx q
 | true =>
  obtain⟨u,hu,cu,du⟩:=id a;obtain⟨v,hv,cv,nv,dv⟩:=b;have ty:s.heap.IsTupleIter it l i:=⟨u,hu,cu,du⟩;unfold Builtin.SmallTypes.nextOf;refine Ab (Az (name:=Str.ofString "__next__") ty.typeIs F.slot_tuple_iterator_next (AG F.slot_tuple_iterator_next ty.typeIs F.entry_tuple_iterator_next ?_ (F.args_tuple_iterator_next_1 _)));show wpAny _ _ (field (.ref it) 0 >>= _) _ _ _;refine Ab (Au hu du (x:=.ref l) rfl ?_);show wpAny _ _ (if (Value.ref l == Value.none)=true then _ else _) _ _ _;rw[Al (show ¬ ((Value.ref l == .none)=true) from Qc)];show wpAny _ _ (field (.ref it) 1 >>= _) _ _ _;refine Ab (Au hu du (x:=.int i 0) rfl ?_);show wpAny _ _ (seqItems? (.ref l) >>= _) _ _ _;refine Ab (AF hv dv ?_);simp only[hx,Ql];refine Ab (wpAny_setField hu du (by simp) (Af ⟨x,rfl,Af (q _ ?_ (Heap.SameBut.update ..))⟩))
  refine⟨_,Heap.get?_update_self _ hu (Obj.isFreed_of_fields (Obj.data_mapFields du _)),(Obj.cls_mapFields ..).trans cu,?_⟩;rw[Obj.data_mapFields du];simp[rawInt]
def DR(hh:A.handled=none)(a:Io t s.heap it l i)(b:So t s.heap l xs)(hx:xs[i]?=none)
  (q:∀h1 e,Heap.ExtBut it s.heap h1->(∃o,h1.get? e=some o/\o.cls=.type "StopIteration")->E (.ref e) { s with heap:=h1 }):wpAny (model P w) A (Builtin.SmallTypes.nextOf (.ref it)) Q E s:=by
 cases t with
 | false=>exact wpAny_nextOf_list_end (i:=i) (l:=l) (items:=xs) hh a b hx q
 | true =>
  obtain⟨u,hu,cu,du⟩:=id a;obtain⟨v,hv,cv,nv,dv⟩:=b;have ty:s.heap.IsTupleIter it l i:=⟨u,hu,cu,du⟩;unfold Builtin.SmallTypes.nextOf;refine Ab (Az (name:=Str.ofString "__next__") ty.typeIs F.slot_tuple_iterator_next (AG F.slot_tuple_iterator_next ty.typeIs F.entry_tuple_iterator_next ?_ (F.args_tuple_iterator_next_1 _)));show wpAny _ _ (field (.ref it) 0 >>= _) _ _ _;refine Ab (Au hu du (x:=.ref l) rfl ?_);show wpAny _ _ (if (Value.ref l == Value.none)=true then _ else _) _ _ _;rw[Al (show ¬ ((Value.ref l == .none)=true) from Qc)];show wpAny _ _ (field (.ref it) 1 >>= _) _ _ _;refine Ab (Au hu du (x:=.int i 0) rfl ?_);show wpAny _ _ (seqItems? (.ref l) >>= _) _ _ _;refine Ab (AF hv dv ?_);simp only[hx,Ql];refine Ab (AU (Ab (wpAny_setField hu du (by simp) ?_)))
  show wpAny _ _ (newExc (.type "StopIteration") [] >>= _) _ _ _;refine Ab ?_;simp only[newExc,newTuple];refine Ab (AD ?_ (by size_fits))
  refine Ab (m:=firstArgMember _ _) (wpAny_of_eq (a:=.none) (by first|rfl|(simp only[firstArgMember];rfl)) ?_)
  refine AD ?_ (by size_fits)
  simp only[raiseNew];refine Ab (wpAny_handled ?_)
  first|rw[show A.in1.handled=none from hh]|rw[hh]
  refine Ab (Af (wpAny_throw ?_));exact q _ _ (((Heap.SameBut.update ..).extBut.push _).push _) ⟨_,Ak _ rfl,rfl⟩
def K8(W:ZipApart z T1 T2 i1 i2 l1 l2)(hz:IsZip s.heap z T1 T2 .none)(p1:IsPair s.heap T1 (.ref i1) (.ref i2))(p2:IsPair s.heap T2 a b)
  (u1:Io t1 s.heap i1 l1 k)(u2:Io t2 s.heap i2 l2 k)(v1:So t1 s.heap l1 xs)(v2:So t2 s.heap l2 ys)(hx:xs[k]?=some x)(hy:ys[k]?=some y)
  (q:∀g,IsZip g z T1 T2 (rawInt s.heap.objs.size)->IsPair g T2 x y->Io t1 g i1 l1 (k+1)->Io t2 g i2 l2 (k+1)->IsPair g s.heap.objs.size x y ->
   (∀c o,c≠z->c≠T2->c≠i1->c≠i2->s.heap.get? c=some o->g.get? c=some o)->Q (some (.ref s.heap.objs.size)) { s with heap:=g }):wpAny (model P w) A (pyNext (.ref z)) Q E s:=by
 have ty:s.TypeIs (.ref z) "zip":=⟨_,hz,rfl⟩;unfold pyNext;refine Ab (wpAny_attempt (Az (name:=Str.ofString "__next__") ty F.slot_zip_next (AG F.slot_zip_next ty F.entry_zip_next ?_ (F.args_zip_next_1 _))));show wpAny _ _ (field (.ref z) 2 >>= _) _ _ s;refine Ab (Au hz rfl (x:=.bool false) rfl ?_);show wpAny _ _ (field (.ref z) 3 >>= _) _ _ s;refine Ab (Au hz rfl (x:=.ref T1) rfl ?_);refine Ab (AF p1 rfl ?_);show wpAny _ _ (Builtin.SmallTypes.ownedTupleIsFree (.ref z) >>= _) _ _ s;refine Ab ?_;unfold Builtin.SmallTypes.ownedTupleIsFree;refine Ab (Au hz rfl (x:=Value.none) rfl (Af ?_));simp only[if_true];refine Ab (AU ?_);refine Ab (Au hz rfl (x:=.ref T2) rfl ?_);refine Ab (AI hz (by simp) fun g1 z1 s1=>?_)
 replace z1:IsZip g1 z T1 T2 .ellipsis:=z1
 refine Ab ?_;simp only[Qm,List.forIn_nil,Xm,List.zipIdx_nil];refine Ab (Ab (Bd ?_));show wpAny _ _ (Builtin.SmallTypes.nextOf (.ref i1) >>= _) _ _ { s with heap:=g1 };refine Ab (DQ (s:={ s with heap:=g1 }) (u1.by fun o e=>s1.extBut _ o W.i1z e) (v1.by fun o e=>s1.extBut _ o W.l1z e) hx fun g2 n1 s2=>Af ?_)
 have p22:IsPair g2 T2 a b:=s2.extBut _ _ W.TOi1 (s1.extBut _ _ W.TOz p2);refine Ab (AF p22 rfl ?_);refine Ab (A8 p22 fun g3 p23 s3=>?_);replace p23:IsPair g3 T2 x b:=p23;refine Ab (wpAny_letGo (Af ?_));refine Ab (Ab (Bd ?_));show wpAny _ _ (Builtin.SmallTypes.nextOf (.ref i2) >>= _) _ _ { s with heap:=g3 };refine Ab (DQ (s:={ s with heap:=g3 }) (u2.by fun o e=>s3.extBut _ o W.TOi2.symm (s2.extBut _ o W.i12.symm (s1.extBut _ o W.i2z e))) (v2.by fun o e=>s3.extBut _ o W.l2TO (s2.extBut _ o W.l2i1 (s1.extBut _ o W.l2z e))) hy fun g4 n2 s4=>Af ?_)
 have p24:IsPair g4 T2 x b:=s4.extBut _ _ W.TOi2 p23;refine Ab (AF p24 rfl ?_);refine Ab (A8 p24 fun g5 p25 s5=>?_);replace p25:IsPair g5 T2 x y:=p25;refine Ab (wpAny_letGo (Af (Af ?_)));refine Ab (AF p25 rfl ?_);refine Ab (wpAny_newTuple ?_);have sz:g5.objs.size=s.heap.objs.size:=by rw[s5.1,s4.1,s3.1,s2.1,s1.1]
 have z5:IsZip g5 z T1 T2 .ellipsis:=s5.extBut _ _ W.TOz.symm (s4.extBut _ _ W.i2z.symm (s3.extBut _ _ W.TOz.symm (s2.extBut _ _ W.i1z.symm z1)));have k5:∀c o,c≠z->c≠T2->c≠i1->c≠i2->s.heap.get? c=some o->g5.get? c=some o:=fun c o c1 c2 c3 c4 e=>s5.extBut _ _ c2 (s4.extBut _ _ c4 (s3.extBut _ _ c2 (s2.extBut _ _ c3 (s1.extBut _ _ c1 e))));have n15:Io t1 g5 i1 l1 (k+1):=n1.by fun o e=>s5.extBut _ o W.TOi1.symm (s4.extBut _ o W.i12 (s3.extBut _ o W.TOi1.symm e))
 have n25:Io t2 g5 i2 l2 (k+1):=n2.by fun o e=>s5.extBut _ o W.TOi2.symm e
 have zl:z<g5.objs.size:=Aj z5;show wpAny _ _ (Builtin.SmallTypes.ownedTupleHandOut (.ref z) (.ref g5.objs.size) >>= _) _ _ _;refine Ab ?_;unfold Builtin.SmallTypes.ownedTupleHandOut;have z6:IsZip (g5.push { cls:=.type "tuple",data:=.seq #[x,y] }) z T1 T2 .ellipsis:=Ac _ z5;refine Ab (AI z6 (by simp) fun g7 z7 s7=>?_)
 replace z7:IsZip g7 z T1 T2 (rawInt g5.objs.size):=z7
 refine AI z7 (by simp) fun g8 z8 s8=>?_
 replace z8:IsZip g8 z T1 T2 (rawInt g5.objs.size):=z8
 have up:∀c o,c≠z->g5.get? c=some o->g8.get? c=some o:=fun c o c1 e=>s8.extBut _ _ c1 (s7.extBut _ _ c1 (Ac _ e));have pT:IsPair g8 g5.objs.size x y:=s8.extBut _ _ (Qk zl) (s7.extBut _ _ (Qk zl) (Ak _ rfl));rw[sz]at z8 pT;refine Af ⟨_,rfl,Af ?_⟩;show Q (some (.ref g5.objs.size)) _;rw[sz];exact q g8 z8 (up _ _ W.TOz p25) (n15.by fun o e=>up _ o W.i1z e) (n25.by fun o e=>up _ o W.i2z e) pT fun c o c1 c2 c3 c4 e=>up c o c1 (k5 c o c1 c2 c3 c4 e)
def Jk(hh:A.handled=none)(W:ZipApart z T1 T2 i1 i2 l1 l2)(hz:IsZip s.heap z T1 T2 .none)(p1:IsPair s.heap T1 (.ref i1) (.ref i2))(p2:IsPair s.heap T2 a b)
  (u1:Io t1 s.heap i1 l1 k)(u2:Io t2 s.heap i2 l2 k)(v1:So t1 s.heap l1 xs)(v2:So t2 s.heap l2 ys)(hend:xs[k]?=none∨ys[k]?=none)
  (q:∀g,(∀c o,c≠z->c≠T2->c≠i1->c≠i2->s.heap.get? c=some o->g.get? c=some o)->Q none { s with heap:=g }):wpAny (model P w) A (pyNext (.ref z)) Q E s:=by
 have ty:s.TypeIs (.ref z) "zip":=⟨_,hz,rfl⟩;unfold pyNext;have fin:∀g e,(∀c o,c≠z->c≠T2->c≠i1->c≠i2->s.heap.get? c=some o->g.get? c=some o)->(∃o,g.get? e=some o/\o.cls=.type "StopIteration")->wpAny (model P w) A (do if (← isInstance (.ref e) (.type "StopIteration")) then return none else throw (.ref e)) Q E { s with heap:=g }:=fun g e kp ⟨o,ho,ho2⟩ =>
  Ab (wpAny_isInstance (T:="StopIteration") (b:=true) ⟨o,ho,ho2⟩ isSubtype_stop (Af (q g kp)))
 refine Ab (wpAny_attempt (Az (name:=Str.ofString "__next__") ty F.slot_zip_next (AG F.slot_zip_next ty F.entry_zip_next ?_ (F.args_zip_next_1 _))));show wpAny _ _ (field (.ref z) 2 >>= _) _ _ s;refine Ab (Au hz rfl (x:=.bool false) rfl ?_);show wpAny _ _ (field (.ref z) 3 >>= _) _ _ s;refine Ab (Au hz rfl (x:=.ref T1) rfl ?_);refine Ab (AF p1 rfl ?_);show wpAny _ _ (Builtin.SmallTypes.ownedTupleIsFree (.ref z) >>= _) _ _ s;refine Ab ?_;unfold Builtin.SmallTypes.ownedTupleIsFree;refine Ab (Au hz rfl (x:=Value.none) rfl (Af ?_));simp only[if_true];refine Ab (AU ?_);refine Ab (Au hz rfl (x:=.ref T2) rfl ?_);refine Ab (AI hz (by simp) fun g1 z1 s1=>?_)
 replace z1:IsZip g1 z T1 T2 .ellipsis:=z1
 refine Ab ?_;simp only[Qm,List.forIn_nil,Xm,List.zipIdx_nil];refine Ab (Ab (Bd ?_));show wpAny _ _ (Builtin.SmallTypes.nextOf (.ref i1) >>= _) _ _ { s with heap:=g1 };have w1:Io t1 g1 i1 l1 k:=u1.by fun o e=>s1.extBut _ o W.i1z e
 have w2:So t1 g1 l1 xs:=v1.by fun o e=>s1.extBut _ o W.l1z e
 cases hx:xs[k]? with
 | none =>
  refine Ab (DR (s:={ s with heap:=g1 }) hh w1 w2 hx fun g2 e s2 he=>?_);obtain⟨oe,he1,he2⟩:=he;have z2:IsZip g2 z T1 T2 .ellipsis:=s2 _ _ W.i1z.symm z1;have ne:e≠z:=fun m=>by subst m;rw[z2]at he1;cases he1;simp at he2
  exact AI z2 (by simp) fun g3 _ s3=>fin g3 e (fun c o c1 _ c3 _ m=>s3.extBut _ _ c1 (s2 _ _ c3 (s1.extBut _ _ c1 m))) ⟨oe,s3.extBut _ _ ne he1,he2⟩
 | some x =>
  have hy:ys[k]?=none:=by
   rcases hend with m|m
   ·rw[hx]at m;cases m
   ·exact m
  refine Ab (DQ (s:={ s with heap:=g1 }) w1 w2 hx fun g2 n1 s2=>Af ?_);have p22:IsPair g2 T2 a b:=s2.extBut _ _ W.TOi1 (s1.extBut _ _ W.TOz p2);refine Ab (AF p22 rfl ?_);refine Ab (A8 p22 fun g3 p23 s3=>?_);refine Ab (wpAny_letGo (Af ?_));refine Ab (Ab (Bd ?_));show wpAny _ _ (Builtin.SmallTypes.nextOf (.ref i2) >>= _) _ _ { s with heap:=g3 };refine Ab (DR (s:={ s with heap:=g3 }) hh (u2.by fun o e=>s3.extBut _ o W.TOi2.symm (s2.extBut _ o W.i12.symm (s1.extBut _ o W.i2z e))) (v2.by fun o e=>s3.extBut _ o W.l2TO (s2.extBut _ o W.l2i1 (s1.extBut _ o W.l2z e))) hy fun g4 e s4 he=>?_)
  obtain⟨oe,he1,he2⟩:=he;have z4:IsZip g4 z T1 T2 .ellipsis:=s4 _ _ W.i2z.symm (s3.extBut _ _ W.TOz.symm (s2.extBut _ _ W.i1z.symm z1));have ne:e≠z:=fun m=>by subst m;rw[z4]at he1;cases he1;simp at he2
  exact AI z4 (by simp) fun g5 _ s5=>fin g5 e (fun c o c1 c2 c3 c4 m=>s5.extBut _ _ c1 (s4 _ _ c4 (s3.extBut _ _ c2 (s2.extBut _ _ c3 (s1.extBut _ _ c1 m))))) ⟨oe,s5.extBut _ _ ne he1,he2⟩
end
end VF22
namespace VF22
open PySem PySem.Spec PyProof.Rows L2 VF
section
variable {t t1 t2:Bool}{P:Program}{w:World}{A:Around}{E:Value->Shared->Prop}{s:Shared}
def zI(t:Bool)(l:Addr):Obj:={ cls:=.type (ItN t),data:=.fields #[.ref l,.int 0 0] }
theorem yD(b:So t s.heap l xs)(q:Q (.ref s.heap.objs.size) { s with heap:=s.heap.push (zI t l) }):wpAny (model P w) A (pyIter (.ref l)) Q E s:=by
 cases t with
 | false=>exact Bp (items:=xs) b q
 | true=>exact wpAny_pyIter_tuple (items:=xs) b q
abbrev zA(t1:Bool)(h:Heap)(l1:Addr):Heap:=h.push (zI t1 l1)
abbrev zB(t1 t2:Bool)(h:Heap)(l1 l2:Addr):Heap:=(zA t1 h l1).push (zI t2 l2)
abbrev zC(t1 t2:Bool)(h:Heap)(l1 l2:Addr):Heap:=(zB t1 t2 h l1 l2).push { cls:=.type "tuple",data:=.seq #[.ref h.objs.size,.ref (zA t1 h l1).objs.size] }
abbrev zD(t1 t2:Bool)(h:Heap)(l1 l2:Addr):Heap:=(zC t1 t2 h l1 l2).push { cls:=.type "tuple",data:=.seq #[.none,.none] }
abbrev zE(t1 t2:Bool)(h:Heap)(l1 l2:Addr):Heap:=(zD t1 t2 h l1 l2).push { cls:=.type "zip",data:=.fields #[.none,.bool false,.bool false,.ref (zB t1 t2 h l1 l2).objs.size,.ref (zC t1 t2 h l1 l2).objs.size] }
def DS(t1 t2:Bool)(l1 l2:Addr)(xs ys:Array Value):Meets (Builtin.«zip.__new__» ⟨[.type "zip",.ref l1,.ref l2],[]⟩) (fun _ R s=>So t1 s.heap l1 xs/\So t2 s.heap l2 ys /\
   R (.ok (.ret (.ref (zD t1 t2 s.heap l1 l2).objs.size))) { s with heap:=zE t1 t2 s.heap l1 l2 }) :=
 .of_wp fun prog w A R s h=>by
  obtain⟨hp,g,d,tk,os⟩:=s;obtain⟨v1,v2,h⟩:=h;have hsub:=sub_zip;have L1:So t1 (Shared.heap ⟨hp,g,d,tk,os⟩) l1 xs:=v1;have L2:So t2 (Shared.heap ⟨hp.push (zI t1 l1),g,d,tk,os⟩) l2 ys:=So.by v2 fun o e=>Ac _ e
  wp_walk using yD L1,yD L2
  exact⟨_,rfl,h⟩
def DT(v1:So t1 s.heap l1 xs)(v2:So t2 s.heap l2 ys)
  (q:∀g,IsZip g (s.heap.objs.size+4) (s.heap.objs.size+2) (s.heap.objs.size+3) .none->IsPair g (s.heap.objs.size+2) (.ref s.heap.objs.size) (.ref (s.heap.objs.size+1))->IsPair g (s.heap.objs.size+3) .none .none ->
   Io t1 g s.heap.objs.size l1 0->Io t2 g (s.heap.objs.size+1) l2 0->(∀c o,s.heap.get? c=some o->g.get? c=some o)->Q (.ref (s.heap.objs.size+4)) { s with heap:=g }) :
  wpAny (model P w) A (call (.type "zip") [.ref l1,.ref l2]) Q E s:=by
 refine callType_new F.called_zip (by decide) (F.typeCall_zip_2 _ _) (F.newCall_zip_2 _ _) (fun obj=>F.args_object_init_3 obj _ _) F.entry_zip_new (DS t1 t2 l1 l2 xs ys) ⟨v1,v2,?_⟩
 have m1:(zA t1 s.heap l1).objs.size=s.heap.objs.size+1:=AW ..;have m2:(zB t1 t2 s.heap l1 l2).objs.size=s.heap.objs.size+2:=by rw[AW,m1]
 have m3:(zC t1 t2 s.heap l1 l2).objs.size=s.heap.objs.size+3:=by rw[AW,m2]
 have m4:(zD t1 t2 s.heap l1 l2).objs.size=s.heap.objs.size+4:=by rw[AW,m3]
 have g5:(zE t1 t2 s.heap l1 l2).get? (zD t1 t2 s.heap l1 l2).objs.size=some _:=Ak _ rfl;have g4:(zE t1 t2 s.heap l1 l2).get? (zC t1 t2 s.heap l1 l2).objs.size=some _:=Ac _ (Ak _ rfl);have g3:(zE t1 t2 s.heap l1 l2).get? (zB t1 t2 s.heap l1 l2).objs.size=some _:=Ac _ (Ac _ (Ak _ rfl));have g2:(zE t1 t2 s.heap l1 l2).get? (zA t1 s.heap l1).objs.size=some (zI t2 l2):=Ac _ (Ac _ (Ac _ (Ak _ rfl)));have g1:(zE t1 t2 s.heap l1 l2).get? s.heap.objs.size=some (zI t1 l1):=Ac _ (Ac _ (Ac _ (Ac _ (Ak _ rfl))));show _/\_;rw[m2,m3,m4]at g5;rw[m1,m2]at g3;rw[m3]at g4;rw[m1]at g2;rw[m4];exact⟨⟨_,g5,rfl⟩,q _ g5 g3 g4 ⟨_,g1,rfl,rfl⟩ ⟨_,g2,rfl,rfl⟩ fun c o e=>Ac _ (Ac _ (Ac _ (Ac _ (Ac _ e))))⟩
end
section
variable {X:Cx}{K:Aa}{t t1 t2:Bool}{pins:List (Addr×Obj)}{σ:L2.St}{H:Hp}{s:Shared}{h':Heap}
def yE{t':Nat}{ch:List Addr}(I:L2.Inv X pins σ H s)(f:∀b∈ch,pI X pins H b)(k:∀b o,b∉ch->s.heap.get? b=some o->h'.get? b=some o):L2.Inv X pins σ H { s with heap:=h',toks:=t' }:=by
 have nit:∀b u,H b=some u->b∉ch:=fun b u e z=>by rw[(f b z).1]at e;cases e
 refine I.step (g':=s.gens) (d':=s.drawn) (ch:=ch) (fun b hb=>?_) (fun b o _ _ hc e _=>k b o hc e) (fun b o _ _ hc e _=>⟨o.slots,k b o hc e⟩) (fun _ _ _ _ n=>n)
  (fun b o hc e=>⟨o,k b o hc e⟩) (fun _ _ e=>e) (fun _ _ _ e=>e) (fun b ps e=>⟨#[],by rw[e];simp⟩) (fun m hm=>?_) (fun b u e=>?_) I.bare
 ·obtain⟨_,f1,_,f3,f4,f5⟩:=f b hb;exact⟨f3,f1,f4,f5⟩
 ·obtain⟨o,es,ep,ho,r⟩:=hm;exact⟨o,es,ep,k _ o (fun z=>(f _ z).2.1 rfl) ho,r⟩
 ·refine(I.hok b u e).stay (fun c v hc q=>k c v ?_ q) (fun _ q=>q) fun _ _ q=>q;rcases hc with z|z
  ·rw[z];exact nit b u e
  ·exact nit c _ z
def Sq(K:Aa)(t:Bool)(H:Hp)(a:Addr)(xs:List V):Prop:=if t then SqT K H a xs else SqL K H a xs
theorem Sq.so(I:L2.Inv X pins σ H s)(h:Sq X.K t H l xs):∃its:List Value,Vals xs its/\So t s.heap l its.toArray:=by
 cases t with
 | false =>
  obtain⟨its,rv,p,_⟩:=I.list h;exact⟨its,rv,p.isList⟩
 | true =>
  obtain⟨its,rv,p,_⟩:=I.tuple h;exact⟨its,rv,p⟩
theorem Sq.inj(I:L2.Inv X pins σ H s)(h:Sq X.K t H l xs)(h2:Sq X.K t H l ys):xs=ys:=by
 cases t with
 | false=>exact I.list_inj h h2
 | true=>exact I.tuple_inj h h2
def Itz(K : Aa)(t1 t2 : Bool)(l1 l2 : Addr) : It :=
  ⟨fun i H => ∃ xs ys x y, Sq K t1 H l1 xs ∧ Sq K t2 H l2 ys ∧ xs[i]? = some x ∧ ys[i]? = some y,
   fun i H v H' => ∃ p x y, v = .ref p ∧ H p = none ∧ H' = upd H p (.tup [x, y]) ∧ (∀ xs, Sq K t1 H l1 xs → xs[i]? = some x) ∧ ∀ ys, Sq K t2 H l2 ys → ys[i]? = some y,
   fun i H => ∃ xs ys, Sq K t1 H l1 xs ∧ Sq K t2 H l2 ys ∧ (xs.length ≤ i ∨ ys.length ≤ i)⟩
def Zs(t1 t2:Bool)(z T1 T2 i1 i2 l1 l2:Addr)(i:Nat)(h:Heap):Prop:=IsZip h z T1 T2 .none/\IsPair h T1 (.ref i1) (.ref i2)/\(∃a b,IsPair h T2 a b)/\Io t1 h i1 l1 i/\Io t2 h i2 l2 i
def K9(h:b∈[z,T1,T2,i1,i2]):b=z∨b=T1∨b=T2∨b=i1∨b=i2:=by simpa using h
theorem Zs.at{h:Heap}(st:Zs t1 t2 z T1 T2 i1 i2 l1 l2 i h)(hb:b∈[z,T1,T2,i1,i2]):∃o,h.get? b=some o/\∀v,o.data≠.cell v:=by
 obtain⟨a1,a2,⟨_,_,a3⟩,⟨o1,a4,_,d4⟩,⟨o2,a5,_,d5⟩⟩:=st;rcases K9 hb with rfl|rfl|rfl|rfl|rfl
 ·exact⟨_,a1,fun v m=>by cases m⟩
 ·exact⟨_,a2,fun v m=>by cases m⟩
 ·exact⟨_,a3,fun v m=>by cases m⟩
 ·exact⟨_,a4,fun v m=>by rw[d4]at m;cases m⟩
 ·exact⟨_,a5,fun v m=>by rw[d5]at m;cases m⟩
def DU{es:List Expr}{x1}{z T1 T2 i1 i2 l1 l2:Addr}(W:ZipApart z T1 T2 i1 i2 l1 l2):Turn P w K (.Tuple es x1 ps) (Itz K t1 t2 l1 l2) [z,T1,T2,i1,i2] z (Zs t1 t2 z T1 T2 i1 i2 l1 l2) where
 mem:=.head _
 obj:=fun i h st b hb=>st.at hb
 keep:=fun i h h' st k=>by
  obtain⟨a1,a2,⟨a,b,a3⟩,a4,a5⟩:=st;exact⟨k z (.head _) _ a1,k T1 (.tail _ (.head _)) _ a2,⟨a,b,k T2 (.tail _ (.tail _ (.head _))) _ a3⟩,a4.by fun o e=>k i1 (.tail _ (.tail _ (.tail _ (.head _)))) o e,a5.by fun o e=>k i2 (.tail _ (.tail _ (.tail _ (.tail _ (.head _))))) o e⟩
 item:=by
  intro X hP hw hK hc i pins s σ H E I hf st hg;subst hP hw hK;obtain⟨xs,ys,x,y,q1,q2,e1,e2⟩:=hg;obtain⟨is,r1,v1⟩:=q1.so I;obtain⟨js,r2,v2⟩:=q2.so I;obtain⟨u,hu,ru⟩:=r1.get e1;obtain⟨v,hv,rv⟩:=r2.get e2;have hn:H s.heap.objs.size=none:=I.hok.fresh (Xb _);have lt:∀b∈[z,T1,T2,i1,i2],b≠s.heap.objs.size:=fun b hb=>by
   obtain⟨o,ho,_⟩:=Zs.at st hb;exact Vf (Aj ho)
  obtain⟨a1,a2,⟨a,b,a3⟩,a4,a5⟩:=st;refine K8 W a1 a2 a3 a4 a5 v1 v2 (x:=u) (y:=v) (by simpa using hu) (by simpa using hv) fun g z1 p2 n1 n2 pT kp=>?_
  refine⟨_,rfl,wpAny_letOwnedTupleGo_zip (s:={ s with heap:=g }) z1 fun g2 z2 sb=>?_⟩;have kk:∀c o,c≠z->c≠T2->c≠i1->c≠i2->s.heap.get? c=some o->g2.get? c=some o:=fun c o c1 c2 c3 c4 e=>sb.extBut _ _ c1 (kp c o c1 c2 c3 c4 e);have pT2:IsPair g2 s.heap.objs.size u v:=sb.extBut _ _ (AC (lt z (.head _))) pT;have I1:L2.Inv X pins σ (upd H s.heap.objs.size (.tup [x,y])) { s with heap:=s.heap.push { cls:=.type "tuple",data:=.seq #[u,v] },toks:=s.toks } :=
   I.laid (fun b o e=>Ac _ e) (Xb _) ⟨show 2<=sizeLine by decide,[u,v],.cons ru (.cons rv .nil),⟨_,Ak _ rfl,rfl,_,rfl⟩⟩
  have ff:∀b∈[z,T1,T2,i1,i2],pI X pins (upd H s.heap.objs.size (.tup [x,y])) b:=fun b hb=>by
   obtain⟨f0,f1,f2,f3,f4,f5⟩:=hf b hb;exact⟨by rw[bd (lt b hb)];exact f0,f1,f2,f3,f4,f5⟩
  have I2:L2.Inv X pins σ (upd H s.heap.objs.size (.tup [x,y])) { s with heap:=g2 }:=by
   refine yE (s:={ s with heap:=s.heap.push { cls:=.type "tuple",data:=.seq #[u,v] } }) (t':=s.toks) I1 ff fun c o hc e=>?_;rcases Heap.get?_push_cases e with⟨rfl,rfl⟩|e
   ·exact pT2
   ·exact kk c o (fun m=>hc (m ▸ .head _)) (fun m=>hc (m ▸ .tail _ (.tail _ (.head _)))) (fun m=>hc (m ▸ .tail _ (.tail _ (.tail _ (.head _))))) (fun m=>hc (m ▸ .tail _ (.tail _ (.tail _ (.tail _ (.head _)))))) e
  refine⟨.ref s.heap.objs.size,_,I2,rfl,⟨_,x,y,rfl,hn,rfl,fun zs hz=>by rw[hz.inj I q1];exact e1,fun zs hz=>by rw[hz.inj I q2];exact e2⟩,?_,fun b hb=>(ff b hb).1⟩
  exact⟨z2,sb.extBut _ _ W.TIz (kp _ _ W.TIz W.TITO W.TIi1 W.TIi2 a2),⟨_,_,sb.extBut _ _ W.TOz p2⟩,n1.by fun o e=>sb.extBut _ o W.i1z e,n2.by fun o e=>sb.extBut _ o W.i2z e⟩
 done:=by
  intro X hP hw hK hc i pins s σ H E I hf st hg;subst hP hw hK;obtain⟨xs,ys,q1,q2,hl⟩:=hg;obtain⟨a1,a2,⟨a,b,a3⟩,a4,a5⟩:=st;obtain⟨is,r1,v1⟩:=q1.so I;obtain⟨js,r2,v2⟩:=q2.so I;have l1:=r1.length;have l2:=r2.length;refine Jk (I.ok.hd hc) W a1 a2 a3 a4 a5 v1 v2 (hl.imp (fun m=>by rw[BZ];exact Vi (l1 ▸ m)) fun m=>by rw[BZ];exact Vi (l2 ▸ m)) fun g kp=>⟨rfl,yE (t':=s.toks) I hf fun c o hc e=>?_⟩
  exact kp c o (fun m=>hc (m ▸ .head _)) (fun m=>hc (m ▸ .tail _ (.tail _ (.head _)))) (fun m=>hc (m ▸ .tail _ (.tail _ (.tail _ (.head _))))) (fun m=>hc (m ▸ .tail _ (.tail _ (.tail _ (.tail _ (.head _)))))) e
 self:=fun _ _ _ _ _ st h=>wpAny_pyIter_zip st.1 h
def Jl(K:Aa)(ta:TA):TI:=fun σ H R=>ta σ H fun vs H1=>∃t1 t2 l1 l2 xs ys,vs=[.ref l1,.ref l2]/\Sq K t1 H1 l1 xs/\Sq K t2 H1 l2 ys/\R (Itz K t1 t2 l1 l2) H1
def boot_zip:bootBuiltins "zip"=some (.type "zip"):=by decide +kernel
def F5{x1}(hg:Gl X "zip")(hm:X.mg "zip"=none)(ha:PA X [a,b] ta)(hs:starEach [a,b] X.env=[(false,eval a X.env),(false,eval b X.env)])(hs2:starEach [b] X.env=[(false,eval b X.env)]) :
  PI X (.Tuple es x1 ps) (.Call (.Name "zip" p) [a,b] [] pos) (Jl X.K ta):=by
 intro pins s σ H R I h;refine Call_ (qo I hg hm boot_zip (AT (thn (ha pos pins s σ H _ I h) fun us s1 ⟨vs,H1,I1,r1,q1⟩=>?_) (by rw[hs,hs2]) (by rw[hs2];rfl)))
 obtain⟨t1,t2,l1,l2,xs,ys,e,w1,w2,q⟩:=q1;subst e;cases r1 with
 | cons r rr =>
  cases rr with
  | cons r' rr =>
   cases rr;cases r;cases r';obtain⟨is,r1,v1⟩:=w1.so I1;obtain⟨js,r2,v2⟩:=w2.so I1;refine DT v1 v2 fun g z p1 p2 n1 n2 kp=>?_;obtain⟨o1,ho1,_⟩:=id v1;obtain⟨o2,ho2,_⟩:=id v2;refine wpAny_pyIter_zip (s:={ s1 with heap:=g }) z ⟨_,[s1.heap.objs.size+4,s1.heap.objs.size+2,s1.heap.objs.size+3,s1.heap.objs.size,s1.heap.objs.size+1],_,_,H1,rfl,I1.kept (t':=s1.toks) kp,DU (PySem.W.ktu_apart _ _ _ (Aj ho1) (Aj ho2)),⟨z,p1,⟨_,_,p2⟩,n1,n2⟩,fun b hb=>?_,q⟩;have hb':=K9 hb;have le:s1.heap.objs.size<=b:=by
    rcases hb' with m|m|m|m|m<;>(rw[m];first|exact Xj _ _|exact Xb _)
   exact I1.fpOk le (I1.hok.fresh le)
end
end VF22
namespace VF22
open PySem L2 VF
section
variable {X:Cx}{K:Aa}{O O' Z:AS}{H H':Hp}{v:V}{d:D}
def sqD:D->Option (List D)
 | .lst ds=>some ds
 | .fl ds=>some ds
 | .tup ds=>some ds
 | _=>none
def Jm:List D->Option (List D×List D)
 | [a,b]=>(sqD a).bind fun x=>(sqD b).bind fun y=>some (x,y)
 | _=>none
def pr(a b:D):D:=.tup [a,b]
def fIZ(fa:FA):FI:=fun st=>(fa st).bind fun x=>(eZ x.1 x.2).bind fun y=>(Jm y.1).bind fun w=>some (List.zipWith pr w.1 w.2,y.2)
theorem Hs(da:DA K (U O Z) H v d)(e:sqD d=some is):∃t l ws,v=.ref l/\∀H' O',Ext O H O' H'->Sq K t H' l ws/\El K (U O' Z) H' ws is:=by
 cases d with
 | lst ds =>
  cases e;cases da with
  | @lst a vs _ h0 h1 h2 h3=>exact⟨false,a,vs,rfl,fun H' O' ex=>⟨.inl (.inl (ex.kp a _ h1 fun z=>h0 (.inl z))),El.ext ⟨h2,h3⟩ ex⟩⟩
 | fl ds =>
  cases e;cases da with
  | @fl a vs _ h1 h2 h3 =>
   refine⟨false,a,vs,rfl,fun H' O' ex=>⟨?_,El.ext ⟨h2,h3⟩ ex⟩⟩;rcases h1 with⟨h1,hn⟩|h1
   ·exact .inl (Rd.keep h1 fun o e=>ex.kp a o e fun z=>hn (.inl z))
   ·exact h1 H'
 | tup ds =>
  cases e;cases da with
  | @tup a vs _ h1 h2 h3 =>
   refine⟨true,a,vs,rfl,fun H' O' ex=>⟨?_,El.ext ⟨h2,h3⟩ ex⟩⟩;exact .inl (.inl (ex.kp a _ h1.1 fun z=>h1.2 (.inl z)))
 | _=>cases e
theorem La{as bs:List D}{i:Nat}{d:D}(h:(List.zipWith pr as bs)[i]?=some d):∃a b,as[i]?=some a/\bs[i]?=some b/\d=.tup [a,b]:=by
 rw[List.getElem?_zipWith]at h;cases ea:as[i]? with
 | none=>rw[ea]at h;cases h
 | some a =>
  cases eb:bs[i]? with
  | none=>rw[ea,eb]at h;cases h
  | some b =>
   rw[ea,eb]at h;exact⟨a,b,rfl,rfl,(Option.some.inj h).symm⟩
set_option tactic.hygienic true in
def DV{ta:TA}{fa:FA}(h:RdA K ta fa):RdI K (Jl K ta) (fIZ fa):=by
 intro st σ H O Z R E items st' e q;refine bsP e fun rs st1 e1 e=>?_;refine bsP e fun ds st2 e2 e=>?_;refine bsP e fun as bs e3 e=>?_;cases e;refine h st σ H O Z _ E rs st1 e1 fun vs H1 O1 x1 k1 E1 rvs=>?_;obtain⟨O2,x2,k2,E2,el⟩:=rvs.esc E1 e2;replace e3:Jm ds=some (as,bs):=e3;unfold Jm at e3;split at e3
 ·rename_i a b
  refine bsO e3 fun as' e4 e3=>?_;refine bsO e3 fun bs' e5 e3=>?_;cases e3;obtain⟨v1,r,rfl,da1,el⟩:=el.uncons;obtain⟨v2,r,rfl,da2,el⟩:=el.uncons;obtain rfl:=el.unnil;obtain⟨t1,l1,xs,rfl,k3⟩:=Hs da1 e4;obtain⟨t2,l2,ys,rfl,k4⟩:=Hs da2 e5;refine⟨t1,t2,l1,l2,xs,ys,rfl,(k3 H1 O2 (Ext.refl _ _)).1,(k4 H1 O2 (Ext.refl _ _)).1,q _ H1 O2 (x1.trans x2) (k1.trans k2) E2 fun H' O' ex liv=>?_⟩;obtain⟨s1,el1⟩:=k3 H' O' ex;obtain⟨s2,el2⟩:=k4 H' O' ex;have n1:=el1.1;have n2:=el2.1;refine⟨fun i hi=>⟨xs,ys,s1,s2,?_⟩,fun i d hd=>?_⟩
  ·replace hi:(List.zipWith pr as bs).length<=i:=hi
   rw[List.length_zipWith]at hi;lia
  ·obtain⟨a,b,ha,hb,rfl⟩:=La hd;obtain⟨x,hx,dx⟩:=el1.at ha;obtain⟨y,hy,dy⟩:=el2.at hb;refine⟨⟨xs,ys,x,y,s1,s2,hx,hy⟩,?_⟩;rintro v H'' ⟨p,x',y',rfl,hn,rfl,f1,f2⟩;have ex':=f1 xs s1;have ey':=f2 ys s2;rw[hx]at ex';rw[hy]at ey';cases ex';cases ey';have sm:=bE hn (.tup [x,y]);exact⟨sm,.tup ⟨b8,fun z=>(liv p z).1 hn⟩ rfl ((El.cons dx (El.one dy)).same sm).2⟩
 ·cases e3
def Jn{x1}(h:X.K=K)(hg:Gl X "zip")(hs:starEach [a,b] X.env=[(false,eval a X.env),(false,eval b X.env)])(hs2:starEach [b] X.env=[(false,eval b X.env)])(hm:X.mg "zip"=none)(ha:PE X a te)(hb:PE X b te2) :
  PI X (.Tuple es x1 ps) (.Call (.Name "zip" p) [a,b] [] pos) (Jl K (dL te (dL te2 rL))):=by
 subst h;exact F5 hg hm (pV ha (pV hb ac hs2) (by rw[hs,hs2])) hs hs2
end
end VF22
namespace TS
open PySem PyProof.Rows
def sQ{M:Model}{A:Around}{E:Value->Shared->Prop}{σ γ:Type}{X Y:StateT σ Sem γ}{p:Prop}{d:Decidable p}{Q:γ->σ->Prop}{st:σ}(h:p)(k:wpS M A E s X Q st):wpS M A E s (@ite _ p d X Y) Q st:=by rw[Ag h];exact k
def qF{M:Model}{A:Around}{E:Value->Shared->Prop}{σ γ:Type}{X Y:StateT σ Sem γ}{p:Prop}{d:Decidable p}{Q:γ->σ->Prop}{st:σ}(h:¬ p)(k:wpS M A E s Y Q st):wpS M A E s (@ite _ p d X Y) Q st:=by rw[Al h];exact k
def DW{α β:Type}(f:α->β)(x:Array α)(i j:Nat):(x.map f).swapIfInBounds i j=(x.swapIfInBounds i j).map f:=by
 apply Array.ext_getElem?
 intro k;by_cases hi:i<x.size
 ·by_cases hj:j<x.size
  ·rw[getElem?_swapIB (by rw[Zk];exact hi) (by rw[Zk];exact hj),Vj,Vj,Vj,Vj,getElem?_swapIB hi hj]
   split
   ·rfl
   ·split<;>rfl
  ·rw[Wj,Wj,dif_pos (by rw[Zk];exact hi),dif_pos hi,dif_neg (by rw[Zk];exact hj),dif_neg hj]
 ·rw[Wj,Wj,dif_neg (by rw[Zk];exact hi),dif_neg hi]
theorem oI{α β γ:Type}(f:α->β)(p q:γ->Nat):∀(l:List γ)(x:Array α),l.foldl (fun a k=>a.swapIfInBounds (p k) (q k)) (x.map f)=(l.foldl (fun a k=>a.swapIfInBounds (p k) (q k)) x).map f
 | [],x=>rfl
 | k::l,x=>by
  rw[List.foldl_cons,List.foldl_cons,DW];exact oI f p q l _
def w5(f:α->β)(x:Array α)(i d:Nat):bubble (x.map f) i d=(bubble x i d).map f:=oI f _ _ _ x
def jm(f:α->β)(x:Array α)(i j d:Nat):mirror (x.map f) i j d=(mirror x i j d).map f:=oI f _ _ _ x
structure Cm(prog:Program)(w:World)(A:Around)(s:Shared)(k:SortKind)(f:Nat->Keyed)(N:Nat)(c:Nat->Nat->Bool):Prop where
 lt:∀(E:Value->Shared->Prop)(Q:Bool->Shared->Prop)(g h:Nat),g<N->h<N->Q (c g h) s->wpAny (model prog w) A (keyLt' k (f g).1 (f h).1) Q E s
 irr:∀g,c g g=false
 tra:∀g h i,c g h=true->c h i=true->c g i=true
 neg:∀g h i,c g i=true->c g h=true∨c h i=true
def Bf(c:Nat->Nat->Bool)(g h:Nat):Prop:=c g h=true∨(c h g=false/\g<h)
structure Rp(k:SortKind)(f:Nat->Keyed)(N:Nat)(st:SortSt)(γ:Array Nat):Prop where
 arr:arrOf st=γ.map f
 kind:kindOf st=k
 fine:failedOf st=none
 perm:γ.Perm (Array.range N)
section
variable {prog:Program}{w:World}{A:Around}{E:Value->Shared->Prop}{s:Shared}{k:SortKind}{f:Nat->Keyed}{N:Nat}{c:Nat->Nat->Bool}{st:SortSt}{γ:Array Nat}
theorem Cm.asy(C:Cm prog w A s k f N c)(e:c g h=true):c h g=false:=by
 cases e':c h g with
 | false=>rfl
 | true=>exact absurd (C.tra g h g e e') (by rw[C.irr];exact Bool.noConfusion)
def Cm.le(C:Cm prog w A s k f N c)(e:Bf c g h):c h g=false:=by
 rcases e with e|e
 ·exact C.asy e
 ·exact e.1
theorem Cm.letr(C:Cm prog w A s k f N c)(e:c h g=false)(e':c i h=false):c i g=false:=by
 cases e2:c i g with
 | false=>rfl
 | true =>
  rcases C.neg i h g e2 with q|q
  ·rw[q]at e';exact e'
  ·rw[q]at e;exact e
theorem Cm.trans(C:Cm prog w A s k f N c)(e:Bf c g h)(e':Bf c h i):Bf c g i:=by
 have l:=C.letr (C.le e) (C.le e');cases e2:c g i with
 | true=>exact .inl e2
 | false =>
  refine .inr ⟨l,?_⟩;rcases e with e|e
  ·rcases C.neg g i h e with q|q
   ·rw[q]at e2;cases e2
   ·rw[C.le e']at q;cases q
  ·rcases e' with e'|e'
   ·rcases C.neg h g i e' with q|q
    ·rw[e.1]at q;cases q
    ·rw[q]at e2;cases e2
   ·exact Br e.2 e'.2
theorem Rp.size(R:Rp k f N st γ):γ.size=N:=by rw[R.perm.size_eq,A1]
def Rp.bnd(R:Rp k f N st γ){i g:Nat}(e:γ[i]?=some g):g<N:=by
 have hm:g∈γ:=Array.mem_of_getElem? e;exact Array.mem_range.mp (R.perm.mem_iff.mp hm)
def Rp.at(R:Rp k f N st γ){i g:Nat}(e:γ[i]?=some g):(arrOf st)[i]?=some (f g):=by rw[R.arr,Vj,e];rfl
def Rp.put(R:Rp k f N st γ){γ':Array Nat}(p:γ'.Perm γ)(e:x=γ'.map f):Rp k f N (setArr st x) γ':=⟨e,R.kind,R.fine,p.trans R.perm⟩
def Lb(C:Cm prog w A s k f N c)(hk:kindOf st=k)(bg:g<N)(bh:h<N)(q:Q (some (c g h)) st):wpS (model prog w) A E s (lt' (f g) (f h)) Q st:=by
 rw[lt'_eq];refine Ao (wpS_get ?_);subst hk;exact Ao (wpS_lift (wpAny_attempt (C.lt _ _ g h bg bh ⟨rfl,At q⟩)))
def lF(C:Cm prog w A s k f N c)(R:Rp k f N st γ){i j g h:Nat}(ei:γ[i]?=some g)(ej:γ[j]?=some h){Q:Option Bool->SortSt->Prop}(q:Q (some (c g h)) st):wpS (model prog w) A E s (ltAt' i j) Q st:=by
 rw[ltAt'_eq];refine Ao (wpS_get ?_);dsimp only;rw[elem'_eq,elem'_eq,R.at ei,R.at ej];exact Ao (At (Ao (At (Lb C R.kind (R.bnd ei) (R.bnd ej) q))))
end
end TS
namespace TS
open PySem PyProof.Rows
def Sg(c:Nat->Nat->Bool)(γ:Array Nat)(lo hi:Nat):Prop:=∀i j g h,lo<=i->i<j->j<hi->γ[i]?=some g->γ[j]?=some h->Bf c g h
def Ow(γ:Array Nat)(lo hi:Nat):Prop:=∀i g,lo<=i->i<hi->γ[i]?=some g->lo<=g/\g<hi
def Raw(γ:Array Nat)(lo hi:Nat):Prop:=∀i,lo<=i->i<hi->γ[i]?=some i
def Out(γ γ':Array Nat)(lo hi:Nat):Prop:=∀i,i<lo∨hi<=i->γ'[i]?=γ[i]?
def Out.refl(γ:Array Nat)(lo hi:Nat):Out γ γ lo hi:=fun _ _=>rfl
section
variable {prog:Program}{w:World}{A:Around}{E:Value->Shared->Prop}{s:Shared}{k:SortKind}{f:Nat->Keyed}{N:Nat}{c:Nat->Nat->Bool}{st:SortSt}{γ:Array Nat}
def DX{γ:Array Nat}(h:i<γ.size):∃g,γ[i]?=some g:=⟨_,Array.getElem?_eq_getElem h⟩
def mid(h:l<u):l<=(l+u) / 2/\(l+u) / 2<u:=⟨(Nat.le_div_iff_mul_le (by decide)).mpr (by lia),(Nat.div_lt_iff_lt_mul (by decide)).mpr (by lia)⟩
def LL(h:u-l<=m-y)(h1:t<u)(h2:l<=t):t-l<=m-(y+1):=Wc (A9 (Nat.le_sub_one_of_lt h1) l) (by rw[Nat.sub_right_comm,← Nat.sub_sub];exact A9 h 1)
def LM(h:u-l<=m-y)(h1:l<=t)(h2:t<u):u-(t+1)<=m-(y+1):=by rw[← Nat.sub_sub,← Nat.sub_sub];exact A9 (Wc (Nat.sub_le_sub_left h1 u) h) 1
inductive Bub(γ:Array Nat)(a b i g:Nat):Prop
 | at_ (h:i=a) (e:γ[b]?=some g)
 | mid (j:Nat) (h:i=j+1) (k:a<=j) (l:j<b) (e:γ[j]?=some g)
 | lo (h:i<a) (e:γ[i]?=some g)
 | hi (h:b<i)
def qG(e:(if i=a then γ[b]? else if a<i/\i<=b then γ[i-1]? else γ[i]?)=some g):Bub γ a b i g:=by
 by_cases h:i=a
 ·rw[Ag h]at e;exact .at_ h e
 ·rw[Al h]at e;by_cases h2:a<i/\i<=b
  ·rw[Ag h2]at e;obtain⟨j,rfl⟩:=Nat.exists_eq_add_one_of_ne_zero (Qk (Zl (Wh _) h2.1));exact .mid j rfl (Nat.le_of_lt_succ h2.1) h2.2 e
  ·rw[Al h2]at e;by_cases h3:i<a
   ·exact .lo h3 e
   ·exact .hi (Wm fun z=>h2 ⟨Nat.lt_of_le_of_ne (Ym h3) (AC h),z⟩)
def DY(hab:a<=b)(h:b<i):(if i=a then γ[b]? else if a<i/\i<=b then γ[i-1]? else γ[i]?)=γ[i]?:=by
 rw[Al (Qk (Zl hab h)),Al fun z=>By h z.2]
def Jo(h:i<a):(if i=a then γ[b]? else if a<i/\i<=b then γ[i-1]? else γ[i]?)=γ[i]?:=by
 rw[Al (Vf h),Al fun z=>Nat.lt_asymm h z.1]
def F6(C:Cm prog w A s k f N c)(R:Rp k f N st γ){lo n ok:Nat}(hn:lo+n<=N)(h1:1<=ok)(hok:ok<=n)(sg:Sg c γ lo (lo+ok))(ow:Ow γ lo (lo+ok))(raw:Raw γ (lo+ok) N)
  {Q:Bool->SortSt->Prop}(q:∀(x:Array Keyed)(γ':Array Nat),Rp k f N (setArr st x) γ'->Sg c γ' lo (lo+n)->Ow γ' lo (lo+n)->Raw γ' (lo+n) N->Out γ γ' lo (lo+n)->Q true (setArr st x)) :
  wpS (model prog w) A E s (binarySort' lo n ok) Q st:=by
 rw[binarySort'_eq]
 refine Ao (A7 (AN (I:=fun m r st'=>r=(none,())/\∃x γ',st'=setArr st x/\Rp k f N st' γ'/\Sg c γ' lo (lo+m)/\Ow γ' lo (lo+m)/\Raw γ' (lo+m) N/\Out γ γ' lo (lo+m))
  (Q:=fun r st'=>r=(none,())/\∃x γ',st'=setArr st x/\Rp k f N st' γ'/\Sg c γ' lo (lo+n)/\Ow γ' lo (lo+n)/\Raw γ' (lo+n) N/\Out γ γ' lo (lo+n)) ?step ?fin ?init) ?post)
 case post =>
  rintro r st' ⟨rfl,x,γ',rfl,R',a1,a2,a3,a4⟩;exact At (q x γ' R' a1 a2 a3 a4)
 case init =>
  rw[show max ok 1=ok by lia]
  exact⟨rfl,arrOf st,γ,rfl,R,sg,ow,raw,Out.refl _ _ _⟩
 case fin =>
  rintro r st' h;rw[show max (max ok 1) n=n by lia]at h
  exact h
 case step =>
  rintro m r st' hm hmn ⟨rfl,x,γ',rfl,R',a1,a2,a3,a4⟩;have em:γ'[lo+m]?=some (lo+m):=a3 (lo+m) (Xb _) (by lia)
  refine Ao (A7 (AN (I:=fun y r st''=>st''=setArr st x/\∃l u,r=(none,l,u)/\l<=u/\u<=m/\u-l<=m-y /\
    (∀i g,lo<=i->i<lo+l->γ'[i]?=some g->c (lo+m) g=false)/\(∀i g,lo+u<=i->i<lo+m->γ'[i]?=some g->c (lo+m) g=true))
   (Q:=fun r st''=>st''=setArr st x/\∃l u,r=(none,l,u)/\l<=m /\
    (∀i g,lo<=i->i<lo+l->γ'[i]?=some g->c (lo+m) g=false)/\(∀i g,lo+l<=i->i<lo+m->γ'[i]?=some g->c (lo+m) g=true)) ?istep ?ifin ?iinit) ?ipost)
  case iinit=>exact⟨rfl,0,m,rfl,by lia,by lia,by lia,fun i g p1 p2=>by lia,fun i g p1 p2=>by lia⟩
  case ifin =>
   rintro r st'' ⟨rfl,l,u,rfl,b1,b2,b3,b4,b5⟩;obtain rfl:l=u:=by lia
   exact⟨rfl,l,l,rfl,b2,b4,b5⟩
  case istep =>
   rintro y r st'' _ hy ⟨rfl,l,u,rfl,b1,b2,b3,b4,b5⟩;dsimp only;by_cases hge:l ≥ u
   ·refine sQ hge ?_;obtain rfl:l=u:=by lia
    exact At ⟨rfl,l,l,rfl,b2,b4,b5⟩
   ·refine qF hge ?_;have hq:l<=(l+u) / 2/\(l+u) / 2<u:=mid (Wm hge);generalize (l+u) / 2=t at hq;obtain⟨q1,q2⟩:=hq;have q3:t-l<=m-(y+1):=LL b3 q2 q1;have q4:u-(t+1)<=m-(y+1):=LM b3 q1 q2;obtain⟨g,eg⟩:=DX (γ:=γ') (i:=lo+t) (by rw[R'.size];lia)
    refine Ao (lF C R' em eg ?_);cases hc:c (lo+m) g with
    | true =>
     refine At ⟨rfl,l,t,rfl,q1,by lia,q3,b4,fun i g' p1 p2 e=>?_⟩
     by_cases hi:i=lo+t
     ·subst hi;rw[eg]at e;cases e;exact hc
     ·have bf:=a1 _ i g g' (by lia) (by lia) p2 eg e
      rcases C.neg _ g' _ hc with z|z
      ·exact z
      ·rw[C.le bf]at z;cases z
    | false =>
     refine At ⟨rfl,t+1,u,rfl,q2,b2,q4,fun i g' p1 p2 e=>?_,b5⟩;by_cases hi:i=lo+t
     ·subst hi;rw[eg]at e;cases e;exact hc
     ·have bf:=a1 i _ g' g p1 (by lia) (by lia) e eg
      exact C.letr (C.le bf) hc
  case ipost =>
   rintro r st'' ⟨rfl,l,u,rfl,b2,b4,b5⟩;show wpS _ _ _ _ (do moveDown' (lo+m) (lo+l);pure (ForInStep.yield (none,()))) _ _
   rw[moveDown'_eq];have hs:lo+m<γ'.size:=by rw[R'.size];lia
   have gb:=getElem?_bubble hs (lo+m-(lo+l)) (Nat.sub_le _ _);rw[Nat.sub_sub_self (Wi b2 lo)]at gb;refine Ao (wpS_modify (At ⟨rfl,bubble x (lo+m) (lo+m-(lo+l)),bubble γ' (lo+m) (lo+m-(lo+l)),rfl,R'.put (bubble_perm _ _ _) ?_,?_,?_,?_,?_⟩))
   ·rw[R'.arr,w5]
   ·intro i j g h p1 p2 p3 e1 e2;rw[gb]at e1 e2;cases qG e1 with
    | at_ y e1 =>
     rw[em]at e1;cases e1;cases qG e2 with
     | at_ z e2=>lia
     | mid j' z z1 z2 e2=>exact .inl (b5 _ h z1 z2 e2)
     | lo z e2=>lia
     | hi z=>lia
    | mid i' y y1 y2 e1 =>
     cases qG e2 with
     | at_ z e2=>lia
     | mid j' z z1 z2 e2=>exact a1 _ _ g h (Wc (Xj _ _) y1) (by lia) z2 e1 e2
     | lo z e2=>lia
     | hi z=>lia
    | lo y e1 =>
     have ym:i<lo+m:=Yc y (Wi b2 lo);cases qG e2 with
     | at_ z e2 =>
      rw[em]at e2;cases e2;exact .inr ⟨b4 i g p1 y e1,(a2 i g p1 ym e1).2⟩
     | mid j' z z1 z2 e2=>exact a1 i _ g h p1 (Yc y z1) z2 e1 e2
     | lo z e2=>exact a1 i j g h p1 p2 (Yc z (Wi b2 lo)) e1 e2
     | hi z=>lia
    | hi y=>lia
   ·intro i g p1 p2 e;rw[gb]at e;cases qG e with
    | at_ z e=>rw[em]at e;cases e;exact⟨Xj _ _,Bz _⟩
    | mid j z z1 z2 e=>exact⟨(a2 _ g (Wc (Xj _ _) z1) z2 e).1,Bs (a2 _ g (Wc (Xj _ _) z1) z2 e).2⟩
    | lo z e =>
     have ym:i<lo+m:=Yc z (Wi b2 lo);exact⟨(a2 i g p1 ym e).1,Bs (a2 i g p1 ym e).2⟩
    | hi z=>lia
   ·intro i p1 p2;rw[gb,DY (Wi b2 lo) p1];exact a3 i (Vk p1) p2
   ·intro i p;rw[gb];rcases p with p|p
    ·rw[Jo (Yc p (Xj _ _))];exact a4 i (.inl p)
    ·rw[DY (Wi b2 lo) p];exact a4 i (.inr (Vk p))
end
end TS
namespace TS
open PySem PyProof.Rows
section
variable {prog:Program}{w:World}{A:Around}{E:Value->Shared->Prop}{s:Shared}{k:SortKind}{f:Nat->Keyed}{N:Nat}{c:Nat->Nat->Bool}{st:SortSt}{γ:Array Nat}
def Sg.more(C:Cm prog w A s k f N c){lo n g h:Nat}(sg:Sg c γ lo n)(h1:lo<n)(e:γ[n-1]?=some g)(e':γ[n]?=some h)(b:Bf c g h):Sg c γ lo (n+1):=by
 intro i j g' h' p1 p2 p3 e1 e2;by_cases hj:j<n
 ·exact sg i j g' h' p1 p2 hj e1 e2
 ·obtain rfl:j=n:=by lia
  rw[e']at e2;cases e2;by_cases hi:i=j-1
  ·subst hi;rw[e]at e1;cases e1;exact b
  ·exact C.trans (sg i (j-1) g' g p1 (by lia) (by lia) e1 e) b
def vA(C:Cm prog w A s k f N c){lo x h:Nat}(sg:Sg c γ lo (lo+x))(ow:Ow γ lo (lo+x))(raw:Raw γ (lo+x) N)(h1:1<=x)(hx:lo+x<N)(e:γ[lo+x-1]?=some h)(hc:c (lo+x) h=false) :
  Sg c γ lo (lo+(x+1))/\Ow γ lo (lo+(x+1))/\Raw γ (lo+(x+1)) N:=by
 have en:=raw (lo+x) (Xb _) hx;refine⟨sg.more C (by lia) e en (.inr ⟨hc,(ow _ h (by lia) (by lia) e).2⟩),fun i g p1 p2 e1=>?_,fun i p1 p2=>raw i (by lia) p2⟩
 by_cases hi:i<lo+x
 ·have:=ow i g p1 hi e1;lia
 ·obtain rfl:i=lo+x:=by lia
  rw[en]at e1;cases e1;lia
structure Fl(c:Nat->Nat->Bool)(γ:Array Nat)(lo m n:Nat):Prop where
 le:lo<=m
 lt:m<n
 fall:∀i j g h,lo<=i->i<j->j<m->γ[i]?=some g->γ[j]?=some h->Bf c h g
 cross:∀i j g h,lo<=i->i<m->m<=j->j<n->γ[i]?=some g->γ[j]?=some h->c h g=true
 same:∀i j g h,m<=i->i<n->m<=j->j<n->γ[i]?=some g->γ[j]?=some h->c g h=false
 raw:Raw γ m n
 own:Ow γ lo n
def Fa(c:Nat->Nat->Bool)(γ:Array Nat)(lo n:Nat):Prop:=∀i j g h,lo<=i->i<j->j<n->γ[i]?=some g->γ[j]?=some h->Bf c h g
def mB(hn:n<=γ.size)(h1:a<=i)(h2:i<n):∃i',a<=i'/\i'<n/\i+i'+1=a+n/\(mirror γ a n ((n-a) / 2))[i]?=γ[i']? :=
 ⟨a+n-1-i,by lia,by lia,by lia,by rw[getElem?_mirror_all hn,Ag ⟨h1,h2⟩]⟩
def jp(hn:n<=γ.size)(h:i<a∨n<=i):(mirror γ a n ((n-a) / 2))[i]?=γ[i]?:=by
 rw[getElem?_mirror_all hn,Al fun z=>h.elim (fun q=>By q z.1) fun q=>By z.2 q]
def B4{lo n:Nat}(fa:Fa c γ lo n)(hn:n<=γ.size):Sg c (mirror γ lo n ((n-lo) / 2)) lo n:=by
 intro i j g h p1 p2 p3 e1 e2;obtain⟨i',a1,a2,a3,a4⟩:=mB (γ:=γ) hn p1 (Br p2 p3);obtain⟨j',b1,b2,b3,b4⟩:=mB (γ:=γ) hn (Wc p1 (Vk p2)) p3;exact fa j' i' h g b1 (by lia) a2 (b4 ▸ e2) (a4 ▸ e1)
def lG{lo a n:Nat}(ow:Ow γ lo n)(ha:lo<=a)(hn:n<=γ.size):Ow (mirror γ a n ((n-a) / 2)) lo n:=by
 intro i g p1 p2 e;by_cases hi:a<=i
 ·obtain⟨i',a1,a2,a3,a4⟩:=mB (γ:=γ) hn hi p2;exact ow i' g (Wc ha a1) a2 (a4 ▸ e)
 ·rw[jp hn (.inl (Wm hi))]at e;exact ow i g p1 p2 e
def gO(raw:Raw γ n m)(hn:n<=γ.size):Raw (mirror γ a n ((n-a) / 2)) n m:=by
 intro i p1 p2;rw[jp hn (.inr p1)];exact raw i p1 p2
def jq{lo a n:Nat}{γ':Array Nat}(o:Out γ γ' lo n)(ha:lo<=a)(hn:n<=γ'.size):Out γ (mirror γ' a n ((n-a) / 2)) lo n:=by
 intro i p;rw[jp hn (p.imp (fun q=>Yc q ha) id)];exact o i p
def Out.wide{lo n n':Nat}{γ':Array Nat}(o:Out γ γ' lo n)(h:n<=n'):Out γ γ' lo n':=fun i p=>o i (by lia)
def Fl.turn{lo m n:Nat}(F:Fl c γ lo m n)(hn:n<=γ.size):Fa c (mirror γ m n ((n-m) / 2)) lo n:=by
 intro i j g h p1 p2 p3 e1 e2;by_cases hj:j<m
 ·rw[jp hn (.inl (Br p2 hj))]at e1;rw[jp hn (.inl hj)]at e2;exact F.fall i j g h p1 p2 hj e1 e2
 obtain⟨j',b1,b2,b3,b4⟩:=mB (γ:=γ) hn (Ym hj) p3;rw[b4]at e2;by_cases hi:i<m
 ·rw[jp hn (.inl hi)]at e1;exact .inl (F.cross i j' g h p1 hi b1 b2 e1 e2)
 ·obtain⟨i',a1,a2,a3,a4⟩:=mB (γ:=γ) hn (Ym hi) (Br p2 p3);rw[a4]at e1;refine .inr ⟨F.same i' j' g h a1 a2 b1 b2 e1 e2,?_⟩;rw[F.raw i' a1 a2]at e1;rw[F.raw j' b1 b2]at e2;cases e1;cases e2;lia
def Fl.fa1{lo m:Nat}(F:Fl c γ lo m (m+1)):Fa c γ lo (m+1):=by
 intro i j g h p1 p2 p3 e1 e2;by_cases hj:j<m
 ·exact F.fall i j g h p1 p2 hj e1 e2
 ·exact .inl (F.cross i j g h p1 (by lia) (by lia) p3 e1 e2)
def Fa.next(C:Cm prog w A s k f N c){lo n g:Nat}(fa:Fa c γ lo n)(ow:Ow γ lo n)(raw:Raw γ n N)(hl:lo<n)(hn:n<N)(z:∀i g,lo<=i->i<n->γ[i]?=some g->c n g=true):Fl c γ lo n (n+1):=by
 have en:=raw n (Xb _) hn;refine⟨by lia,by lia,fa,fun i j g h p1 p2 p3 p4 e1 e2=>?_,fun i j g h p1 p2 p3 p4 e1 e2=>?_,fun i p1 p2=>raw i p1 (by lia),fun i g p1 p2 e=>?_⟩
 ·obtain rfl:j=n:=by lia
  rw[en]at e2;cases e2;exact z i g p1 p2 e1
 ·obtain rfl:i=n:=by lia
  obtain rfl:j=i:=by lia
  rw[en]at e1 e2;cases e1;cases e2;exact C.irr _
 ·by_cases hi:i<n
  ·have:=ow i g p1 hi e;lia
  ·obtain rfl:i=n:=by lia
   rw[en]at e;cases e;lia
def Fl.more(C:Cm prog w A s k f N c){lo m n:Nat}(F:Fl c γ lo m n)(raw:Raw γ n N)(hn:n<N)(z1:c n (n-1)=false)(z2:c (n-1) n=false):Fl c γ lo m (n+1):=by
 have en:=raw n (Xb _) hn;have ep:=F.raw (n-1) (by have:=F.lt;lia) (by have:=F.lt;lia)
 have hlt:=F.lt;have hle:=F.le;refine⟨hle,by lia,F.fall,fun i j g h p1 p2 p3 p4 e1 e2=>?_,fun i j g h p1 p2 p3 p4 e1 e2=>?_,fun i p1 p2=>?_,fun i g p1 p2 e=>?_⟩
 ·by_cases hj:j<n
  ·exact F.cross i j g h p1 p2 p3 hj e1 e2
  ·obtain rfl:j=n:=by lia
   rw[en]at e2;cases e2;rcases C.neg _ j _ (F.cross i (j-1) g (j-1) p1 p2 (by lia) (by lia) e1 ep) with q|q
   ·rw[z2]at q;cases q
   ·exact q
 ·have key:∀a g,m<=a->a<n+1->γ[a]?=some g->c g (n-1)=false/\c (n-1) g=false:=by
   intro a g q1 q2 e;by_cases ha:a<n
   ·exact⟨F.same a (n-1) g (n-1) q1 ha (by lia) (by lia) e ep,F.same (n-1) a (n-1) g (by lia) (by lia) q1 ha ep e⟩
   ·obtain rfl:a=n:=by lia
    rw[en]at e;cases e;exact⟨z1,z2⟩
  exact C.letr (key j h p3 p4 e2).2 (key i g p1 p2 e1).1
 ·by_cases hi:i<n
  ·exact F.raw i p1 hi
  ·exact raw i (by lia) (by lia)
 ·by_cases hi:i<n
  ·have:=F.own i g p1 hi e;lia
  ·obtain rfl:i=n:=by lia
   rw[en]at e;cases e;lia
def Fl.below(C:Cm prog w A s k f N c){lo m n x:Nat}(F:Fl c γ lo m n)(z:c x (n-1)=true):∀i g,lo<=i->i<n->γ[i]?=some g->c x g=true:=by
 have hlt:=F.lt;have ep:=F.raw (n-1) (by lia) (by lia)
 intro i g p1 p2 e;rcases C.neg x g _ z with q|q
 ·exact q
 ·by_cases hi:i<m
  ·exact absurd (F.cross i (n-1) g (n-1) p1 hi (by lia) (by lia) e ep) (by rw[C.asy q];exact Bool.noConfusion)
  ·rw[F.same i (n - 1) g (n - 1) (by lia) p2 (by lia) (by lia) e ep]at q;cases q
def Rn(k:SortKind)(f:Nat->Keyed)(N:Nat)(c:Nat->Nat->Bool)(lo:Nat)(st:SortSt)(γ:Array Nat)(n:Nat)(st':SortSt):Prop :=
 ∃x γ',st'=setArr st x/\Rp k f N st' γ'/\Sg c γ' lo (lo+n)/\Ow γ' lo (lo+n)/\Raw γ' (lo+n) N/\Out γ γ' lo (lo+n)
def vB(lo n nrem:Nat):StateT SortSt Sem (Option Nat):=do
 reverseSlice' lo (lo+n)
 let r ← forIn [n:nrem] ((none,n):Option (Option Nat)×Nat) fun _ r=>do
  match ← ltAt' (lo+r.2) (lo+r.2-1) with
  | some smaller=>if smaller=true then pure (ForInStep.done (none,r.2)) else pure (ForInStep.yield (none,r.2+1))
  | _=>pure (ForInStep.done (some none,r.2))
 match r.1 with
 | some z=>pure z
 | none=>pure (some r.2)
def qH(lo x nrem:Nat):StateT SortSt Sem (Option Nat):=do
 liftM (rule "list.sort.descending-run")
 let r ← forIn [x+1:nrem] ((none,x+1,0):Option (Option Nat)×Nat×Nat) fun _ r=>do
  match ← ltAt' (lo+r.2.1) (lo+r.2.1-1) with
  | some smaller =>
   if smaller=true then
    if r.2.2 > 0 then do
     reverseSlice' (lo+r.2.1-(r.2.2+1)) (lo+r.2.1)
     pure (ForInStep.yield (none,r.2.1+1,0))
    else pure (ForInStep.yield (none,r.2.1+1,0))
   else do
    match ← ltAt' (lo+r.2.1-1) (lo+r.2.1) with
    | some larger=>if larger=true then pure (ForInStep.done (none,r.2.1,r.2.2)) else pure (ForInStep.yield (none,r.2.1+1,r.2.2+1))
    | _=>pure (ForInStep.done (some none,r.2.1,r.2.2))
  | _=>pure (ForInStep.done (some none,r.2.1,r.2.2))
 match r.1 with
 | some z=>pure z
 | none =>
  if r.2.2 > 0 then do
   reverseSlice' (lo+r.2.1-(r.2.2+1)) (lo+r.2.1)
   vB lo r.2.1 nrem
  else vB lo r.2.1 nrem
def ud(h:Q () (setArr st (mirror (arrOf st) i j ((j-i) / 2)))):wpS (model prog w) A E s (reverseSlice' i j) Q st:=by
 rw[reverseSlice'_eq];exact wpS_modify h
def yF(C:Cm prog w A s k f N c){st₀:SortSt}{γ₀:Array Nat}{lo n:Nat}{y:Array Keyed}(R:Rp k f N (setArr st₀ y) γ)(h1:1<=n)(hn:lo+n<=N)(fa:Fa c γ lo (lo+n))(ow:Ow γ lo (lo+n))(raw:Raw γ (lo+n) N)(out:Out γ₀ γ lo (lo+n))
  {Q:Option Nat->SortSt->Prop}(q:∀n st',1<=n->lo+n<=N->Rn k f N c lo st₀ γ₀ n st'->Q (some n) st'):wpS (model prog w) A E s (vB lo n (N-lo)) Q (setArr st₀ y):=by
 have hs:lo+n<=γ.size:=by rw[R.size];exact hn
 refine Ao (ud ?_);have R1:Rp k f N (setArr st₀ (mirror y lo (lo+n) ((lo+n-lo) / 2))) (mirror γ lo (lo+n) ((lo+n-lo) / 2)):=R.put (mirror_perm _ _ _ _) (by rw[show y=γ.map f from R.arr,jm])
 have sg:=B4 fa hs;have ow':=lG ow (Xb lo) hs;have raw':=gO (a:=lo) raw hs;have out':=jq out (Xb lo) hs;generalize mirror γ lo (lo+n) ((lo+n-lo) / 2)=δ at R1 sg ow' raw' out';generalize mirror y lo (lo+n) ((lo+n-lo) / 2)=y' at R1
 refine Ao (A7 (AN (I:=fun x r st'=>st'=setArr st₀ y'/\r=(none,x)/\n<=x/\lo+x<=N/\Sg c δ lo (lo+x)/\Ow δ lo (lo+x)/\Raw δ (lo+x) N)
  (Q:=fun r st'=>st'=setArr st₀ y'/\∃x,r=(none,x)/\n<=x/\lo+x<=N/\Sg c δ lo (lo+x)/\Ow δ lo (lo+x)/\Raw δ (lo+x) N) ?step ?fin ?init) ?post)
 case init=>exact⟨rfl,rfl,Xb _,hn,sg,ow',raw'⟩
 case fin =>
  rintro r st' ⟨rfl,rfl,b1,b2,b3,b4,b5⟩;exact⟨rfl,_,rfl,b1,b2,b3,b4,b5⟩
 case step =>
  rintro x r st' p1 p2 ⟨rfl,rfl,b1,b2,b3,b4,b5⟩;dsimp only;have en:=b5 (lo+x) (by lia) (by lia)
  obtain⟨g,ep⟩:=DX (γ:=δ) (i:=lo+x-1) (by rw[R1.size];lia)
  refine Ao (lF C R1 en ep ?_);cases hc:c (lo+x) g with
  | true=>exact At ⟨rfl,x,rfl,b1,b2,b3,b4,b5⟩
  | false =>
   obtain⟨a1,a2,a3⟩:=vA C b3 b4 b5 (by lia) (by lia) ep hc
   exact At ⟨rfl,rfl,by lia,by lia,a1,a2,a3⟩
 case post =>
  rintro r st' ⟨rfl,x,rfl,b1,b2,b3,b4,b5⟩;exact At (q x _ (by lia) b2 ⟨y',δ,rfl,R1,b3,b4,b5,out'.wide (by lia)⟩)
set_option tactic.hygienic true in
def yG(C:Cm prog w A s k f N c){st₀:SortSt}{γ₀:Array Nat}{lo x:Nat}{y:Array Keyed}(R:Rp k f N (setArr st₀ y) γ)(hx:lo+x<N)(F:Fl c γ lo (lo+x) (lo+x+1))(raw:Raw γ (lo+x+1) N)(out:Out γ₀ γ lo (lo+x+1))
  {Q:Option Nat->SortSt->Prop}(q:∀n st',1<=n->lo+n<=N->Rn k f N c lo st₀ γ₀ n st'->Q (some n) st'):wpS (model prog w) A E s (qH lo x (N-lo)) Q (setArr st₀ y):=by
 refine Ao (wpS_lift (AU ⟨rfl,?_⟩))
 refine Ao (A7 (AN (I:=fun n r st'=>∃e y' δ,r=(none,n,e)/\st'=setArr st₀ y'/\Rp k f N (setArr st₀ y') δ/\e+1<=n/\lo+n<=N/\Fl c δ lo (lo+n-(e+1)) (lo+n)/\Raw δ (lo+n) N/\Out γ₀ δ lo (lo+n))
  (Q:=fun r st'=>∃n e y' δ,r=(none,n,e)/\st'=setArr st₀ y'/\Rp k f N (setArr st₀ y') δ/\e+1<=n/\lo+n<=N/\Fl c δ lo (lo+n-(e+1)) (lo+n)/\Raw δ (lo+n) N/\Out γ₀ δ lo (lo+n)) ?step ?fin ?init) ?post)
 case init=>exact⟨0,y,γ,rfl,rfl,R,by lia,by lia,F,raw,out⟩
 case fin =>
  rintro r st' ⟨e,y',δ,h⟩;exact⟨_,e,y',δ,h⟩
 case step =>
  rintro n r st' p1 p2 ⟨e,y',δ,rfl,rfl,R1,b1,b2,F1,raw1,out1⟩;dsimp only;have en:=raw1 (lo+n) (Xb _) (by lia)
  have s1:1<=lo+n:=by lia
  have ep:=F1.raw (lo+n-1) (Nat.sub_le_sub_left (Nat.succ_le_succ (Wh e)) _) (Nat.sub_lt s1 Nat.one_pos);have hs:lo+n<=δ.size:=by rw[R1.size];exact b2
  refine Ao (lF C R1 en ep ?_);cases hc:c (lo+n) (lo+n-1) with
  | true =>
   dsimp only;refine sQ rfl ?_;have bl:=F1.below C hc;by_cases he:e > 0
   ·refine sQ he ?_;refine Ao (ud (At ?_));have fa:=F1.turn hs;have ow':=lG F1.own F1.le hs;have raw':=gO (a:=lo+n-(e+1)) raw1 hs;have out':=jq out1 F1.le hs;refine⟨0,_,mirror δ (lo+n-(e+1)) (lo+n) ((lo+n-(lo+n-(e+1))) / 2),rfl,rfl,R1.put (mirror_perm _ _ _ _) (by rw[show arrOf (setArr st₀ y')=δ.map f from R1.arr,jm]),by lia,by lia,?_,fun i q1 q2=>raw' i (by lia) q2,out'.wide (by lia)⟩
    refine fa.next C (g:=0) ow' raw' (by lia) (by lia) fun i g q1 q2 e1=>?_
    by_cases hi:lo+n-(e+1)<=i
    ·obtain⟨i',a1,a2,_,a4⟩:=mB (γ:=δ) hs hi q2;exact bl i' g (Wc F1.le a1) a2 (a4 ▸ e1)
    ·rw[jp hs (.inl (Wm hi))]at e1;exact bl i g q1 q2 e1
   ·obtain rfl:e=0:=by lia
    refine qF he ?_;have F2:Fl c δ lo (lo+n-1) (lo+n-1+1):=by rw[Yl s1];exact F1
    have fa:=F2.fa1;rw[Yl s1]at fa;exact At ⟨0,y',δ,rfl,rfl,R1,by lia,by lia,fa.next C (g:=0) F1.own raw1 (by lia) (by lia) bl,fun i q1 q2=>raw1 i (by lia) q2,out1.wide (by lia)⟩
  | false =>
   dsimp only;refine qF Bool.noConfusion ?_;refine Ao (lF C R1 ep en ?_);cases hc2:c (lo+n-1) (lo+n) with
   | true=>exact At ⟨n,e,y',δ,rfl,rfl,R1,b1,b2,F1,raw1,out1⟩
   | false =>
    refine At ⟨e+1,y',δ,rfl,rfl,R1,by lia,by lia,?_,fun i q1 q2=>raw1 i (by lia) q2,out1.wide (by lia)⟩
    rw[show lo+(n+1) - (e+1+1)=lo+n - (e+1) from Nat.succ_sub_succ _ _];exact F1.more C raw1 (by lia) hc hc2
 case post =>
  rintro r st' ⟨n,e,y',δ,rfl,rfl,R1,b1,b2,F1,raw1,out1⟩;have hs:lo+n<=δ.size:=by rw[R1.size];exact b2
  have s1:1<=lo+n:=by lia
  dsimp only;by_cases he:e > 0
  ·refine sQ he ?_;refine Ao (ud ?_);exact yF C (γ:=mirror δ (lo+n-(e+1)) (lo+n) ((lo+n-(lo+n-(e+1))) / 2)) (R1.put (mirror_perm _ _ _ _) (by rw[show arrOf (setArr st₀ y')=δ.map f from R1.arr,jm])) (by lia) b2 (F1.turn hs) (lG F1.own F1.le hs) (gO (a:=lo+n-(e+1)) raw1 hs) (jq out1 F1.le hs) q
  ·obtain rfl:e=0:=by lia
   refine qF he ?_;have F2:Fl c δ lo (lo+n-1) (lo+n-1+1):=by rw[Yl s1];exact F1
   have fa:=F2.fa1;rw[Yl s1]at fa;exact yF C R1 (by lia) b2 fa F1.own raw1 out1 q
set_option tactic.hygienic true in
def Jp(C:Cm prog w A s k f N c)(R:Rp k f N st γ){lo:Nat}(hl:lo<N)(raw:Raw γ lo N)
  {Q:Option Nat->SortSt->Prop}(q:∀n st',1<=n->lo+n<=N->Rn k f N c lo st γ n st'->Q (some n) st'):wpS (model prog w) A E s (countRun' lo (N-lo)) Q st:=by
 rw[countRun'_eq];have sg1:Sg c γ lo (lo+1):=fun i j g h p1 p2 p3=>by lia
 have ow1:Ow γ lo (lo+1):=fun i g p1 p2 e=>by
  obtain rfl:i=lo:=by lia
  rw[raw i (Xb _) hl]at e;cases e;lia
 refine Ao (A7 (AN (I:=fun x r st'=>st'=st/\r=(none,x)/\1<=x/\lo+x<=N/\Sg c γ lo (lo+x)/\Ow γ lo (lo+x)/\∀i g h,lo<=i->i+1<lo+x->γ[i]?=some g->γ[i+1]?=some h->c h g=false)
  (Q:=fun r st'=>st'=st/\∃x,r=(none,x)/\1<=x/\lo+x<=N/\Sg c γ lo (lo+x)/\Ow γ lo (lo+x)/\(lo+x=N∨c (lo+x) (lo+x-1)=true)) ?step ?fin ?init) ?post)
 case init=>exact⟨rfl,rfl,by lia,by lia,sg1,ow1,fun i g h p1 p2=>by lia⟩
 case fin =>
  rintro r st' ⟨rfl,rfl,b1,b2,b3,b4,b5⟩;exact⟨rfl,_,rfl,b1,b2,b3,b4,.inl (by lia)⟩
 case step =>
  rintro x r st' p1 p2 ⟨rfl,rfl,b1,b2,b3,b4,b5⟩;dsimp only;have en:=raw (lo+x) (by lia) (by lia)
  have ep:=raw (lo+x-1) (by lia) (by lia)
  refine Ao (lF C R en ep ?_);cases hc:c (lo+x) (lo+x-1) with
  | true=>exact At ⟨rfl,x,rfl,b1,b2,b3,b4,.inr hc⟩
  | false =>
   obtain⟨a1,a2,_⟩:=vA C b3 b4 (fun i q1 q2=>raw i (by lia) q2) b1 (by lia) ep hc
   refine At ⟨rfl,rfl,by lia,by lia,a1,a2,fun i g h q1 q2 e1 e2=>?_⟩
   rw[raw i q1 (by lia)]at e1
   rw[raw (i+1) (by lia) (by lia)]at e2
   cases e1;cases e2;by_cases hi:i+1<lo+x
   ·exact b5 i i (i+1) q1 hi (raw _ q1 (by lia)) (raw _ (by lia) (by lia))
   ·obtain rfl:i=lo+x-1:=by lia
    rw[show lo+x - 1+1=lo+x by lia];exact hc
 case post =>
  rintro r st' ⟨rfl,x,rfl,b1,b2,b3,b4,b6⟩;dsimp only;by_cases hx:lo+x=N
  ·refine sQ (by simp;lia) ?_
   exact At (q x _ b1 b2 ⟨_,γ,rfl,R,b3,b4,fun i q1 q2=>raw i (by lia) q2,Out.refl _ _ _⟩)
  ·refine qF (by simp;lia) ?_
   have hc:c (lo+x) (lo+x-1)=true:=b6.resolve_left hx;have hs:lo+x<=γ.size:=by rw[R.size];exact b2
   have raw':Raw γ (lo+x) N:=fun i q1 q2=>raw i (by lia) q2
   by_cases h1:x > 1
   ·refine sQ h1 ?_;refine Ao (lF C R (raw lo (Xb _) hl) (raw (lo+x-1) (by lia) (by lia)) ?_)
    cases hr:c lo (lo+x-1) with
    | true=>exact At (q x _ b1 b2 ⟨_,γ,rfl,R,b3,b4,raw',Out.refl _ _ _⟩)
    | false =>
     dsimp only;refine qF Bool.noConfusion ?_;have le:∀a b,lo<=a->a<lo+x->lo<=b->b<lo+x->a<=b->c b a=false:=fun a b p1 p2 p3 p4 p5=>by
      by_cases ab:a=b
      ·subst ab;exact C.irr _
      ·exact C.le (b3 a b a b p1 (by lia) p4 (raw a p1 (by lia)) (raw b p3 (by lia)))
     have al:∀a b,lo<=a->a<lo+x->lo<=b->b<lo+x->c a b=false:=fun a b p1 p2 p3 p4=>by
      by_cases ab:b<=a
      ·exact le b a p3 p4 p1 p2 ab
      ·cases hab:c a b with
       | false=>rfl
       | true =>
        rcases C.neg a lo b hab with z|z
        ·rw[le lo a (Xb _) (by lia) p1 p2 p1]at z;exact z.symm
        ·rcases C.neg lo (lo+x-1) b z with z|z
         ·rw[hr]at z;exact z.symm
         ·rw[le b (lo+x - 1) p3 p4 (by lia) (by lia) (by lia)]at z;exact z.symm
     have F0:Fl c γ lo lo (lo+x):=⟨Xb _,by lia,fun i j g h p1 p2 p3=>by lia,fun i j g h p1 p2=>by lia,fun i j g h p1 p2 p3 p4 e1 e2=>by
      rw[raw i p1 (by lia)]at e1
      rw[raw j p3 (by lia)]at e2
      cases e1;cases e2
      exact al i j p1 p2 p3 p4,fun i p1 p2=>raw i p1 (by lia),b4⟩
     refine Ao (ud ?_);refine(show ∀{m:StateT SortSt Sem (Option Nat)}{t:SortSt},m=qH lo x (N-lo)->wpS (model prog w) A E s (qH lo x (N-lo)) Q t->wpS (model prog w) A E s m Q t from fun e h=>e ▸ h) ?_
      (yG C (st₀:=st') (γ₀:=γ) (γ:=mirror γ lo (lo+x) ((lo+x-lo) / 2)) (R.put (mirror_perm _ _ _ _) (by rw[R.arr,jm])) (by lia)
       ((F0.turn hs).next C (g:=0) (lG b4 (Xb _) hs) (gO (a:=lo) raw' hs) (by lia) (by lia) fun i g p1 p2 e=>?_) (fun i q1 q2=>gO (a:=lo) raw' hs i (by lia) q2) ((jq (Out.refl γ lo (lo+x)) (Xb _) hs).wide (by lia)) q)
     ·unfold qH vB;congr 1;funext _v;congr 1;funext z;obtain⟨z1,z2,z3⟩:=z;cases z1 with
      | some z1=>rfl
      | none =>
       dsimp only;split
       ·congr 1;funext _y;congr 1;funext _u;congr 1;funext z;obtain⟨z1,z2⟩:=z;cases z1<;>rfl
       ·congr 1;funext _u;congr 1;funext z;obtain⟨z1,z2⟩:=z;cases z1<;>rfl
     ·obtain⟨i',a1,a2,_,a4⟩:=mB (γ:=γ) hs p1 p2;exact F0.below C hc i' g a1 a2 (a4 ▸ e)
   ·obtain rfl:x=1:=by lia
    refine qF h1 ?_;have fa:Fa c γ lo (lo+1):=fun i j g h p1 p2 p3=>by lia
    refine(show ∀{m:StateT SortSt Sem (Option Nat)},m=qH lo 1 (N-lo)->wpS (model prog w) A E s (qH lo 1 (N-lo)) Q st'->wpS (model prog w) A E s m Q st' from fun e h=>e ▸ h) ?_ (yG C (st₀:=st') (y:=arrOf st') (γ₀:=γ) (γ:=γ) R (by lia) (fa.next C (g:=0) b4 raw' (by lia) (by lia) fun i g p1 p2 e=>?_) (fun i q1 q2=>raw i (by lia) q2) (Out.refl _ _ _) q)
    ·unfold qH vB;congr 1;funext _v;congr 1;funext z;obtain⟨z1,z2,z3⟩:=z;cases z1 with
     | some z1=>rfl
     | none =>
      dsimp only;split
      ·congr 1;funext _y;congr 1;funext _u;congr 1;funext z;obtain⟨z1,z2⟩:=z;cases z1<;>rfl
      ·congr 1;funext _u;congr 1;funext z;obtain⟨z1,z2⟩:=z;cases z1<;>rfl
    obtain rfl:i=lo:=by lia
    rw[raw i (Xb _) hl]at e;cases e;exact hc
end
end TS
namespace TS
open PySem PyProof.Rows
def LN:StateT SortSt Sem Unit:=sortPriv% PySem.Builtin.sortRuns
section
variable {prog:Program}{w:World}{A:Around}{E:Value->Shared->Prop}{s:Shared}{k:SortKind}{f:Nat->Keyed}{N:Nat}{c:Nat->Nat->Bool}{st:SortSt}{γ:Array Nat}
def Jq(C:Cm prog w A s k f N c)(R:Rp k f N st γ){lo n ok:Nat}(hn:lo+n<=N)(h1:1<=ok)(hok:ok<=n)(sg:Sg c γ lo (lo+ok))(ow:Ow γ lo (lo+ok))(raw:Raw γ (lo+ok) N)
  {Q:Bool->SortSt->Prop}(q:∀(x:Array Keyed)(γ':Array Nat),Rp k f N (setArr st x) γ'->Sg c γ' lo (lo+n)->Ow γ' lo (lo+n)->Raw γ' (lo+n) N->Out γ γ' lo (lo+n)->Q true (setArr st x)) :
  wpS (model prog w) A E s ((sortPriv% PySem.Builtin.binarySort) lo n ok) Q st:=F6 C R hn h1 hok sg ow raw q
def Jr(C:Cm prog w A s k f N c)(R:Rp k f N st γ){lo:Nat}(hl:lo<N)(raw:Raw γ lo N)
  {Q:Option Nat->SortSt->Prop}(q:∀n st',1<=n->lo+n<=N->Rn k f N c lo st γ n st'->Q (some n) st'):wpS (model prog w) A E s ((sortPriv% PySem.Builtin.countRun) lo (N-lo)) Q st:=Jp C R hl raw q
def F7(h64:N<64)(C:Cm prog w A s k f N c)(R:Rp k f N st γ)(hp:pendingOf st=#[])(raw:Raw γ 0 N){Q:Unit->SortSt->Prop}(q:∀st' γ',Rp k f N st' γ'->Sg c γ' 0 N->Q ⟨⟩ st'):wpS (model prog w) A E s LN Q st:=by
 have hsz:((sortPriv% PySem.Builtin.SortState.a) st).size=N:=by
  have:=congrArg Array.size R.arr;rw[Zk,R.size]at this;exact this
 have hmin:(sortPriv% PySem.Builtin.minRun) N N 0=N:=by
  cases N with
  | zero=>rfl
  | succ m =>
   show minRun' (m+1) (m+1) 0=m+1;rw[minRun'_succ,Ag h64]
 refine Ao (wpS_get ?_);dsimp only;rw[hsz,hmin]
 refine Ao (A7 (AN (I:=fun x r st'=>(r=(none,0)/\st'=st/\x=0)∨(r=(none,N)/\(pendingOf st').size<=1/\∃γ',Rp k f N st' γ'/\Sg c γ' 0 N))
  (Q:=fun r st'=>r.1=none/\(pendingOf st').size<=1/\∃γ',Rp k f N st' γ'/\Sg c γ' 0 N) ?step ?fin ?init) ?post)
 case init=>exact .inl ⟨rfl,rfl,rfl⟩
 case fin =>
  rintro r st' (⟨rfl,rfl,hx⟩|⟨rfl,hz,γ',R',g'⟩)
  ·have hN:N=0:=by lia
   subst hN;exact⟨rfl,by rw[hp];exact Wh _,γ,R,fun i j g h z1 z2 z3=>by lia⟩
  ·exact⟨rfl,hz,γ',R',g'⟩
 case step =>
  rintro x r st' _ hxN (⟨rfl,rfl,hx⟩|⟨rfl,hz,γ',R',g'⟩)
  ·dsimp only;have hpos:0<N:=by lia
   rw[Al (by lia)]
   refine Ao (Jr C R hpos raw fun n st1 hn1 hn2 rn=>?_);obtain⟨xa,γ1,hst1,R1,sg1,ow1,raw1,out1⟩:=rn;have pd1:pendingOf st1=#[]:=by rw[hst1];exact hp
   dsimp only;by_cases hm:n<N
   ·rw[Ag hm];refine Ao (wpS_lift (AU ⟨rfl,?_⟩));rw[show min (N - 0) N=N by lia]
    refine Ao (Jq C R1 (n:=N) (by lia) hn1 (by lia) sg1 ow1 raw1 fun xb γ2 R2 sg2 ow2 raw2 out2=>?_)
    rw[Al (by decide)]
    refine Ao (wpS_get ?_);have hb:((sortPriv% PySem.Builtin.SortState.pending) (setArr st1 xb)).back?=none:=by
     show(pendingOf st1).back?=none;rw[pd1];rfl
    rw[hb];refine Ao (wpS_modify (At (.inr ⟨by rw[Xl],?_,γ2,⟨R2.arr,R2.kind,R2.fine,R2.perm⟩,by rw[Xl]at sg2;exact sg2⟩)))
    show((pendingOf st1).push _).size<=1;rw[pd1];exact Xb _
   ·rw[Al hm];obtain rfl:n=N:=by lia
    refine Ao (wpS_get ?_);have hb:((sortPriv% PySem.Builtin.SortState.pending) st1).back?=none:=by
     show(pendingOf st1).back?=none;rw[pd1];rfl
    rw[hb];refine Ao (wpS_modify (At (.inr ⟨by rw[Xl],?_,γ1,⟨R1.arr,R1.kind,R1.fine,R1.perm⟩,by rw[Xl]at sg1;exact sg1⟩)))
    show((pendingOf st1).push _).size<=1;rw[pd1];exact Xb _
  ·dsimp only;rw[Ag (Xb N)];exact At ⟨rfl,hz,γ',R',g'⟩
 case post =>
  rintro⟨r1,r2⟩ st' ⟨hr,hz,γ',R',g'⟩;dsimp only at hr;subst hr;dsimp only;refine Ao (A7 (AN (I:=fun _ r st2=>r=(none,())/\st2=st') (Q:=fun r st2=>r=(none,())/\st2=st') ?step3 ?fin3 ?init3) ?post3)
  case init3=>exact⟨rfl,rfl⟩
  case fin3=>exact fun r st2 h=>h
  case step3 =>
   rintro y r st2 _ _ ⟨rfl,rfl⟩;refine Ao (wpS_get ?_);rw[Ag (show((sortPriv% PySem.Builtin.SortState.pending) st2).size<=1 from hz)];exact At ⟨rfl,rfl⟩
  case post3 =>
   rintro r st2 ⟨rfl,rfl⟩;exact At (q st2 γ' R' g')
end
end TS
namespace VF
open PySem L2
open Classical in
noncomputable def ltL(lt:D->D->Bool):List D->List D->Bool
 | [],[]=>false
 | [],_::_=>true
 | _::_,[]=>false
 | x::xs,y::ys=>if x=y then ltL lt xs ys else lt x y
noncomputable def ltN:Nat->D->D->Bool
 | 0,_,_=>false
 | _+1,.int i,.int j=>decide (i<j)
 | _+1,.str x,.str y=>decide (x.cps.toList<y.cps.toList)
 | n+1,.tup xs,.tup ys=>ltL (ltN n) xs ys
 | _+1,_,_=>false
def Cp:Nat->D->D->Prop
 | 0,_,_=>False
 | _+1,.int _,.int _=>True
 | _+1,.str _,.str _=>True
 | n+1,.tup xs,.tup ys=>∀(i:Nat) x y,xs[i]?=some x->ys[i]?=some y->Cp n x y
 | _+1,_,_=>False
theorem yH:∀(xs:List D),ltL lt xs xs=false
 | []=>rfl
 | x::xs=>by
  unfold ltL;rw[Ag rfl];exact yH xs
theorem p6:∀(n:Nat)(a:D),ltN n a a=false
 | 0,_=>rfl
 | n+1,a=>by
  cases a with
  | int i=>exact Ae (Int.lt_irrefl i)
  | str x=>exact Ae (List.lt_irrefl _)
  | tup xs=>exact yH xs
  | _=>rfl
structure Or(n:Nat):Prop where
 tri:∀{a b:D},Cp n a b->a=b∨ltN n a b=true∨ltN n b a=true
 tra:∀{a b c:D},Cp n a b->Cp n b c->Cp n a c->ltN n a b=true->ltN n b c=true->ltN n a c=true
abbrev Cl(n:Nat)(xs ys:List D):Prop:=∀(i:Nat) x y,xs[i]?=some x->ys[i]?=some y->Cp n x y
def Cl.tail(h:Cl n (x::xs) (y::ys)):Cl n xs ys:=fun i a b e1 e2=>h (i+1) a b (by simpa using e1) (by simpa using e2)
def Cl.head(h:Cl n (x::xs) (y::ys)):Cp n x y:=h 0 x y rfl rfl
open Classical in
def db:ltL lt (x::xs) (x::ys)=ltL lt xs ys:=by
 show(if x=x then ltL lt xs ys else lt x x)=_;rw[Ag rfl]
open Classical in
def bN(h:x≠y):ltL lt (x::xs) (y::ys)=lt x y:=by
 show(if x=y then ltL lt xs ys else lt x y)=_;rw[Al h]
theorem yI(O:Or n):∀{xs ys:List D},Cl n xs ys->xs=ys∨ltL (ltN n) xs ys=true∨ltL (ltN n) ys xs=true
 | [],[],_=>.inl rfl
 | [],_::_,_=>.inr (.inl rfl)
 | _::_,[],_=>.inr (.inr rfl)
 | x::xs,y::ys,h=>by
  by_cases e:x=y
  ·subst e;rw[db,db];rcases yI O h.tail with q|q
   ·exact .inl (by rw[q])
   ·exact .inr q
  ·rw[bN e,bN (AC e)];rcases O.tri h.head with q|q
   ·exact absurd q e
   ·exact .inr q
theorem yJ(O:Or n):∀{xs ys zs:List D},Cl n xs ys->Cl n ys zs->Cl n xs zs->ltL (ltN n) xs ys=true->ltL (ltN n) ys zs=true->ltL (ltN n) xs zs=true
 | [],[],[],_,_,_,h1,_=>h1
 | [],_::_,[],_,_,_,_,h2=>h2
 | [],_,_::_,_,_,_,_,_=>rfl
 | _::_,[],_,_,_,_,h1,_=>by cases h1
 | _::_,_::_,[],_,_,_,_,h2=>by cases h2
 | x::xs,y::ys,z::zs,c1,c2,c3,h1,h2=>by
  by_cases e1:x=y
  ·subst e1;rw[db]at h1;by_cases e2:x=z
   ·subst e2;rw[db]at h2 ⊢;exact yJ O c1.tail c2.tail c3.tail h1 h2
   ·rw[bN e2]at h2 ⊢;exact h2
  ·rw[bN e1]at h1;by_cases e2:y=z
   ·subst e2;rw[bN e1];exact h1
   ·rw[bN e2]at h2;have h3:=O.tra c1.head c2.head c3.head h1 h2;have e3:x≠z:=fun e=>by subst e;rw[p6]at h3;cases h3
    rw[bN e3];exact h3
theorem mC:∀n,Or n
 | 0=>⟨fun h=>h.elim,fun h=>h.elim⟩
 | n+1=>by
  have O:=mC n;refine⟨fun {a b} h=>?_,fun {a b c} h1 h2 h3 l1 l2=>?_⟩
  ·cases a with
   | int i =>
    cases b with
    | int j =>
     rcases Int.lt_trichotomy i j with q|q|q
     ·exact .inr (.inl (Ad q))
     ·exact .inl (by rw[q])
     ·exact .inr (.inr (Ad q))
    | _=>exact h.elim
   | str x =>
    cases b with
    | str y =>
     by_cases q:x.cps.toList<y.cps.toList
     ·exact .inr (.inl (Ad q))
     ·by_cases q':y.cps.toList<x.cps.toList
      ·exact .inr (.inr (Ad q'))
      ·refine .inl ?_;have:=DH (a:=x) (b:=y) q' q;rw[this]
    | _=>exact h.elim
   | tup xs =>
    cases b with
    | tup ys =>
     rcases yI O h with q|q
     ·exact .inl (by rw[q])
     ·exact .inr q
    | _=>exact h.elim
   | _=>exact h.elim
  ·cases a with
   | int i =>
    cases b with
    | int j =>
     cases c with
     | int k =>
      have q1:=Ap l1;have q2:=Ap l2;exact Ad (Int.lt_trans q1 q2)
     | _=>exact h2.elim
    | _=>exact h1.elim
   | str x =>
    cases b with
    | str y =>
     cases c with
     | str z =>
      have q1:=Ap l1;have q2:=Ap l2;exact Ad (List.lt_trans q1 q2)
     | _=>exact h2.elim
    | _=>exact h1.elim
   | tup xs =>
    cases b with
    | tup ys =>
     cases c with
     | tup zs=>exact yJ O h1 h2 h3 l1 l2
     | _=>exact h2.elim
    | _=>exact h1.elim
   | _=>exact h1.elim
theorem yK(h:∀a b,lt a b=true->lt b a=false):∀(xs ys:List D),ltL lt xs ys=true->ltL lt ys xs=false
 | [],[],l=>by cases l
 | [],_::_,_=>rfl
 | _::_,[],l=>by cases l
 | x::xs,y::ys,l=>by
  by_cases e:x=y
  ·subst e;rw[db]at l ⊢;exact yK h xs ys l
  ·rw[bN e]at l;rw[bN (AC e)];exact h x y l
theorem p7:∀(n:Nat)(a b:D),ltN n a b=true->ltN n b a=false
 | 0,_,_,l=>by cases l
 | n+1,a,b,l=>by
  cases a with
  | int i =>
   cases b with
   | int j =>
    have q:=Ap l;exact Ae (by lia)
   | _=>cases l
  | str x =>
   cases b with
   | str y =>
    have q:=Ap l;exact Ae (List.lt_asymm q)
   | _=>cases l
  | tup xs =>
   cases b with
   | tup ys=>exact yK (p7 n) xs ys l
   | _=>cases l
  | _=>cases l
def Srt(n:Nat)(es:List D):Prop:=es.Pairwise fun a b=>ltN n b a=false
open Classical in
noncomputable def fW(n:Nat)(ds:List D):List D:=if h:∃es:List D,es.Perm ds/\Srt n es then h.choose else ds
set_option tactic.hygienic true in
def qI(n:Nat)(ds:List D):(fW n ds).Perm ds:=by
 unfold fW;split
 ·rename_i h;exact h.choose_spec.1
 ·exact List.Perm.refl _
def CA(n:Nat)(ds:List D):Prop:=∀a∈ds,∀b∈ds,Cp n a b
def CA.neg(h:CA n ds)(ha:a∈ds)(hb:b∈ds)(hc:c∈ds)(l:ltN n a c=true):ltN n a b=true∨ltN n b c=true:=by
 rcases(mC n).tri (h a ha b hb) with q|q|q
 ·subst q;exact .inr l
 ·exact .inl q
 ·exact .inr ((mC n).tra (h b hb a ha) (h a ha c hc) (h b hb c hc) q l)
def fj{ds es:List D}(h:CA n ds)(p:es.Perm ds)(s:Srt n es):es=fW n ds:=by
 have ex:∃es:List D,es.Perm ds/\Srt n es:=⟨es,p,s⟩;have e:fW n ds=ex.choose:=by unfold fW;rw[dif_pos ex]
 obtain⟨p2,s2⟩:=ex.choose_spec;rw[e];refine(p.trans p2.symm).eq_of_pairwise (fun a b ha hb h1 h2=>?_) s s2;rcases(mC n).tri (h a (p.mem_iff.mp ha) b (p2.mem_iff.mp hb)) with q|q|q
 ·exact q
 ·rw[h2]at q;cases q
 ·rw[h1]at q;cases q
end VF
namespace VF
open PySem L2 PySem.SeqAt
open PySem.AutoSeq1 (wpAny_loadPart')
open PySem.MeetsSeq PySem.MeetsSeq2 PySem.MeetsSeq3
def LtAt(A:Around)(s:Shared)(u v:Value)(b:Bool):Prop:=∀(prog:Program)(w:World)(E:Value->Shared->Prop)(Q:Value->Shared->Prop),Q (.bool b) s->wpAny (model prog w) A (richCompare .Lt u v) Q E s
open Classical in
inductive IL(A:Around)(s:Shared)(lt:D->D->Bool):List Value->List Value->List D->List D->Prop where
 | left {ws:List Value} {es:List D}:ws.length=es.length->IL A s lt [] ws [] es
 | right {vs:List Value} {ds:List D}:vs.length=ds.length->IL A s lt vs [] ds []
 | cons {v w:Value} {vs ws:List Value} {d e:D} {ds es:List D}:EqAt A.in1 s v w (decide (d=e))->(d≠e->LtAt A.in1 s v w (lt d e))->IL A s lt vs ws ds es->IL A s lt (v::vs) (w::ws) (d::ds) (e::es)
open Classical in
inductive KL(A:Around)(s:Shared)(lt:D->D->Bool)(n m:Nat)(R:Result->Shared->Prop){α β:Type}(rest:List (Value×Value))(b:Option α×β)(s':Shared):Prop
 | mk (vs ws:List Value) (ds' es':List D) (e1:b.1=none) (e2:s'=s) (hz:rest=vs.zip ws) (hi:IL A s lt vs ws ds' es') (hlen:vs.length+m=ws.length+n) (hR:R (.ok (.ret (.bool (ltL lt ds' es')))) s)
open Classical in
def rQ(l b:Addr)(items items2:Array Value)(n n2:Nat)(dd dd2:Option Addr)(sl sl2:Array (Option Value))(lt:D->D->Bool)(ds es:List D) :
  Meets (Builtin.«tuple.__lt__» ⟨[.ref l,.ref b],[]⟩)
   (fun A R s=>s.heap.get? l=some { cls:=.type "tuple",dict:=dd,data:=.seq items n,slots:=sl }/\s.heap.get? b=some { cls:=.type "tuple",dict:=dd2,data:=.seq items2 n2,slots:=sl2 } /\
    IL A s lt items.toList items2.toList ds es/\R (.ok (.ret (.bool (ltL lt ds es)))) s) :=
 .of_wp fun prog w A R s h=>by
  obtain⟨hp,g,d,tk,os⟩:=s;obtain⟨hl,hb,hI,h⟩:=h;have f2:=AutoSeq1.sub_tuple_tuple
  wp_walk using A4 hl,A4 hb,wpAny_forIn_list _ (KL A ⟨hp,g,d,tk,os⟩ lt items.size items2.size R) _
  case turn =>
   rintro⟨y,x⟩ rest b s' ⟨vs,ws,ds',es',hb',rfl,hz,hi,hlen,hR⟩;cases hi with
   | left _=>rw[List.zip_nil_left]at hz;cases hz
   | right _=>rw[List.zip_nil_right]at hz;cases hz
   | @cons v w' vs' ws' d' e' ds2 es2 he hlt hi' =>
    rw[Wl]at hz;injection hz with hyx hrest;injection hyx with hy hx;subst hy hx;simp only[Qa]at hlen;refine Ab (he prog w _ _ ?_);by_cases hde:d'=e'
    ·subst hde;rw[Ad rfl];rw[db]at hR
     wp_walk
     exact⟨_,_,_,_,rfl,rfl,hrest,hi',by lia,hR⟩
    ·rw[Ae hde];rw[bN hde]at hR;have hri:=hlt hde prog w
     wp_walk using hri
     exact⟨_,rfl,by simpa using hR⟩
  case fin =>
   rintro⟨b1,b2⟩ s' ⟨vs,ws,ds',es',hb',rfl,hz,hi,hlen,hR⟩;simp only at hb';subst hb';have hv:ltL lt ds' es'=decide (items.size<items2.size):=by
    cases hi with
    | left hl2 =>
     cases es' with
     | nil =>
      simp only[Yg]at hlen hl2;exact(Ae (by lia)).symm
     | cons e0 e1 =>
      simp only[Yg,Qa]at hlen hl2;exact(Ad (by lia)).symm
    | right hl2 =>
     cases ds' with
     | nil =>
      simp only[Yg]at hlen hl2;exact(Ae (by lia)).symm
     | cons e0 e1 =>
      simp only[Yg,Qa]at hlen hl2;exact(Ae (by lia)).symm
    | cons _ _ _ =>
     rw[Wl]at hz;cases hz
   rw[hv]at hR
   wp_walk
   exact⟨_,rfl,by simpa[Builtin.Tuple.tupleCompareSizes]using hR⟩
  case h =>
   exact⟨items.toList,items2.toList,ds,es,rfl,rfl,rfl,hI,by rw[Zd,Zd,Nat.add_comm],h⟩
def LtAt.tuples{A:Around}{s:Shared}{items items2:Array Value}(hl:s.heap.IsTuple l items)(hb:s.heap.IsTuple b items2)(hu:A.units<cLine)(hI:IL A s lt items.toList items2.toList ds es) :
  LtAt A s (.ref l) (.ref b) (ltL lt ds es):=fun prog w E Q h=>by
 obtain⟨⟨cls,dd,data,sl⟩,ho,hc,n,hd⟩:=id hl;obtain⟨⟨cls2,dd2,data2,sl2⟩,ho2,hc2,n2,hd2⟩:=id hb;simp only at hc hd hc2 hd2;subst hc hd hc2 hd2;exact richCompare_meets_room (op:=.Lt) ⟨_,ho,rfl⟩ ⟨_,ho2,rfl⟩ PySem.F.slot_tuple_lt PySem.F.entry_tuple_lt (PySem.F.args_tuple_lt_2 _ _) (rQ l b items items2 n n2 dd dd2 sl sl2 lt ds es)
  ⟨ho,ho2,hI,show Value.bool (ltL lt ds es)≠Value.notImplemented/\Q (.bool (ltL lt ds es)) s from⟨(fun x=>nomatch x),h⟩⟩ hu
theorem Ht{A:Around}:∀{vs ws:List Value}{ds es:List D},vs.length=ds.length->ws.length=es.length ->
  (∀(i:Nat) v w d e,vs[i]?=some v->ws[i]?=some w->ds[i]?=some d->es[i]?=some e->(∀b,(b=true↔d=e)->EqAt A.in1 s v w b)/\(d≠e->LtAt A.in1 s v w (lt d e)))->IL A s lt vs ws ds es
 | [],_,[],_,_,h2,_=>.left h2
 | _::_,[],_::_,[],h1,_,_=>.right h1
 | v::vs,w::ws,d::ds,e::es,h1,h2,h=>by
  obtain⟨a1,a2⟩:=h 0 v w d e rfl rfl rfl rfl;exact .cons (a1 _ (by simp)) a2 (Ht (by simpa using h1) (by simpa using h2) fun i v' w' d' e' z1 z2 z3 z4=>h (i+1) v' w' d' e' (by simpa using z1) (by simpa using z2) (by simpa using z3) (by simpa using z4))
 | [],_,_::_,_,h1,_,_=>by simp at h1
 | _::_,_,[],_,h1,_,_=>by simp at h1
 | _::_,[],_::_,_::_,_,h2,_=>by simp at h2
 | _::_,_::_,_::_,[],_,h2,_=>by simp at h2
open Classical in
def vC{A:Around}{u v:Value}{d e:D}(h:EqAt A s u v (decide (d=e)))(b:Bool)(hb:b=true↔d=e):EqAt A s u v b:=by
 have:b=decide (d=e):=by rw[Ye,hb,decide_eq_true_eq]
 rw[this];exact h
theorem RH.ltAt:∀(n:Nat){s:Shared}{d1 d2:D}{u1 u2:Value}{A:Around},Pl n d1->Pl n d2->Cp n d1 d2->RH s.heap u1 d1->RH s.heap u2 d2->A.units+n<cLine->LtAt A s u1 u2 (ltN n d1 d2):=by
 intro n;induction n with
 | zero=>intro s d1 d2 u1 u2 A p;cases p
 | succ n ih =>
  intro s d1 d2 u1 u2 A p1 p2 cp r1 r2 hu;cases r1 with
  | non=>exact cp.elim
  | int i t =>
   cases r2 with
   | int j t'=>exact fun prog w E Q h=>HT.rcLt_int A s i t j t' prog w E Q h
   | _=>exact cp.elim
  | str x t =>
   cases r2 with
   | str y t'=>exact fun prog w E Q h=>(PyProof.Rows.lt_str h:wpAny (model prog w) A (compareOp .Lt (.str x t) (.str y t')) Q E s)
   | _=>exact cp.elim
  | lst _ _ _=>exact cp.elim
  | @tup a its ds t hl f =>
   cases r2 with
   | @tup b its' ds' t' hl' f' =>
    cases p1 with
    | tup p1 =>
    cases p2 with
    | tup p2 =>
    refine LtAt.tuples t t' (by lia) (Ht (by simpa using hl) (by simpa using hl') fun i v w d e z1 z2 z3 z4=>?_)
    have z1':its[i]?=some v:=by simpa using z1
    have z2':its'[i]?=some w:=by simpa using z2
    have m1:=p1 d (Xc z3);have m2:=p2 e (Xc z4);have hu':A.in1.units+n<cLine:=by show A.units+1+n<cLine;lia
    exact⟨vC (RH.eqAt n m1 m2 (f i v d z1' z3) (f' i w e z2' z4) hu').1,fun _=>ih m1 m2 (cp i d e z3 z4) (f i v d z1' z3) (f' i w e z2' z4) hu'⟩
   | _=>exact cp.elim
end VF
namespace VF
open PySem L2 PyProof.Rows PySem.SeqAt
def vD(A:Around)(s:Shared)(fl:Bool)(u v:Value)(c:Bool):Prop:=∀(prog:Program)(w:World)(E:Value->Shared->Prop)(Q:Bool->Shared->Prop),Q c s->wpAny (model prog w) A (oneLt' fl u v) Q E s
open Classical in
inductive IK(A:Around)(s:Shared)(b:Bool)(lt:D->D->Bool):Nat->List Value->List Value->List D->List D->Prop where
 | left {i:Nat} {ws:List Value} {es:List D}:ws.length=es.length->IK A s b lt i [] ws [] es
 | right {i:Nat} {vs:List Value} {ds:List D}:vs.length=ds.length->IK A s b lt i vs [] ds []
 | cons {i:Nat} {v w:Value} {vs ws:List Value} {d e:D} {ds es:List D}:EqAt A s v w (decide (d=e))->(d≠e->vD A s (b&&i == 0) v w (lt d e))->IK A s b lt (i+1) vs ws ds es->IK A s b lt i (v::vs) (w::ws) (d::ds) (e::es)
section
variable {prog:Program}{w:World}{A:Around}{E:Value->Shared->Prop}{s:Shared}
def DZ(h:LtAt A s u v c):vD A s false u v c:=fun prog w E Q q=>by
 rw[oneLt'_eq];dsimp only;rw[Al Bool.noConfusion];exact Ab (h prog w _ _ (Ay q))
theorem yL(fl:Bool):vD A s fl (.int a t) (.int b u) (decide (a<b)):=fun prog w E Q q=>by
 cases fl with
 | true=>exact oneLt_int q
 | false=>exact DZ (fun prog w E Q h=>HT.rcLt_int A s a t b u prog w E Q h) prog w E Q q
theorem yM{a b:Str}(fl:Bool):vD A s fl (.str a t) (.str b u) (decide (a.cps.toList<b.cps.toList)):=fun prog w E Q q=>by
 cases fl with
 | true=>exact oneLt_str q
 | false=>exact DZ (fun prog w E Q h=>(PyProof.Rows.lt_str h:wpAny (model prog w) A (compareOp .Lt (.str a t) (.str b u)) Q E s)) prog w E Q q
inductive KI(A:Around)(s:Shared)(b:Bool)(lt:D->D->Bool)(n m:Nat)(Q:Bool->Shared->Prop)(rest:List ((Value×Value)×Nat))(r:Option Bool×Unit)(s':Shared):Prop
 | mk (i:Nat) (vs ws:List Value) (ds' es':List D) (e1:s'=s) (e2:r=(none,())) (hz:rest=(vs.zip ws).zipIdx i) (hi:IK A s b lt i vs ws ds' es') (hlen:vs.length+m=ws.length+n) (hR:Q (ltL lt ds' es') s)
open Classical in
def F8{xs ys:Array Value}(hl:s.heap.IsTuple l xs)(hr:s.heap.IsTuple r ys)(hI:IK A s b lt 0 xs.toList ys.toList ds es)(q:Q (ltL lt ds es) s) :
  wpAny (model prog w) A (keyLt' (tuples' b) (.ref l) (.ref r)) Q E s:=by
 obtain⟨o1,g1,_,n1,d1⟩:=hl;obtain⟨o2,g2,_,n2,d2⟩:=hr;refine Ab (AR g1 d1 ?_);refine Ab (AR g2 d2 ?_);refine Ab (wpAny_forIn_list _ (KI A s b lt xs.size ys.size Q) _ ?_ ?_ _ _ ?_)
 ·rintro⟨⟨y,x⟩,j⟩ rest r s' ⟨i,vs,ws,ds',es',rfl,rfl,hz,hi,hlen,hR⟩;cases hi with
  | left _=>rw[List.zip_nil_left]at hz;cases hz
  | right _=>rw[List.zip_nil_right]at hz;cases hz
  | @cons _ v w' vs' ws' d' e' ds2 es2 he hlt hi' =>
   rw[Wl,Xm]at hz;injection hz with hyx hrest;injection hyx with hy hj;injection hy with hy hx;subst hy hx hj;simp only[Qa]at hlen;dsimp only;refine Ab (he prog w _ _ ?_);by_cases hde:d'=e'
   ·subst hde;rw[Ad rfl];rw[db]at hR;exact Af ⟨_,_,_,_,_,rfl,rfl,hrest,hi',by lia,hR⟩
   ·rw[Ae hde];rw[bN hde]at hR;exact Ab (hlt hde prog w _ _ (Af (Af hR)))
 ·rintro r s' ⟨i,vs,ws,ds',es',rfl,rfl,hz,hi,hlen,hR⟩;have hv:ltL lt ds' es'=decide (xs.size<ys.size):=by
   cases hi with
   | left hl2 =>
    cases es' with
    | nil =>
     simp only[Yg]at hlen hl2;exact(Ae (by lia)).symm
    | cons e0 e1 =>
     simp only[Yg,Qa]at hlen hl2;exact(Ad (by lia)).symm
   | right hl2 =>
    cases ds' with
    | nil =>
     simp only[Yg]at hlen hl2;exact(Ae (by lia)).symm
    | cons e0 e1 =>
     simp only[Yg,Qa]at hlen hl2;exact(Ae (by lia)).symm
   | cons _ _ _ =>
    rw[Wl,Xm]at hz;cases hz
  rw[hv]at hR;exact Af hR
 ·exact⟨0,xs.toList,ys.toList,ds,es,rfl,rfl,rfl,hI,by rw[Zd,Zd,Nat.add_comm],q⟩
theorem Hu:∀{i:Nat}{vs ws:List Value}{ds es:List D},vs.length=ds.length->ws.length=es.length ->
  (∀(j:Nat) v w d e,vs[j]?=some v->ws[j]?=some w->ds[j]?=some d->es[j]?=some e->(∀c,(c=true↔d=e)->EqAt A s v w c)/\(d≠e->vD A s (b&&(i+j) == 0) v w (lt d e)))->IK A s b lt i vs ws ds es
 | _,[],_,[],_,_,h2,_=>.left h2
 | _,_::_,[],_::_,[],h1,_,_=>.right h1
 | i,v::vs,w::ws,d::ds,e::es,h1,h2,h=>by
  obtain⟨a1,a2⟩:=h 0 v w d e rfl rfl rfl rfl;refine .cons (a1 _ (by simp)) a2 (Hu (by simpa using h1) (by simpa using h2) fun j v' w' d' e' z1 z2 z3 z4=>?_)
  have:=h (j+1) v' w' d' e' (by simpa using z1) (by simpa using z2) (by simpa using z3) (by simpa using z4)
  rwa [show i+(j+1)=i+1+j by lia]at this
 | _,[],_,_::_,_,h1,_,_=>by simp at h1
 | _,_::_,_,[],_,h1,_,_=>by simp at h1
 | _,_::_,[],_::_,_::_,_,h2,_=>by simp at h2
 | _,_::_,_::_,_::_,[],_,h2,_=>by simp at h2
def Js(d:D):Prop:=match d with
 | .tup (.int _::_)=>True
 | _=>False
def Jt(d:D):Prop:=match d with
 | .tup (.str _::_)=>True
 | _=>False
theorem yN(h:Js d):∃i r,d=.tup (.int i::r):=by
 cases d with
 | tup l =>
  cases l with
  | nil=>exact h.elim
  | cons x r =>
   cases x with
   | int i=>exact⟨_,_,rfl⟩
   | _=>exact h.elim
 | _=>exact h.elim
theorem yO(h:Jt d):∃i r,d=.tup (.str i::r):=by
 cases d with
 | tup l =>
  cases l with
  | nil=>exact h.elim
  | cons x r =>
   cases x with
   | str i=>exact⟨_,_,rfl⟩
   | _=>exact h.elim
 | _=>exact h.elim
def D0(p1:Pl (n+1) d1)(p2:Pl (n+1) d2)(cp:Cp (n+1) d1 d2)(r1:RH s.heap u1 d1)(r2:RH s.heap u2 d2)(hu:A.units+(n+1)<cLine)
  (ht:∃xs,d1=.tup xs)(hb:b=true->(Js d1/\Js d2)∨(Jt d1/\Jt d2))(q:Q (ltN (n+1) d1 d2) s):wpAny (model prog w) A (keyLt' (tuples' b) u1 u2) Q E s:=by
 obtain⟨xs,rfl⟩:=ht;cases r1 with
 | @tup a its ds t hl f =>
  cases r2 with
  | @tup a2 its' ds' t' hl' f' =>
   cases p1 with
   | tup p1 =>
   cases p2 with
   | tup p2 =>
   refine F8 (lt:=ltN n) (ds:=xs) (es:=ds') t t' (Hu (by simpa using hl) (by simpa using hl') fun j v w' d e z1 z2 z3 z4=>?_) q
   have z1':its[j]?=some v:=by simpa using z1
   have z2':its'[j]?=some w':=by simpa using z2
   have m1:=p1 d (Xc z3);have m2:=p2 e (Xc z4);have k1:=f j v d z1' z3;have k2:=f' j w' e z2' z4;have c1:=cp j d e z3 z4;refine⟨vC (RH.eqAt n m1 m2 k1 k2 (by lia)).1,fun _=>?_⟩
   cases hfl:(b&&(0+j) == 0) with
   | false=>exact DZ (RH.ltAt n m1 m2 c1 k1 k2 (by lia))
   | true =>
    rw[Wf]at hfl;have hj:j=0:=by have:=eq_of_beq hfl.2;lia
    subst hj;rcases hb hfl.1 with⟨g1,g2⟩|⟨g1,g2⟩
    ·obtain⟨i,r,e1⟩:=yN g1;obtain⟨i2,r2,e2⟩:=yN g2;cases e1;cases e2;cases z3;cases z4;cases k1;cases k2;cases n with
     | zero=>cases m1
     | succ n=>exact yL true
    ·obtain⟨i,r,e1⟩:=yO g1;obtain⟨i2,r2,e2⟩:=yO g2;cases e1;cases e2;cases z3;cases z4;cases k1;cases k2;cases n with
     | zero=>cases m1
     | succ n=>exact yM true
  | _=>exact cp.elim
end
end VF
namespace VF
open PySem L2 PyProof.Rows
section
variable {M:Model}{prog:Program}{w:World}{A:Around}{E:Value->Shared->Prop}{s:Shared}
theorem yP:∀(l:List α),(∀v∈l,∀Q:β->Shared->Prop,Q (g v) s->wpAny M A (f v) Q E s)->∀Q:List β->Shared->Prop,Q (l.map g) s->wpAny M A (l.mapM f) Q E s
 | [],_,Q,q=>by rw[List.mapM_nil];exact Af q
 | v::l,h,Q,q=>by
  rw[List.mapM_cons];exact Ab (h v Zc _ (Ab (yP l (fun u hu=>h u (Vb _ hu)) _ (Af q))))
def yQ{l:List α}(h:∀v∈l,∀Q:β->Shared->Prop,Q (g v) s->wpAny M A (f v) Q E s)(q:Q (l.map g).toArray s):wpAny M A (l.toArray.mapM f) Q E s:=by
 rw[List.mapM_toArray,map_eq_pure_bind];exact Ab (yP l h _ (Af q))
def tyD:D->String
 | .int _=>"int"
 | .str _=>"str"
 | .tup _=>"tuple"
 | _=>"list"
theorem RH.ty(r:RH s.heap u d)(h:d≠.non):s.TypeIs u (tyD d):=by
 cases r with
 | non=>exact absurd rfl h
 | int i t=>exact typeIs_int s i t
 | str x t=>exact AV s x t
 | tup t _ _=>obtain⟨o,h1,h2,_⟩:=t;exact⟨o,h1,h2⟩
 | lst t _ _=>obtain⟨o,h1,h2,_⟩:=t;exact⟨o,h1,h2⟩
def D1{us:List Value}{ds:List D}(hne:us≠[])(hl:us.length=ds.length)(r:∀(i:Nat) u d,us[i]?=some u->ds[i]?=some d->RH s.heap u d/\d≠.non/\tyD d=T)(q:Q (some (.type T)) s) :
  wpAny M A (oneTypeOnly' us.toArray) Q E s:=by
 rw[oneTypeOnly'_eq];refine Ab (yQ (g:=fun _=>Value.type T) (fun v hv Q q=>?_) ?_)
 ·obtain⟨i,hi,rfl⟩:=Zi.mp hv;obtain⟨r1,r2,r3⟩:=r i us[i] ds[i] (Ya hi) (Ya (by lia))
  exact AO (r3 ▸ r1.ty r2) q
 ·cases us with
  | nil=>exact absurd rfl hne
  | cons u us =>
   have h0:(List.map (fun _=>Value.type T) (u::us)).toArray[0]?=some (Value.type T):=by simp
   rw[h0];have hall:((List.map (fun _=>Value.type T) (u::us)).toArray.all fun x=>x == Value.type T)=true:=by
    simp only[List.all_toArray,BY,Qf];intro _ _;exact beq_self_eq_true _
   dsimp only;rw[hall,Ag rfl];exact Af q
def D2(r:RH s.heap u d)(h:d≠.non)(ht:tyD d≠"tuple")(q:Q none s):wpAny M A (firstOfTuple' u) Q E s:=by
 refine Ab (AO (r.ty h) ?_);rw[Ag (by rw[bne_iff_ne];intro e;injection e with e;exact ht e)]
 exact Af q
def B5{its:List Value}(t:s.heap.IsTuple a its.toArray)(e:its=u::us)(q:Q (some u) s):wpAny M A (firstOfTuple' (.ref a)) Q E s:=by
 obtain⟨o,h1,h2,n,h3⟩:=t;refine Ab (AO (T:="tuple") ⟨o,h1,h2⟩ ?_);rw[Al (by rw[bne_iff_ne];intro z;exact z rfl)]
 refine Ab (AR h1 h3 ?_);subst e;exact Af q
inductive Kd:List D->SortKind->Prop where
 | sc {ds:List D} {T:String}:T≠"tuple"->(∀d∈ds,d≠.non/\tyD d=T)->Kd ds oneType'
 | tp {ds:List D} {T:String}:(∀d∈ds,∃x xs,d=.tup (x::xs)/\x≠.non/\tyD x=T)->Kd ds (tuples' (T != "tuple"))
def Lc{us:List Value}{ds:List D}(hne:us≠[])(hl:us.length=ds.length)(r:∀(i:Nat) u d,us[i]?=some u->ds[i]?=some d->RH s.heap u d)(hk:Kd ds κ)(q:Q κ s) :
  wpAny M A (keyKind' us.toArray) Q E s:=by
 rw[keyKind'_eq];cases hk with
 | @sc T hT h =>
  refine Ab (yQ (g:=fun _=>none) (fun v hv Q q=>?_) ?_)
  ·obtain⟨i,hi,rfl⟩:=Zi.mp hv;have hd:=h ds[i] (Yj _);exact D2 (r i _ _ (Ya hi) (Ya (by lia))) hd.1 (by rw[hd.2];exact hT) q
  ·cases us with
   | nil=>exact absurd rfl hne
   | cons u us =>
    rw[Al (by simp),Al (by simp)]
    refine Ab (D1 (T:=T) hne hl (fun i u d e1 e2=>⟨r i u d e1 e2,h d (Xc e2)⟩) ?_);exact Af q
 | @tp T h =>
  have hx:∀(i:Nat)(hi:i<us.length),∃u0 x xs,(∀Q:Option Value->Shared->Prop,Q (some u0) s->wpAny M A (firstOfTuple' us[i]) Q E s)/\ds[i]?=some (.tup (x::xs))/\RH s.heap u0 x/\x≠.non/\tyD x=T:=fun i hi=>by
   have hd:i<ds.length:=by lia
   obtain⟨x,xs,e,h1,h2⟩:=h ds[i] (Yj _);have rr:=r i us[i] ds[i] (Ya hi) (Ya hd);rw[e]at rr;generalize us[i]=v at rr;cases rr with
   | @tup a its _ t hl f =>
    cases its with
    | nil=>simp at hl
    | cons u0 ur=>exact⟨u0,x,xs,fun Q q=>B5 t rfl q,by rw[Ya hd,e],f 0 u0 x rfl rfl,h1,h2⟩
  have hf:∃fs:List Value,fs.length=us.length/\(∀Q:Array (Option Value)->Shared->Prop,Q (fs.map some).toArray s->wpAny M A (us.toArray.mapM firstOfTuple') Q E s)/\∀(i:Nat) u,fs[i]?=some u->∃x,RH s.heap u x/\x≠.non/\tyD x=T:=by
   have:∀l:List Value,(∀v∈l,∃u0 x,(∀Q:Option Value->Shared->Prop,Q (some u0) s->wpAny M A (firstOfTuple' v) Q E s)/\RH s.heap u0 x/\x≠.non/\tyD x=T) ->
     ∃fs:List Value,fs.length=l.length/\(∀Q:List (Option Value)->Shared->Prop,Q (fs.map some) s->wpAny M A (l.mapM firstOfTuple') Q E s)/\∀(i:Nat) u,fs[i]?=some u->∃x,RH s.heap u x/\x≠.non/\tyD x=T:=fun l=>by
    induction l with
    | nil=>exact fun _=>⟨[],rfl,fun Q q=>by rw[List.mapM_nil];exact Af q,fun i u e=>by simp at e⟩
    | cons v l ih =>
     intro hv;obtain⟨fs,f1,f2,f3⟩:=ih fun u hu=>hv u (Vb _ hu);obtain⟨u0,x,g1,g2⟩:=hv v Zc;refine⟨u0::fs,by simp[f1],fun Q q=>?_,fun i u e=>?_⟩
     ·rw[List.mapM_cons];exact Ab (g1 _ (Ab (f2 _ (Af q))))
     ·cases i with
      | zero =>
       have:u0=u:=by simpa using e
       subst this;exact⟨x,g2⟩
      | succ i=>exact f3 i u (by simpa using e)
   obtain⟨fs,f1,f2,f3⟩:=this us fun v hv=>by
    obtain⟨i,hi,rfl⟩:=Zi.mp hv;obtain⟨u0,x,xs,a1,_,a2⟩:=hx i hi;exact⟨u0,x,a1,a2⟩
   refine⟨fs,f1,fun Q q=>?_,f3⟩;rw[List.mapM_toArray,map_eq_pure_bind];exact Ab (f2 _ (Af q))
  obtain⟨fs,f1,f2,f3⟩:=hf;refine Ab (f2 _ ?_);rw[Ag (by simp)]
  refine Ab (AU ?_);have e1:(fs.map some).toArray.filterMap id=fs.toArray:=by simp
  rw[e1];have hne':fs≠[]:=fun z=>by
   rw[z]at f1;exact hne (BG f1.symm)
  obtain⟨xs,hxs,hxx⟩:∃xs:List D,fs.length=xs.length/\∀(i:Nat) u d,fs[i]?=some u->xs[i]?=some d->RH s.heap u d/\d≠.non/\tyD d=T:=by
   have:∀l:List Value,(∀(i:Nat) u,l[i]?=some u->∃x,RH s.heap u x/\x≠.non/\tyD x=T)->∃xs:List D,l.length=xs.length/\∀(i:Nat) u d,l[i]?=some u->xs[i]?=some d->RH s.heap u d/\d≠.non/\tyD d=T:=fun l=>by
    induction l with
    | nil=>exact fun _=>⟨[],rfl,fun i u d e=>by simp at e⟩
    | cons v l ih =>
     intro hv;obtain⟨xs,x1,x2⟩:=ih fun i u e=>hv (i+1) u (by simpa using e)
     obtain⟨x,hx⟩:=hv 0 v rfl;refine⟨x::xs,by simp[x1],fun i u d e1 e2=>?_⟩
     cases i with
     | zero =>
      have a1:v=u:=by simpa using e1
      have a2:x=d:=by simpa using e2
      subst a1 a2;exact hx
     | succ i=>exact x2 i u d (by simpa using e1) (by simpa using e2)
   exact this fs f3
  refine Ab (D1 (T:=T) hne' hxs hxx ?_);have e2:(Option.any (fun x=>x != Value.type "tuple") (some (Value.type T)))=(T != "tuple"):=by
   show(Value.type T != Value.type "tuple")=_;rw[Ye,bne_iff_ne,bne_iff_ne];constructor
   ·exact fun h e=>h (by rw[e])
   ·exact fun h e=>h (by injection e)
  rw[e2];exact Af q
end
end VF
namespace VF
open PySem L2 PyProof.Rows TS
section
variable {prog:Program}{w:World}{A:Around}{E:Value->Shared->Prop}{s:Shared}
theorem RH.kept{h h':Heap}(k:∀b o,h.get? b=some o->h'.get? b=some o)(r:RH h u d):RH h' u d:=by
 induction r with
 | non=>exact .non
 | int i t=>exact .int i t
 | str x t=>exact .str x t
 | tup t hl _ ih=>obtain⟨o,h1,h2⟩:=t;exact .tup ⟨o,k _ o h1,h2⟩ hl ih
 | lst t hl _ ih=>obtain⟨o,h1,h2⟩:=t;exact .lst ⟨o,k _ o h1,h2⟩ hl ih
def dk(ds:List D)(g:Nat):D:=ds.getD g (ds.headD .non)
def vE(h:ds[g]?=some d):dk ds g=d:=by
 unfold dk;rw[Vd,h];rfl
theorem jr(h:ds≠[])(g:Nat):dk ds g∈ds:=by
 cases e:ds[g]? with
 | some d=>rw[vE e];exact Xc e
 | none =>
  cases ds with
  | nil=>exact absurd rfl h
  | cons x xs =>
   unfold dk;rw[Vd,e];simp
noncomputable def cD(ds:List D)(g h:Nat):Bool:=ltN 40 (dk ds g) (dk ds h)
theorem D3(h:Cp n d e)(ht:tyD d≠"tuple"):(∃i j,d=.int i/\e=.int j)∨∃x y,d=.str x/\e=.str y:=by
 cases n with
 | zero=>exact h.elim
 | succ n =>
  cases d with
  | int i =>
   cases e with
   | int j=>exact .inl ⟨i,j,rfl,rfl⟩
   | _=>exact h.elim
  | str x =>
   cases e with
   | str y=>exact .inr ⟨x,y,rfl,rfl⟩
   | _=>exact h.elim
  | tup xs=>exact absurd rfl ht
  | _=>exact h.elim
def F9{us vs:List Value}{ds:List D}(hl:us.length=ds.length)(r:∀(i:Nat) u d,us[i]?=some u->ds[i]?=some d->RH s.heap u d)(pl:∀d∈ds,Pl 40 d)(ca:CA 40 ds)(hk:Kd ds κ)(hu:A.units+40<cLine) :
  Cm prog w A s κ (fun g=>(us.getD g .none,vs.getD g .none)) us.length (cD ds):=by
 refine⟨fun E Q g h hg hh q=>?_,fun g=>p6 _ _,fun g h i h1 h2=>?_,fun g h i h1=>?_⟩
 ·have eg:us[g]?=some us[g]:=Ya hg;have eh:us[h]?=some us[h]:=Ya hh;have dg:ds[g]?=some ds[g]:=Ya (by lia)
  have dh:ds[h]?=some ds[h]:=Ya (by lia)
  have q':Q (ltN 40 ds[g] ds[h]) s:=by unfold cD at q;rw[vE dg,vE dh]at q;exact q
  have rg:=r g _ _ eg dg;have rh:=r h _ _ eh dh;have mg:=Xc dg;have mh:=Xc dh;have cp:=ca _ mg _ mh;show wpAny (model prog w) A (keyLt' κ (us.getD g .none) (us.getD h .none)) Q E s;rw[Vd,Vd,eg,eh];show wpAny (model prog w) A (keyLt' κ us[g] us[h]) Q E s;generalize us[g]=ug at rg;generalize us[h]=uh at rh;generalize ds[g]=a at *;generalize ds[h]=b at *;cases hk with
  | @sc T hT hd =>
   rw[keyLt'_oneType];rcases D3 cp (by rw[(hd a mg).2];exact hT) with⟨i,j,rfl,rfl⟩|⟨x,y,rfl,rfl⟩
   ·cases rg;cases rh;exact yL true prog w E Q q'
   ·cases rg;cases rh;exact yM true prog w E Q q'
  | @tp T hd =>
   obtain⟨x,xs,rfl,nx,tx⟩:=hd a mg;obtain⟨y,ys,rfl,ny,ty⟩:=hd b mh;refine D0 (n:=39) (pl _ mg) (pl _ mh) cp rg rh (by lia) ⟨_,rfl⟩ (fun hb=>?_) q'
   have hT:T≠"tuple":=by rwa [bne_iff_ne]at hb
   rcases D3 (cp 0 x y rfl rfl) (by rw[tx];exact hT) with⟨i,j,rfl,rfl⟩|⟨x,y,rfl,rfl⟩
   ·exact .inl ⟨trivial,trivial⟩
   ·exact .inr ⟨trivial,trivial⟩
 ·by_cases hne:ds=[]
  ·subst hne;have:cD [] g h=false:=p6 40 .non;rw[this]at h1;cases h1
  ·exact(mC 40).tra (ca _ (jr hne g) _ (jr hne h)) (ca _ (jr hne h) _ (jr hne i)) (ca _ (jr hne g) _ (jr hne i)) h1 h2
 ·by_cases hne:ds=[]
  ·subst hne;have:cD [] g i=false:=p6 40 .non;rw[this]at h1;cases h1
  ·exact ca.neg (jr hne g) (jr hne h) (jr hne i) h1
def gc(vs:List Value)(γ:Array Nat):Array Value:=γ.map fun g=>vs.getD g .none
def B6{vs : List Value}{ds : List D}(ho : s.heap.get? a = some (seqObj "list" vs.toArray n))(hz : vs.length ≤ sizeLine)
    (hl : vs.length = ds.length)(r : ∀ (i : Nat) u d, vs[i]? = some u → ds[i]? = some d → RH (((s.heap.update a (Obj.mapSeq fun _ => #[])).push (seqObj "tuple" vs.toArray 0)).push (seqObj "list" #[] 0)) u d)
    (pl : ∀ d ∈ ds, Pl 40 d) (ca : CA 40 ds) (hk : Kd ds κ) (hu : A.units + 40 < cLine) (h64 : vs.length < 64)
    (fin : ∀ γ : Array Nat, γ.Perm (Array.range vs.length) → Sg (cD ds) γ 0 vs.length → P (.done (.ret .none)) { s with heap := sortedHeap s.heap a vs (gc vs γ) }) :
    wpAny (model prog w) A (Builtin.«list.sort» ⟨[.ref a], []⟩) P E s := by
  rw [list_sort_plain];have small := Aj ho;refine Ab (AR ho rfl (Ab (Be ho rfl ?_)));obtain ⟨ep, hE⟩ : ∃ ep, (s.heap.update a (Obj.mapSeq fun _ => #[])).get? a = some (seqObj "list" #[] ep) := ⟨_, get?_update_seq ho (fun _ => #[])⟩;refine Ab (seqEpoch_at hE rfl (Ab (wpAny_newTuple (Ab (wpAny_newList (AK ?_))))));have hE2 : (((s.heap.update a (Obj.mapSeq fun _ => #[])).push (seqObj "tuple" vs.toArray 0)).push (seqObj "list" #[] 0)).get? a = some (seqObj "list" #[] ep) :=
    Ac _ (Ac _ hE)
  generalize hH : ((s.heap.update a (Obj.mapSeq fun _ => #[])).push (seqObj "tuple" vs.toArray 0)).push (seqObj "list" #[] 0) = h6 at r hE2;show wpAny (model prog w) A _ P E { s with heap := h6 };dsimp only;have hsz : vs.toArray.size = vs.length := by simp
  have zs : ∀ γ : Array Nat, γ.Perm (Array.range vs.length) → (gc vs γ).size ≤ sizeLine + 1 := fun γ p => by
    unfold gc;rw [Array.size_map, p.size_eq, A1]; lia
  have done : ∀ γ : Array Nat, γ.Perm (Array.range vs.length) → Sg (cD ds) γ 0 vs.length → P (.done (.ret .none)) { s with heap := h6.update a (Obj.mapSeq fun _ => gc vs γ) } := fun γ p g => by
    have := fin γ p g;unfold sortedHeap at this;rw [← hH]; exact this
  have e0 : vs.toArray.zip vs.toArray = (Array.range vs.length).map fun g => (vs.getD g .none, vs.getD g .none) := by
    apply Array.ext_getElem?
    intro i;rw [Array.getElem?_map, Array.getElem?_range];by_cases hi : i < vs.length
    · rw [Ag hi]; simp [hi]
    · rw [Al hi]; simp [hi]
  by_cases few : vs.toArray.size < 2
  · rw [Ag few, Ag few]
    refine Ab (Af ?_);rw [StateT.run_pure];refine Ab (Af ?_);dsimp only;have em : (vs.toArray.zip vs.toArray).map (fun x => x.2) = gc vs (Array.range vs.length) := by
      rw [e0, Array.map_map]; rfl
    refine Ab (seqEpoch_at hE2 rfl (Ab (Be hE2 rfl ?_ (hsz2 := ?_))))
    · simp only [bne_self_eq_false, Bo, if_false]
      refine Af ?_;rw [em];exact done _ (Array.Perm.refl _) fun i j g h z1 z2 z3 => by lia
    · rw [em]; exact zs _ (Array.Perm.refl _)
  · rw [Al few, Al few]
    have hne : vs ≠ [] := fun z => few (by rw [z]; decide)
    refine Ab (Lc (s := { s with heap := h6 }) hne hl r hk ?_);have C : Cm prog w A { s with heap := h6 } κ (fun g => (vs.getD g .none, vs.getD g .none)) vs.length (cD ds) := F9 (s := { s with heap := h6 }) hl r pl ca hk hu
    refine Ab (AA (F7 h64 (st := SortSt.mk' κ (vs.toArray.zip vs.toArray) #[] 7 none) C (γ := Array.range vs.length) ⟨e0, rfl, rfl, Array.Perm.refl _⟩ rfl (fun i _ z => by rw [Array.getElem?_range, Ag z])
      (Q := fun _ st' => ∃ γ, Rp κ (fun g => (vs.getD g .none, vs.getD g .none)) vs.length st' γ ∧ Sg (cD ds) γ 0 vs.length) fun st' γ' R g => ⟨γ', R, g⟩) ?_ fun _ _ e => e)
    rintro ⟨⟨⟩, st'⟩ s' ⟨rfl, γ, R, g⟩;dsimp only;have em : (arrOf st').map (fun x => x.2) = gc vs γ := by
      rw [R.arr, Array.map_map]; rfl
    refine Ab (seqEpoch_at hE2 rfl (Ab (Be hE2 rfl ?_ (hsz2 := ?_))))
    · rw [show failedOf st' = none from R.fine]
      simp only [bne_self_eq_false, Bo, if_false];refine Af ?_;show P (.done (.ret .none)) { s with heap := h6.update a (Obj.mapSeq fun _ => (arrOf st').map (fun x => x.2)) };rw [em];exact done γ R.perm g
    · show ((arrOf st').map (fun x => x.2)).size ≤ sizeLine + 1
      rw [em]; exact zs γ R.perm
end
end VF
namespace VF
open PySem L2 PyProof.Rows TS
section
variable {prog:Program}{w:World}{A:Around}{E:Value->Shared->Prop}{s:Shared}
def vF{l:Addr}{vs:List Value}{Q:List Value->Shared->Prop}(hl:s.heap.IsList l vs.toArray∨s.heap.IsTuple l vs.toArray)(hz:vs.length<=sizeLine)
  (q:Q vs { s with heap:=(s.heap.push (seqObj "list" #[] 0)).update s.heap.objs.size (Obj.mapSeq (·++vs.toArray)) }):wpAny (model prog w) A (collect (.ref l)) Q E s:=by
 rcases hl with hl|hl
 ·exact collect_list hl q hz
 obtain⟨o,ho,hc,m,hd⟩:=id hl;have kept:=Ac (seqObj "list" #[] 0) ho;have new:(s.heap.push (seqObj "list" #[] 0)).get? s.heap.objs.size=some (seqObj "list" #[] 0):=Ak _ rfl;unfold collect;refine Ab (wpAny_runValue (codeAny_builtin entry_proto_collect' ?_));refine Ab (wpAny_newList (Af ⟨Code.quiet_builtin _ (by decide +kernel),codeAny_builtin entry_list_iadd' ?_⟩))
 show wpAny _ _ (Builtin.List.listExtendWith (.ref s.heap.objs.size) (.ref l) (.ref s.heap.objs.size)) _ _ { s with heap:=s.heap.push (seqObj "list" #[] 0) };unfold Builtin.List.listExtendWith;refine Ab (AO (T:="tuple") ⟨o,kept,hc⟩ ?_);rw[Ag (by rw[show(Value.type "tuple" == Value.type "tuple")=true from rfl,Bool.or_true])]
 refine Ab (AR kept hd (Ab (AR new rfl ?_)));rw[Al (by simp)]
 have room:((#[]:Array Value)++vs.toArray).size<=sizeLine+1:=by
  rw[Array.size_append,Wb];simp;lia
 refine Ab (Be new rfl ?_ (Wh _) room);refine Af ?_;have at':=get?_update_seq new (fun x=>x++vs.toArray);refine Ab (wpAny_load at' ?_);show wpAny _ _ (pure ((#[]:Array Value)++vs.toArray).toList) Q E _;have e:((#[]:Array Value)++vs.toArray).toList=vs:=by simp
 rw[e];exact Af q
def vG{l:Addr}{vs:List Value}{ds:List D}{κ:SortKind}{Q:Value->Shared->Prop}(hl:s.heap.IsList l vs.toArray∨s.heap.IsTuple l vs.toArray)(hz:vs.length<=sizeLine)
  (hn:vs.length=ds.length)(r:∀(i:Nat) u d,vs[i]?=some u->ds[i]?=some d->RH s.heap u d)(pl:∀d∈ds,Pl 40 d)(ca:CA 40 ds)(hk:Kd ds κ)(hu:A.units+64<cLine)(h64:vs.length<64)
  (fin:∀γ:Array Nat,γ.Perm (Array.range vs.length)->Sg (cD ds) γ 0 vs.length->Q (.ref (s.heap.objs.size+1)) { s with heap:=sortedAll s.heap vs (gc vs γ) }) :
  wpAny (model prog w) A (call (.builtin "sorted") [.ref l]) Q E s:=by
 refine Calls.call_function_entry kind_sorted plain_sorted entry_sorted (args_sorted1 _) ?_;refine Ab (m:=checkCount "sorted" 1 1 _) (Af (Ab (vF hl hz (Ab (wpAny_newList ?_)))));generalize hg:(s.heap.push (seqObj "list" #[] 0)).update s.heap.objs.size (Obj.mapSeq (·++vs.toArray))=h1;have z1:h1.objs.size=s.heap.objs.size+1:=by rw[← hg,Heap.size_update,size_push']
 have old:∀b o,s.heap.get? b=some o->h1.get? b=some o:=fun b o e=>by
  rw[← hg];exact(Heap.get?_update_ne _ _ _ _ (Vf (Aj e))).trans (Ac _ e)
 have mine:(h1.push (seqObj "list" vs.toArray 0)).get? (s.heap.objs.size+1)=some (seqObj "list" vs.toArray 0):=by rw[← z1];exact Ak _ rfl
 show wpAny _ _ _ _ _ { s with heap:=h1.push (seqObj "list" vs.toArray 0) };rw[z1];refine Ab (AK (AG slot_list_sort ⟨_,mine,rfl⟩ entry_list_sort ?_ (args_list_sort _)));refine B6 (s:={ s with heap:=h1.push (seqObj "list" vs.toArray 0) }) mine hz hn (fun i u d e1 e2=>(r i u d e1 e2).kept fun b o e=>?_) pl ca hk (by show A.units+1+1+40<cLine;lia) h64 fun γ p g=>?_
 ·have hb:=Aj e;refine Ac _ (Ac _ ?_);have hne:b≠s.heap.objs.size+1:=Vf (Bs hb);exact(Heap.get?_update_ne _ _ _ _ hne).trans (Ac _ (old b o e))
 ·refine⟨_,rfl,Af ⟨_,rfl,?_⟩⟩;have:=fin γ p g;unfold sortedAll at this;rw[hg]at this;exact this
end
def Ju{ds:List D}{γ:Array Nat}(ca:CA 40 ds)(p:γ.Perm (Array.range ds.length))(g:Sg (cD ds) γ 0 ds.length):(γ.toList.map (dk ds))=fW 40 ds:=by
 have hsz:γ.size=ds.length:=by rw[p.size_eq,A1]
 refine fj ca ?_ ?_
 ·have p1:(γ.toList.map (dk ds)).Perm ((List.range ds.length).map (dk ds)):=by
   have:=Array.perm_iff_toList_perm.mp p;rw[Array.toList_range]at this;exact this.map _
  have e:(List.range ds.length).map (dk ds)=ds:=by
   refine BD (by simp) fun i h1 h2=>?_
   rw[List.getElem_map,List.getElem_range,vE (Ya h2)]
  rwa [e]at p1
 ·unfold Srt;rw[Yi,List.pairwise_iff_getElem];intro i j hi hj hij;rw[Zd]at hi hj;have b:=g i j γ.toList[i] γ.toList[j] (Wh _) hij (by lia) (by rw[← B0];exact Ya _) (by rw[← B0];exact Ya _)
  rcases b with b|b
  ·exact p7 _ _ _ b
  ·exact b.1
section
variable {X:Cx}{K:Aa}{Y:AS}{H:Hp}
def D4(K:Aa):List V->Hp->VK->Prop:=fun xs H Q=>∃(Y:AS)(v:V)(d:D)(ds:List D)(κ:SortKind),xs=[v]/\BA K Y H v d/\d.seq=some ds/\(∀x∈ds,Pl 40 x)/\CA 40 ds/\Kd ds κ/\ds.length<64 /\
 ∀(p:Addr)(vs:List V),H p=none->El K Y H vs (fW 40 ds)->Q (.ref p) (upd H p (.lst vs))
def cJ{n:Nat}(h:X.K=K)(hr:Room n X.A):CallR X (.builtin "sorted") (D4 K):=by
 intro pins s σ H xs us Q I rv hh;obtain⟨Y,v,d,ds,κ,rfl,ba,hs,pl,ca,hk,h64,q⟩:=hh;obtain⟨u,rfl,ru⟩:=vals1 rv;obtain⟨a,vs,rfl,sq,el⟩:=qz ba hs;cases ru;have main:∀its:List Value,Vals vs its->(s.heap.IsList a its.toArray∨s.heap.IsTuple a its.toArray)->vs.length<=sizeLine->wpAny (model X.prog X.w) X.A (call (.builtin "sorted") [.ref a]) (EP X pins σ Q) X.xe s:=fun its r t hz=>by
  have hn:its.length=ds.length:=r.length.symm.trans el.1;have rr:∀(i:Nat) u d,its[i]?=some u->ds[i]?=some d->RH s.heap u d:=fun i u d e1 e2=>by
   obtain⟨v,e3,rv⟩:=eL r i u e1;exact(el.2 i v d e3 e2).rh (pl d (Xc e2)) I h rv
  have hz':its.length<=sizeLine:=by rw[← r.length];exact hz
  refine vG t hz' hn rr pl ca hk hr.units (by lia) fun γ p g=>?_
  rw[hn]at p g;obtain⟨e,he⟩:=sortedAll_at s.heap its (gc its γ);have hγ:∀g∈γ.toList,g<ds.length:=fun g hg=>by
   have:=(Array.perm_iff_toList_perm.mp p).mem_iff.mp hg;rw[Array.toList_range]at this;exact Xh.mp this
  have eo:=Ju ca p g
  let ws:List V:=γ.toList.map fun g=>vs.getD g .non
  have vw:Vals ws (gc its γ).toList:=by
   have e2:(gc its γ).toList=γ.toList.map fun g=>its.getD g .none:=by unfold gc;simp
   rw[e2];have:∀l:List Nat,(∀g∈l,g<ds.length)->Vals (l.map fun g=>vs.getD g .non) (l.map fun g=>its.getD g .none):=fun l=>by
    induction l with
    | nil=>exact fun _=>.nil
    | cons g l ih =>
     intro hl;have hg:g<ds.length:=hl g Zc;have a1:its[g]?=some its[g]:=Ya (by lia)
     obtain⟨v,e3,rv⟩:=eL r g _ a1;refine .cons ?_ (ih fun x hx=>hl x (Vb _ hx));show RelV (vs.getD g .non) (its.getD g .none);rw[Vd,Vd,e3,a1];exact rv
   exact this _ hγ
  have elw:El K Y H ws (fW 40 ds):=by
   rw[← eo];refine⟨by simp[ws],fun i v d h1 h2=>?_⟩
   rw[Qd]at h1 h2;obtain⟨g1,k1,k2⟩:=Yd.mp h1;obtain⟨g2,k3,k4⟩:=Yd.mp h2;rw[k1]at k3;cases k3;have hg:g1<ds.length:=hγ g1 (Xc k1);have d1:ds[g1]?=some ds[g1]:=Ya hg;obtain⟨v',e3,da⟩:=el.at d1;rw[vE d1]at k4;rw[Vd,e3]at k2;subst k4;have:v'=v:=k2;subst this;exact da
  have hlw:ws.length=ds.length:=by
   show(γ.toList.map _).length=_;rw[Za,Zd,p.size_eq,A1]
  refine⟨.ref (s.heap.objs.size+1),upd H (s.heap.objs.size+1) (.lst ws),I.laid (t':=s.toks) (fun b o z=>sortedAll_old z) (Nat.le_succ _) ⟨by lia,(gc its γ).toList,e,vw,by simpa using he⟩,rfl,q _ ws (I.hok.fresh (Nat.le_succ _)) elw⟩
 rcases sq with sq|sq
 ·obtain⟨its,r,t,hz⟩:=I.list (h ▸ sq);exact main its r (.inl t.isList) hz
 ·obtain⟨its,r,t,hz⟩:=I.tuple (h ▸ sq);exact main its r (.inr t) hz
open Classical in
noncomputable def b7:List D->Option Rz
 | [d]=>match d.seq with
  | some ds=>if (∀x∈ds,Pl 40 x)/\CA 40 ds/\(∃κ,Kd ds κ)/\ds.length<64 then some (.lst (fW 40 ds),true) else none
  | none=>none
 | _=>none
set_option tactic.hygienic true in
theorem D5:RdCB K (D4 K) b7:=by
 intro Y H xs ds z Q lv bs e q;cases bs with
 | nil=>cases e
 | @cons v vs d ds b1 bs =>
  cases bs with
  | cons _ _=>cases e
  | nil =>
   unfold b7 at e;dsimp only at e;split at e
   ·rename_i xs hs
    obtain⟨c,e⟩:=aF e;cases e;obtain⟨c1,c2,⟨κ,c3⟩,c4⟩:=c;exact⟨Y,v,d,xs,κ,rfl,b1,hs,c1,c2,c3,c4,fun p ws hp el=>q _ _ (bE hp _) (jk el hp)⟩
   ·cases e
end
end VF
namespace VF22
open PySem PySem.Spec PyProof.Rows L2 VF
section
variable {X:Cx}{K:Aa}
@[irreducible] def PAi(X:Cx)(es:List Expr)(t:TA):Prop:=PA X es t
def ue:PAi X [] rL:=by unfold PAi;exact ac
def ir(ha:PE X e te)(hr:PAi X es t)(h:kC e=true):PAi X (e::es) (dL te t):=by
 unfold PAi at *;exact aj ha hr h
def yR(h:PAi X es t):PE X (.List es pos) (zw t):=by
 unfold PAi at h;exact bW h
@[irreducible] def PEi(X:Cx)(e:Expr)(t:TE):Prop:=PE X e t
def yS(h:PAi X es t):PEi X (.List es pos) (zw t):=by
 unfold PEi;exact yR h
def D6(hr:IxR X r)(ha:PEi X a ta)(hb:PE X b tb)(hs:tM b):PEi X (.Subscript a b pos) (tOp r ta tb):=by
 unfold PEi at *;exact G2 hr ha hb hs
end
end VF22
namespace VF
open PySem L2 PySem.Spec PyProof.Rows
section
variable {X:Cx}{K:Aa}
def D7(K:Aa):V->List V->Hp->VK->Prop:=fun x vs H Q=>∃(p:Addr)(ys:List Str)(b:Str),x=.ref p/\vs=[.str b]/\SqL K H p (ys.map V.str)/\b∈ys/\Q (.int (ys.idxOf b:Nat)) H
def vH(h:X.K=K):MtR X "list.index" (D7 K):=by
 intro pins s σ H x vs v us Q I rx rv hh;obtain⟨p,ys,b,rfl,rfl,sq,hb,q⟩:=hh;subst h;cases rx;obtain⟨u,rfl,ru⟩:=vals1 rv;obtain⟨t,rfl⟩:=ru;obtain⟨its,r,pl,hz⟩:=I.list sq;obtain⟨o,n,e,hc,hd,hs⟩:=id pl;have hlen:its.length=ys.length:=by have:=r.length;simpa using this.symm
 have hj:ys.idxOf b<ys.length:=List.idxOf_lt_length_iff.mpr hb;obtain⟨cls,dd,data,sl⟩:=o;simp only at hc hs;subst hc hs;have itAt:∀(i:Nat) v,its[i]?=some v->∃y t',ys[i]?=some y/\v=.str y t':=fun i v hv=>by
  obtain⟨w,e1,rw'⟩:=eL r i v hv;rw[Qd]at e1;obtain⟨y,e2,rfl⟩:=Yd.mp e1;obtain⟨t',rfl⟩:=rw';exact⟨y,t',e2,rfl⟩
 have hyl:ys.length<=2 ^ 24:=by rw[Za]at hz;exact hz
 let is:Value->Bool:=fun v=>match v with
  | .str y _=>y == b
  | _=>false
 refine AL AZ ⟨_,e,rfl⟩ PySem.F.entry_list_index (PySem.F.args_list_index_2 _ _)
  (PySem.SeqAt.list_indexAt p its.toArray n dd sl (.str b t) is (ys.idxOf b) (by simpa[hlen]using hj) (by lia) ?_ ?_) ⟨e,fun y hy=>?_,?_⟩
 ·have hv:its[ys.idxOf b]?=some its[ys.idxOf b]:=Ya (by lia)
  obtain⟨y,t',e1,e2⟩:=itAt _ _ hv;show is its[ys.idxOf b]=true;rw[e2];have:y=b:=by
   rw[Ya hj]at e1;have:=Option.some.inj e1;rw[← this];exact List.getElem_idxOf hj
  show(y == b)=true;rw[this];simp
 ·intro m hm hlt;have hm':m<its.length:=by simpa using hm
  have hv:its[m]?=some its[m]:=Ya hm';obtain⟨y,t',e1,e2⟩:=itAt _ _ hv;show is its[m]=false;rw[e2];show(y == b)=false;have hmy:m<ys.length:=by lia
  have:=List.not_of_lt_findIdx (p:=(· == b)) (xs:=ys) (i:=m) hlt;rw[Ya hmy]at e1;rw[← Option.some.inj e1];simpa using this
 ·obtain⟨i,hi⟩:=Qg (show y∈its by simpa using hy)
  obtain⟨z,t',_,rfl⟩:=itAt i y hi;exact BM _ _ _ _
 ·exact⟨.int _,H,I.tok _,⟨_,rfl⟩,q⟩
def bIndex:D->List D->Option Rz
 | .lst ds,[.str b]=>(gL ds).bind fun ys=>if b∈ys then some (.int (ys.idxOf b:Nat),false) else none
 | _,_=>none
theorem vI:wR K (D7 K) bIndex:=by
 intro Y H x xs d ds z Q lv b1 bs e q;cases d with
 | lst es =>
  cases bs with
  | nil=>cases e
  | @cons v vs d ds b2 bs =>
   cases bs with
   | cons _ _=>cases d<;>cases e
   | nil =>
    cases d with
    | str b =>
     refine bsO e fun ys e1 e=>?_;obtain⟨c,e⟩:=aF e;cases e;obtain⟨p,ws,rfl,hp,el⟩:=b1;obtain rfl:=lB el e1;exact⟨p,ys,b,rfl,by rw[show v=V.str b from b2],.inl (.inl hp),c,q _ H (Same.refl H) (.int _)⟩
    | _=>cases e
 | _=>cases e
end
end VF
namespace VF
open PySem PySem.Spec PyProof.Rows L2
def fsc{N P:List Str}{sc:Scope}(h:N.Nodup/\(∀x∈P,sc.names.lookup x=some .local∨sc.names.lookup x=some .cell)/\∀y∈sc.names,y.2≠.free)(a:sc.kind=.function:=by rfl)(b:sc.isCoroutine=false:=by rfl)(c:sc.isGenerator=false:=by rfl)(d:N.take P.length=P:=by rfl):FnScope N P sc:=⟨a,b,c,h.1,d,h.2.1,h.2.2⟩
structure FH(K:Aa)(x:Str)(st:Stmt):Prop where
 ex:∃f fd,Fun K x x st f fd/\PySem.W.nsIn K mainGlobals x=some (some (.ref f))
def fh{K:Aa}{x:Str}{st:Stmt}{f:Addr}{oc:Value}{od an:Option Addr}{osl:Array (Option Value)}{kV doc pm cdv ct:Value}(a:PySem.W.nsIn K mainGlobals x=some (some (.ref f)))
  (l:K.lookup f=some ⟨oc,od,.func (PySem.W.fnOf x x (il st) (fN st) (ak st) .none kV doc pm an cdv ct),osl⟩)(c:PySem.W.codeIn K cdv x=true)(k:PySem.W.keepIn K (.ref f)=true):FH K x st:=⟨f,_,Ie l c k,a⟩
def Bn(x:Str)(st:Stmt)(ps:List Str):Prop:=∀(kV doc pm:Value)(an:Option Addr)(cdv ct:Value)(us:List Value),us.length=ps.length->bindArgs (PySem.W.fnOf x x (il st) (fN st) (ak st) .none kV doc pm an cdv ct) ⟨us,[]⟩=pure (ps.zip us)
theorem arS{n:Nat}{P:List Value->Prop}{us:List Value}(hl:us.length=n+1)(h:∀a r,r.length=n->P (a::r)):P us:=by
 cases us with
 | nil=>cases hl
 | cons a r=>exact h a r (Nat.succ.inj hl)
def ar1{P:List Value->Prop}(h:∀a,P [a])(us:List Value)(hl:us.length=1):P us:=arS hl fun a r hr=>by
 rw[BG hr];exact h a
def ar2{P:List Value->Prop}(h:∀a b,P [a,b])(us:List Value)(hl:us.length=2):P us:=arS hl fun a r hr=>ar1 (P:=fun r=>P (a::r)) (h a) r hr
def ar3{P:List Value->Prop}(h:∀a b c,P [a,b,c])(us:List Value)(hl:us.length=3):P us:=arS hl fun a r hr=>ar2 (P:=fun r=>P (a::r)) (h a) r hr
section
variable {P:Program}{w:World}{K:Aa}{mg:Str->Option Value}{base h:Heap}{x:Str}{st:Stmt}{N ps:List Str}{k:Nat}{F:FS}
abbrev Bd'(P:Program)(w:World)(K:Aa)(mg:Str->Option Value)(base:Heap)(x:Str)(st:Stmt)(N:List Str)(k:Nat)(F:FS):Prop :=
 ∀{f:Addr}{cdv:Value}{A:Around}{outer:List Env}{s:Shared}{H:Hp}{E:XK},Room k (A.deeper (envOfC x (ak st) s.heap.objs.size f cdv))->∃t,PSs (wD CX0 P w K mg base N x (ak st) f cdv A outer s H E).nox (fN st) t/\RdS K t F
def okV(F':Fun K x x st f fd)(S:FnScope N ps (ak st))(hB:Bd' P w K mg base x st N k F):FnOk P w K mg base CX0 (k+1) f fd ps (spV K (aS F N.length ps.length)):=by
 refine F'.ok S (fun vs H Q E h=>IC h) fun cdv A outer s H vs Q E hr h=>?_;obtain⟨t,h1,h2⟩:=hB hr;exact⟨t,h1,FD h2 h⟩
def FH.cal(h':FH K x st)(X:K.In h)(G:h.Ns mainGlobals mg)(S:FnScope N ps (ak st))(hb:Bn x st ps)(hB:Bd' P w K mg base x st N k F):Cal P w K mg base x (k+1) ps (spV K (aS F N.length ps.length)):=by
 obtain⟨f,fd,F',a⟩:=h'.ex;exact⟨f,fd,okV F' S hB,As X G a,F'.kp,F'.binds hb⟩
def FH.calI(h':FH K x st)(X:K.In h)(G:h.Ns mainGlobals mg)(S:FnScope N ps (ak st))(hb:Bn x st ps)(hB:Bd' P w K mg base x st N k F):Cal P w K mg base x (k+1) ps (kD K (cB F N.length ps.length)):=by
 obtain⟨f,fd,F',a⟩:=h'.ex;refine⟨f,fd,F'.ok S (fun vs H Q E h=>KD h) fun cdv A outer s H vs Q E hr h=>?_,As X G a,F'.kp,F'.binds hb⟩;obtain⟨t,h1,h2⟩:=hB hr;exact⟨t,h1,zR h2 h⟩
theorem FH.calR{sp:Nat->Sp}(h':FH K x st)(X:K.In h)(G:h.Ns mainGlobals mg)(hb:Bn x st ps)(m:Nat)(h0:∀f fd,FnOk P w K mg base CX0 0 f fd ps (sp 0))(h1:∀n,n<=m->Cal P w K mg base x n ps (sp n)->∀f fd,Fun K x x st f fd->FnOk P w K mg base CX0 (n+1) f fd ps (sp (n+1))):∀n,n<=m+1->Cal P w K mg base x n ps (sp n):=by
 obtain⟨f,fd,F',a⟩:=h'.ex;intro n;induction n with
 | zero=>exact fun _=>⟨f,fd,h0 f fd,As X G a,F'.kp,F'.binds hb⟩
 | succ n ih=>exact fun hn=>⟨f,fd,h1 n (Nat.le_of_succ_le_succ hn) (ih (Nat.le_of_succ_le hn)) f fd F',As X G a,F'.kp,F'.binds hb⟩
def Ga:FnOk P w K mg base CX0 0 f fd ps (spV K (eJ 0)):=by
 have no:∀vs H Q E,¬ spV K (eJ 0) vs H Q E:=fun vs H Q E h=>by
  obtain⟨Z,ds,z,el,lv,e,q⟩:=h;obtain⟨u,_,hd,_⟩:=sO e;cases hd
 exact⟨fun vs H Q E h=>absurd h (no vs H Q E),fun A outer s H args us vs Q E _ _ _ _ h=>absurd h (no vs H Q E)⟩
def FH.alike{F:(List D->Option Rz)->FS}(h':FH K x st)(X:K.In h)(G:h.Ns mainGlobals mg)(S:FnScope N ps (ak st))(hb:Bn x st ps)(m:Nat)(hv:∀n u,Dp (n+1) u->aS (F (eJ n)) N.length ps.length [u,u]=some (.bl true,false))
  (hB:∀n g,n<=m->Cal P w K mg base x n ps (spV K g)->Bd' P w K mg base x st N n (F g)):∀n,n<=m+1->Cal P w K mg base x n ps (spV K (eJ n)) :=
 h'.calR X G hb m (fun _ _=>Ga) fun n hn c f fd F'=>(okV F' S (hB n _ hn c)).imp fun vs H Q E hs=>by
  obtain⟨Z,ds,z,el,lv,e,q⟩:=hs;obtain⟨u,rfl,hd,rfl⟩:=sO e;exact⟨Z,[u,u],(.bl true,false),el,lv,hv n u hd,q⟩
theorem FH.law(h':FH K "law" st)(X:K.In h)(G:h.Ns mainGlobals mg)(hfa:mg "law"=some (.ref fa))(S:FnScope N ["_law_script"] (ak st))(hb:Bn "law" st ["_law_script"])(lv:∀ns:List Int,aS F N.length 1 [.fl (ns.map D.int)]=some (.bl true,false))
  (hB:∀base:Heap,Bd' P w K mg base "law" st N k F):∃fd:FuncData,(∀(s:Shared)(v:Value),BindsTo s fd ⟨[v],[]⟩ [("_law_script",v)])/\∀base:Heap,K.In base->base.Ns mainGlobals mg->FnOk P w K mg base CX0 (k+1) fa fd ["_law_script"] (yA K):=by
 obtain⟨f,fd,F',a⟩:=h'.ex;have e:=hfa.symm.trans (As X G a);cases e;refine⟨fd,fun s v=>?_,fun base _ _=>(okV F' S (hB base)).imp fun vs H Q E h=>?_⟩
 ·obtain⟨oc,od,kV,doc,pm,an,cdv,ct,osl,rfl,lk,hcd⟩:=F'.ex;exact .of_eq (hb kV doc pm an cdv ct [v] rfl)
 ·obtain⟨a,ns,rfl,sq,_,q⟩:=h;refine⟨fun _=>False,[.fl (ns.map D.int)],(.bl true,false),El.one (.fl (vs:=ns.map V.int) ?_ (by simp) fun i v d h1 h2=>?_),fun p z=>z.elim,lv ns,fun v H' _ r=>?_⟩
  ·rcases sq with s|s
   ·exact .inl ⟨s,fun z=>z⟩
   ·exact .inr fun H'=>.inr s
  ·rw[Qd]at h1 h2;obtain⟨c,e1,rfl⟩:=Yd.mp h1;rw[e1]at h2;obtain rfl:=Option.some.inj h2;exact .int _
  ·obtain rfl:=(show v=V.bl true from DA.ba (show DA K (fun _=>False) H' v (.bl true) from r));exact q H'
end
def walkL{l:PySem.W.OpenLaw}{loose:List Str}{XP:(Str->Option Value)->Heap->Prop}{YP:World->Heap->Prop}{d:DefRec}{K:Params->Aa}{k:Nat}(hn:l.most=some 63)(hdf:d.params.defaults=[])(hr:Room k callerA)
  (hY:∀(w:World)(h:Heap),YP w h->(K w.params).In h)
  (F:∀(w:World)(mg:Str->Option Value)(fa:Addr)(h:Heap),(K w.params).In h->h.Ns mainGlobals mg->mg d.name=some (.ref fa) ->
   ∃fd:FuncData,(∀(s:Shared)(u:Value),BindsTo s fd ⟨[u],[]⟩ [("_law_script",u)])/\∀base:Heap,(K w.params).In base->base.Ns mainGlobals mg->FnOk l.prog w (K w.params) mg base CX0 k fa fd ["_law_script"] (yA (K w.params))) :
  PySem.W.WalkO q loose XP YP l.row.toRowW d [] (fun f vs=>PySem.call f vs) :=
 L2.walk_of (n:=63) (k:=k) (x:="_law_script") (CX:=fun _=>CX0) (sp:=fun w=>yA (K w.params)) hn (by decide) hdf hr hY F (fun _ _ a ns hl _ hS=>⟨a,ns,rfl,hS,hl,fun _=>rfl⟩) fun _ _ _ _ _ z=>z
end VF
namespace VF22
open PySem PySem.Spec PyProof.Rows L2 VF TS
section
variable {X:Cx}{K:Aa}{Y:AS}{H:Hp}{s:Shared}{pins:List (Addr×Obj)}{σ:L2.St}
open Classical in
noncomputable def qJ:D->D->Option Rz:=fun a b=>if Pl 40 a/\Pl 40 b/\Cp 40 a b then some (.bl (ltN 40 a b),false) else none
def Ld(K:Aa):R2:=fun x y H Q=>∃(Y:AS)(a b:D),BA K Y H x a/\BA K Y H y b/\Pl 40 a/\Pl 40 b/\Cp 40 a b/\Q (.bl (ltN 40 a b)) H
def Jv:RdOp K (Ld K) qJ:=by
 intro Y H x y d1 d2 z Q lv b1 b2 e q;unfold qJ at e;obtain⟨c,e⟩:=aF e;cases e;exact⟨Y,d1,d2,b1,b2,c.1,c.2.1,c.2.2,q _ H (Same.refl H) (.bl _)⟩
def Jw(h:X.K=K)(hu:X.A.units+64<cLine):OpR X (compareOp .Lt) (Ld K):=by
 intro pins s σ H x y v u Q I rx ry ⟨Y,a,b,b1,b2,p1,p2,c,q⟩;exact RH.ltAt 40 (A:=X.A) p1 p2 c (b1.rh p1 I h rx) (b2.rh p2 I h ry) (by lia) _ _ _ _ ⟨.bl _,H,I,rfl,q⟩
inductive GT(K:Aa):V->D->Prop where
 | int (i:Int):GT K (.int i) (.int i)
 | str (x:Str):GT K (.str x) (.str x)
 | tup {a:Addr} {vs:List V} {ds:List D}:(∀H,SqT K H a vs)->vs.length=ds.length->(∀(i:Nat) v d,vs[i]?=some v->ds[i]?=some d->GT K v d)->GT K (.ref a) (.tup ds)
theorem GT.rh(h:GT K v d)(I:Inv X pins σ H s)(hK:X.K=K):∀{u:Value},RelV v u->RH s.heap u d:=by
 induction h with
 | int i=>intro u r;obtain⟨t,rfl⟩:=r;exact .int i t
 | str x=>intro u r;obtain⟨t,rfl⟩:=r;exact .str x t
 | @tup a vs ds h1 h2 h3 ih =>
  intro u r;cases r;obtain⟨its,r,t,_⟩:=I.tuple (hK ▸ h1 H);refine .tup t (r.length.symm.trans h2) fun i u d e1 e2=>?_;obtain⟨v,e3,rv⟩:=eL r i u e1;exact ih i v d e3 e2 rv
def GlT(K:Aa)(mg:Str->Option Value)(x:Str)(ds:List D):Prop:=∃a,mg x=some (.ref a)/\GT K (.ref a) (.tup ds)
def tGT(K:Aa)(ds:List D):TE:=fun _ H Q=>∀a,GT K (.ref a) (.tup ds)->Q (.ref a) H
def yT(hg:Gl X x)(hm:GlT K X.mg x ds)(hd:(x == ("__debug__":Str))=false:=by decide):PE X (.Name x pos) (tGT K ds):=by
 obtain⟨a,e,g⟩:=hm;exact fun _ _ _ H _ I q=>na I hg e ⟨.ref a,H,I,rfl,q a g⟩ hd
open Classical in
def Le(K:Aa)(ds:List D):R2:=fun x y H Q=>∃(Y:AS)(a:D),BA K Y H x a/\Pl 40 a/\GT K y (.tup ds)/\(∀d∈ds,Pl 40 d)/\Q (.bl (decide (a∈ds))) H
open Classical in
theorem Jx(h:X.K=K)(hu:X.A.units+64<cLine):OpR X (compareOp .In) (Le K ds):=by
 intro pins s σ H x y v u Q I rx ry ⟨Y,a,b1,p1,g,p2,q⟩;have r:=g.rh I h ry;cases r with
 | @tup l its _ hl hn f =>
  obtain⟨h1,h2⟩:=qC (A:=X.A) hn f p1 p2 (b1.rh p1 I h rx) hu;refine Bx _ hl h1 ?_;rw[h2];exact⟨.bl _,H,I,rfl,q⟩
open Classical in
noncomputable def Gb(ds:List D)(fe:FE):FE:=fun st=>(fe st).bind fun x=>(cont x.2 x.1).bind fun d=>if Pl 40 d/\∀e∈ds,Pl 40 e then some (.d (.bl (decide (d∈ds))),x.2) else none
def D8(h:RdE K te fe):RdE K (tOp (Le K ds) te (tGT K ds)) (Gb ds fe):=by
 intro st σ H O Z Q E r' st' h' q;refine bsP h' fun r1 st1 e1 h'=>?_;refine bsO h' fun d1 e3 h'=>?_;obtain⟨c,h'⟩:=aF h';cases h';refine h st σ H O Z _ E r1 st1 e1 fun v1 H1 O1 x1 k1 E1 rv1 w1=>fun a g=>?_;exact⟨_,d1,rv1.ba E1 e3,c.1,g,c.2,q _ H1 O1 x1 k1 E1 (.bl _) True.intro⟩
end
end VF22
namespace VF22
open PySem PySem.Spec PyProof.Rows L2 VF
section
variable {K:Aa}
def GV(K:Aa)(u:Value)(d:D):Prop:=∃v,RelV v u/\GT K v d
inductive GVs(K:Aa):List Value->List D->Prop where
 | nil:GVs K [] []
 | cons {u:Value} {d:D} {us:List Value} {ds:List D}:GV K u d->GVs K us ds->GVs K (u::us) (d::ds)
def gv_int:GV K (.int i t) (.int i):=⟨.int i,⟨t,rfl⟩,.int i⟩
theorem GVs.ex:∀{us:List Value}{ds:List D},GVs K us ds->∃vs,Vals vs us/\vs.length=ds.length/\∀(i:Nat) v d,vs[i]?=some v->ds[i]?=some d->GT K v d
 | _,_,.nil=>⟨[],.nil,rfl,fun i v d h=>by simp at h⟩
 | _,_,.cons h r=>by
  obtain⟨v,h1,h2⟩:=h;obtain⟨vs,r1,r2,r3⟩:=r.ex;refine⟨v::vs,.cons h1 r1,by rw[Qa,Qa,r2],fun i w d e1 e2=>?_⟩
  cases i with
  | zero=>cases e1;cases e2;exact h2
  | succ i=>exact r3 i w d (by simpa using e1) (by simpa using e2)
def gv_tup{us:List Value}{ds:List D}(h1:K.lookup a=some ⟨.type "tuple",td,.seq us.toArray n,sl⟩)(h:GVs K us ds)(h4:ds.length<=1000:=by decide):GV K (.ref a) (.tup ds):=by
 obtain⟨vs,r1,r2,r3⟩:=h.ex;have h4:us.toArray.size<=sizeLine:=by
  rw[Wb,← r1.length,r2];exact Wc h4 (by decide)
 exact⟨.ref a,rfl,.tup (fun H=>.inr ⟨_,us.toArray,n,h1,rfl,rfl,h4,r1⟩) r2 r3⟩
theorem GV.glt(h:GV K (.ref a) (.tup ds))(e:mg x=some (.ref a)):GlT K mg x ds:=by
 obtain⟨v,r,g⟩:=h;cases g with
 | @tup b vs _ h1 h2 h3 =>
  cases r;exact⟨a,e,.tup h1 h2 h3⟩
structure FHD(K:Aa)(x:Str)(st:Stmt)(ds:List Value):Prop where
 ex:∃f fd,FunD K x x st ds f fd/\PySem.W.nsIn K mainGlobals x=some (some (.ref f))
def fhd{x:Str}{st:Stmt}{ds:List Value}{f T:Addr}{nT:Nat}{oc tc:Value}{od an td:Option Addr}{osl tsl:Array (Option Value)}{kV doc pm cdv ct:Value}(a:PySem.W.nsIn K mainGlobals x=some (some (.ref f)))
  (l:K.lookup f=some ⟨oc,od,.func (PySem.W.fnOf x x (il st) (fN st) (ak st) (.ref T) kV doc pm an cdv ct),osl⟩)(c:PySem.W.codeIn K cdv x=true)(k:PySem.W.keepIn K (.ref f)=true)(t:K.lookup T=some ⟨tc,td,.seq ds.toArray nT,tsl⟩):FHD K x st ds :=
 ⟨f,_,⟨⟨_,_,_,_,_,_,_,_,_,_,_,_,rfl,l,c,t,rfl⟩,k⟩,a⟩
variable {P:Program}{w:World}{mg:Str->Option Value}{base h:Heap}{x:Str}{st:Stmt}{N ps:List Str}{k:Nat}{F:FS}{ds:List Value}{dvs:List V}
def Jy{st s:En}{r:Rs}{d:D}{ds:List D}{b:Bool}(h:fe st=some (r,s))(h1:cont s r=some d)(h2:Pl 40 d)(h3:∀e∈ds,Pl 40 e)(h4:b=true↔d∈ds):Gb ds fe st=some (.d (.bl b),s):=by
 classical
 simp only[Gb,h,h1,Xa];rw[Ag ⟨h2,h3⟩];have:decide (d∈ds)=b:=by
  rw[Ye,decide_eq_true_eq];exact h4.symm
 rw[← this]
def D9(h1:Pl 40 a)(h2:Pl 40 b)(h3:Cp 40 a b):qJ a b=some (.bl (ltN 40 a b),false):=by
 unfold qJ;rw[Ag ⟨h1,h2,h3⟩]
end
end VF22
namespace VF22
open PySem PySem.Spec PyProof.Rows L2 VF
section
variable (K:Aa){X:Cx}{a b o:Expr}{ta tb to:TE}{p pos apos cpos:Pos}
def au(ha:PE X a ta)(hb:PE X b tb)(h:X.K=K:=by rfl)(hs:tM b:=by exact fun _ _=>rfl):PE X (.Subscript a b pos) (tOp (rIx K) ta tb):=G2 (tU h) ha hb hs
def bG(hm:X.mg "len"=none)(ha:PE X a ta)(h:X.K=K:=by rfl)(hg:Gl X "len":=by rfl)(n:kC a=true:=by rfl):PE X (.Call (.Name "len" p) [a] [] pos) (tCB (Dw K) (dL ta rL)) :=
 bR (zX h) hg hm PySem.boot_len (aj ha ac n) (by decide) (by decide) (gA n) rfl
def bH(hm:X.mg "tuple"=none)(ha:PE X a ta)(h:X.K=K:=by rfl)(c:X.calm=true:=by rfl)(hg:Gl X "tuple":=by rfl)(n:kC a=true:=by rfl):PE X (.Call (.Name "tuple" p) [a] [] pos) (tCB (t7 K) (dL ta rL)) :=
 bX (vx h c) hg hm cX (aj ha ac n) (by decide) (by decide) (gA n) rfl
def bK(hm:X.mg "isinstance"=none)(ha:PE X a ta)(hb:PE X b tb)(h:X.K=K:=by rfl)(hg:Gl X "isinstance":=by rfl)(n:kC a=true:=by rfl)(n':kC b=true:=by rfl)(hpl:(backTo pos (starEach [b] X.env)).any (·.1)=false:=by rfl) :
  PE X (.Call (.Name "isinstance" p) [a,b] [] pos) (tCB (I8 K) (dL ta (dL tb rL))) :=
 bR (t8 h) hg hm L2.boot_isinstance (aj ha (aj hb ac n') n) (by decide) (by decide) (gA n) hpl
def aZ(ha:PE X a ta)(hb:PE X b tb)(h:X.K=K:=by rfl):PE X (.BinOp a .Add b pos) (tOp (yt K) ta tb):=bp (yu h) ha hb
def iu(ho:OpR X (compareOp op) r)(ha:PE X a ta)(hb:PE X b tb)(h:op≠.In:=by decide)(h2:op≠.NotIn:=by decide):PE X (.Compare a [op] [b] pos) (tOp r ta tb):=nc ho ha hb (CO _ h h2)
def aH(ho:OpR X (compareOp op) r)(ha:PE X a ta)(hb:PE X b tb)(h:op≠.In:=by decide)(h2:op≠.NotIn:=by decide):PT X (.Compare a [op] [b] pos) (x6 (tOp r ta tb)):=eE ho ha hb (CO _ h h2)
def lH(ho:PE X o to)(ha:PE X a ta)(n:kC a=true:=by rfl)(hbase:attributeBase o "append" X.env (eval o X.env)=eval o X.env:=by rfl)
  (hfew:((backTo cpos (starEach [a] X.env)).all (fun x=>!x.1)&&(backToKw cpos (keywordEach [] X.env)).all (fun x=>x.1.isSome)
   && decide (([a]:List Expr).length+([]:List Keyword).length+(if ([]:List Keyword).isEmpty then 0 else 1)<30))=true:=by rfl)
  (hline:(apos.endLine == cpos.line)=true:=by rfl):PE X (.Call (.Attribute o "append" apos) [a] [] cpos) (tBM X.K "list" tS to (dL ta rL)) :=
 cA AH PySem.F.slot_list_append PySem.F.type_list_append zF ho (aj ha ac n) hbase hfew hline (gA n) rfl
end
end VF22
namespace VF22
open PySem PySem.Spec PyProof.Rows L2 VF
section
variable {X:Cx}{K:Aa}
def Ea:V->List V->Hp->VK->Prop:=fun x vs H Q=>∃(a b:Str),x=.str a/\vs=[.str b]/\(b.length == 0)=false/\a.length<=100000/\∀l,H l=none->Q (.ref l) (upd H l (.lst ((Txt.split a b).map V.str)))
theorem sR:∀l:List (Str×Tok),Vals ((l.map (·.1)).map V.str) (strValues l)
 | []=>.nil
 | p::r=>.cons ⟨p.2,rfl⟩ (sR r)
def gP:MtR X "str.split" Ea:=by
 intro pins s σ H x vs v us Q I rx rv hq;obtain⟨a,b,rfl,rfl,hb,hz,q⟩:=hq;obtain⟨t,rfl⟩:=rx;obtain⟨u,rfl,ru⟩:=vals1 rv;obtain⟨t',rfl⟩:=ru;have lim:(100000:Nat)+2<=sizeLine:=by rw[sizeLine_eq];decide
 have out:∀(c:List (Str×Tok))(k:Nat),c.map (·.1)=Txt.split a b->c.length<=sizeLine->EP X pins σ Q (.ref s.heap.objs.size) { s with heap:=s.heap.push { cls:=.type "list",data:=.seq (strValues c).toArray },toks:=k }:=fun c k ec hc =>
  ⟨.ref s.heap.objs.size,_,I.laid (a:=s.heap.objs.size) (o:=.lst ((Txt.split a b).map V.str)) (t':=k) (fun _ _ z=>Ac _ z) (Xb _) ⟨by rw[Za,← ec,Za];exact hc,strValues c,0,ec ▸ sR c,Ak _ rfl⟩,rfl,q _ (I.hok.fresh (Xb _))⟩
 have few:(Builtin.Str.partsBetween a (Builtin.Str.occurrences a b 0 a.length (a.length+1)) b.length).length<=sizeLine:=by
  have e1:=StrLaws.occ_length_le a b 0 a.length (a.length+1);rw[length_partsBetween];lia
 cases d1:(decide (a.length<b.length)||decide (Builtin.Str.strKind a<Builtin.Str.strKind b)) with
 | true=>exact AL F.slot_str_split (AV _ _ _) F.entry_str_split (F.args_str_split_2 _ _) (meets_str_split_cannot_occur a b t t' d1) (out [(a,t)] s.toks (Ag d1).symm (by show 1<=sizeLine;lia))
 | false =>
  cases d2:(Builtin.Str.occurrences a b 0 a.length (a.length+1)).isEmpty with
  | true=>exact AL F.slot_str_split (AV _ _ _) F.entry_str_split (F.args_str_split_2 _ _) (meets_str_split_not_found a b t t' d1 hb d2) (out [(a,t)] s.toks ((Al (Ba d1)).trans (Ag d2)).symm (by show 1<=sizeLine;lia))
  | false =>
   refine AL F.slot_str_split (AV _ _ _) F.entry_str_split (F.args_str_split_2 _ _) (meets_str_split_sep a b t t' d1 hb d2 (by lia) few) ?_
   show wants _ _ _ { s with toks:=_,heap:=s.heap.push { cls:=.type "list",data:=.seq (strsFrom s.toks _).toArray } };rw[strsFrom_eq];refine out (numbered s.toks _) _ ((numbered_texts _ _).trans ((Al (Ba d1)).trans (Al (Ba d2))).symm) ?_;have:=congrArg List.length (numbered_texts s.toks (Builtin.Str.partsBetween a (Builtin.Str.occurrences a b 0 a.length (a.length+1)) b.length));rw[Za]at this;rw[this];exact few
def dX:D->List D->Option Rz
 | .str a,[.str b]=>if (b.length == 0)=false/\a.length<=100000 then some (.lst ((Txt.split a b).map D.str),true) else none
 | _,_=>none
theorem vJ:wR K Ea dX:=by
 intro Y H x xs d ds z Q lv b1 bs e q;cases d with
 | str a =>
  cases bs with
  | nil=>cases e
  | @cons v vs d ds b2 bs =>
   cases bs with
   | cons _ _=>cases d<;>cases e
   | nil =>
    cases d with
    | str b =>
     obtain⟨c,e⟩:=aF e;cases e;exact⟨a,b,b1,by rw[show v=V.str b from b2],c.1,c.2,fun r hr=>q _ _ (bE hr _) (jk (FR _) hr)⟩
    | _=>cases e
 | _=>cases e
def B7:CallR X (.type "int") (fun xs H Q=>∃(a:Str)(n:Int),xs=[.str a]/\PySem.intText? a=some n/\a.length<=640/\Q (.int n) H):=by
 intro pins s σ H xs us Q I r h;obtain⟨a,n,rfl,hn,hl,q⟩:=h;obtain⟨u,rfl,ru⟩:=vals1 r;obtain⟨t,rfl⟩:=ru;exact PySem.W.KIN.call_text hn hl ⟨.int n,H,I.tok _,⟨_,rfl⟩,q⟩
def yU:D->Option D
 | .str a=>if a.length<=640 then(PySem.intText? a).map D.int else none
 | _=>none
theorem Gc:RdCB K (fun xs H Q=>∃(a:Str)(n:Int),xs=[.str a]/\PySem.intText? a=some n/\a.length<=640/\Q (.int n) H) (b1 yU):=wW fun Y H v d o Q c e q=>by
 cases d with
 | str a =>
  obtain⟨hz,e⟩:=aF e;obtain⟨n,e1,rfl⟩:=Yd.mp e;exact⟨a,n,by rw[show v=V.str a from c],e1,hz,q _ (.int _)⟩
 | _=>cases e
end
end VF22
namespace VF22
open PySem PySem.Spec PyProof.Rows L2 VF
section
variable {X:Cx}{K:Aa}{P:Program}{w:World}{rows:List (Str×Int)}
def vK:MtR X "str.endswith" (fun x vs H Q=>∃(a b:Str),x=.str a/\vs=[.str b]/\Q (.bl (Txt.endswith a b)) H):=by
 intro pins s σ H x vs v us Q I rx rv h;obtain⟨a,b,rfl,rfl,q⟩:=h;obtain⟨t,rfl⟩:=rx;obtain⟨u,rfl,ru⟩:=vals1 rv;obtain⟨t',rfl⟩:=ru;exact SC.endswith ⟨.bl _,H,I,rfl,q⟩
def Eb:D->List D->Option Rz
 | .str a,[.str b]=>some (.bl (Txt.endswith a b),false)
 | _,_=>none
theorem yV:wR K (fun x vs H Q=>∃(a b:Str),x=.str a/\vs=[.str b]/\Q (.bl (Txt.endswith a b)) H) Eb:=by
 intro Y H x xs d ds z Q lv b1 bs e q;cases d with
 | str a =>
  cases bs with
  | nil=>cases e
  | @cons v vs d ds b2 bs =>
   cases bs with
   | cons _ _=>cases d<;>cases e
   | nil =>
    cases d with
    | str b=>cases e;exact⟨a,b,b1,by rw[show v=V.str b from b2],q _ H (Same.refl H) (.bl _)⟩
    | _=>cases e
 | _=>cases e
def Ec(K:Aa):V->List V->Hp->VK->Prop:=fun x vs H Q=>∃(p:Addr)(ys:List Str)(b:Str),x=.ref p/\vs=[.str b]/\SqL K H p (ys.map V.str)/\Q (.int (ys.count b:Nat)) H
def isS(b:Str):Value->Bool
 | .str y _=>y == b
 | _=>false
theorem pi{b:Str}:∀{its:List Value}{ys:List Str},Vals (ys.map V.str) its->its.countP (isS b)=ys.count b
 | [],[],_=>rfl
 | v::its,y::ys,h=>by
  cases h with
  | cons h1 h2 =>
   obtain⟨t,rfl⟩:=h1;rw[List.countP_cons,List.count_cons,pi h2];rfl
 | [],y::ys,h=>by cases h
 | v::its,[],h=>by cases h
def Ed(h:X.K=K):MtR X "list.count" (Ec K):=by
 intro pins s σ H x vs v us Q I rx rv hh;obtain⟨p,ys,b,rfl,rfl,sq,q⟩:=hh;subst h;cases rx;obtain⟨u,rfl,ru⟩:=vals1 rv;obtain⟨t,rfl⟩:=ru;obtain⟨its,r,pl,hz⟩:=I.list sq;obtain⟨o,n,e,hc,hd,hs⟩:=id pl;obtain⟨cls,dd,data,sl⟩:=o;simp only at hc hs;subst hc hs;refine AL BP ⟨_,e,rfl⟩ PySem.F.entry_list_count (PySem.F.args_list_count_2 _ _)
  (PySem.SeqAt.list_countAt p its.toArray n dd sl (.str b t) (isS b)) ⟨e,fun y hy=>?_,?_⟩
 ·obtain⟨i,hi⟩:=Qg (show y∈its by simpa using hy)
  obtain⟨w,e1,rw'⟩:=eL r i y hi;rw[Qd]at e1;obtain⟨z,_,rfl⟩:=Yd.mp e1;obtain⟨t',rfl⟩:=rw';exact BM _ _ _ _
 ·show EP X pins σ Q (Value.int ((its.countP (isS b):Nat):Int) s.toks) _;rw[pi r];exact⟨.int _,H,I.tok _,⟨_,rfl⟩,q⟩
def w6:D->List D->Option Rz
 | .lst ds,[.str b]=>(gL ds).bind fun ys=>some (.int (ys.count b:Nat),false)
 | _,_=>none
theorem vL:wR K (Ec K) w6:=by
 intro Y H x xs d ds z Q lv b1 bs e q;cases d with
 | lst es =>
  cases bs with
  | nil=>cases e
  | @cons v vs d ds b2 bs =>
   cases bs with
   | cons _ _=>cases d<;>cases e
   | nil =>
    cases d with
    | str b =>
     refine bsO e fun ys e1 e=>?_;cases e;obtain⟨p,ws,rfl,hp,el⟩:=b1;obtain rfl:=lB el e1;exact⟨p,ys,b,rfl,by rw[show v=V.str b from b2],.inl (.inl hp),q _ H (Same.refl H) (.int _)⟩
    | _=>cases e
 | _=>cases e
def gv_str{x:Str}{t:Tok}:GV K (.str x t) (.str x):=⟨.str x,⟨t,rfl⟩,.str x⟩
open Classical in
def yW(K:Aa)(ds:List D):R2:=fun x y H Q=>∃(Y:AS)(a:D),BA K Y H x a/\Pl 40 a/\GT K y (.tup ds)/\(∀d∈ds,Pl 40 d)/\Q (.bl (!decide (a∈ds))) H
open Classical in
theorem oJ{ds:List D}(h:X.K=K)(hu:X.A.units+64<cLine):OpR X (compareOp .NotIn) (yW K ds):=by
 intro pins s σ H x y v u Q I rx ry ⟨Y,a,b1,p1,g,p2,q⟩;have r:=g.rh I h ry;cases r with
 | @tup l its _ hl hn f =>
  obtain⟨h1,h2⟩:=qC (A:=X.A) hn f p1 p2 (b1.rh p1 I h rx) hu;refine SeqAt.notIn_tupleAt _ hl h1 ?_;rw[h2];exact⟨.bl _,H,I,rfl,q⟩
open Classical in
noncomputable def jv(ds:List D)(fe:FE):FE:=fun st=>(fe st).bind fun x=>(cont x.2 x.1).bind fun d=>if Pl 40 d/\∀e∈ds,Pl 40 e then some (.d (.bl (!decide (d∈ds))),x.2) else none
def sS{ds:List D}{te:TE}{fe:FE}(h:RdE K te fe):RdE K (tOp (yW K ds) te (tGT K ds)) (jv ds fe):=by
 intro st σ H O Z Q E r' st' h' q;refine bsP h' fun r1 st1 e1 h'=>?_;refine bsO h' fun d1 e3 h'=>?_;obtain⟨c,h'⟩:=aF h';cases h';refine h st σ H O Z _ E r1 st1 e1 fun v1 H1 O1 x1 k1 E1 rv1 w1=>fun a g=>?_;exact⟨_,d1,rv1.ba E1 e3,c.1,g,c.2,q _ H1 O1 x1 k1 E1 (.bl _) True.intro⟩
def dP(rows:List (Str×Int))(a:Str):Option Int:=(rows.find? fun r=>decide (r.1=a)).map (·.2)
def Jz(rows:List (Str×Int)):List (Key×V):=rows.map fun r=>(Sum.inr r.1,V.int r.2)
theorem qK(a:Str):∀rows,wE (Jz rows) (Sum.inr a)=(dP rows a).map V.int
 | []=>rfl
 | r::rows=>by
  have ih:=qK a rows;by_cases e:r.1=a
  ·have b:dP (r::rows) a=some r.2:=by simp[dP,Qh,e]
   rw[b];exact vb (show(Sum.inr r.1:Key)=Sum.inr a by rw[e])
  ·have b:dP (r::rows) a=dP rows a:=by simp[dP,Qh,e]
   rw[b,← ih];exact vc (show ¬ (Sum.inr r.1:Key)=Sum.inr a from fun z=>e (Sum.inr.inj z))
def GDI(P:Program)(w:World)(K:Aa)(C:Addr)(rows:List (Str×Int)):Prop :=
 (C == sysModules)=false/\∃o es ep,K.lookup C=some o/\o.ExactDict/\o.data=.dict es ep/\KeysOf (ij P w) es/\∃vs,Pairs (ij P w) es.toList vs/\(vs.map (·.1)).Nodup/\KV (Jz rows) vs
def GDI.of{pins:List (Addr×Obj)}{σ:L2.St}{H:Hp}{s:Shared}{C:Addr}(g:GDI X.prog X.w K C rows)(I:Inv X pins σ H s)(hK:X.K=K):(C == sysModules)=false/\∃vs,KV (Jz rows) vs/\s.heap.DictOf (ij X.prog X.w) C vs:=by
 subst hK;obtain⟨h0,o,es,ep,h1,h2,h3,h4,vs,h5,h6,h7⟩:=g;exact⟨h0,vs,h7,o,es,ep,I.kIn _ _ h1,h2,h3,h4,h5,h6⟩
def JA(P:Program)(w:World)(K:Aa)(mg:Str->Option Value)(x:Str)(rows:List (Str×Int)):Prop:=∃C,mg x=some (.ref C)/\GDI P w K C rows
def Lf(P:Program)(w:World)(K:Aa)(rows:List (Str×Int)):TE:=fun _ H Q=>∀C,GDI P w K C rows->Q (.ref C) H
def JB{x:Str}{pos:Pos}(hg:Gl X x)(hm:JA P w K X.mg x rows)(hd:(x == ("__debug__":Str))=false:=by decide):PE X (.Name x pos) (Lf P w K rows):=by
 obtain⟨a,e,g⟩:=hm;exact fun _ _ _ H _ I q=>na I hg e ⟨.ref a,H,I,rfl,q a g⟩ hd
def Ee(P:Program)(w:World)(K:Aa)(neg:Bool)(rows:List (Str×Int)):R2:=fun x y H Q=>∃(a:Str)(C:Addr),x=.str a/\y=.ref C/\GDI P w K C rows/\Q (.bl (if neg then !(dP rows a).isSome else(dP rows a).isSome)) H
def Ef(hK:X.K=K):OpR X (compareOp .In) (Ee X.prog X.w K false rows):=by
 intro pins s σ H x y v u Q I rx ry ⟨a,C,ex,ey,g,q⟩;subst ex;subst ey;cases ry;obtain⟨hd,vs,rel,dd⟩:=g.of I hK;refine wpAny_in_of (G0 (k:=Sum.inr a) rx) hd dd.mapOf ?_;rw[← (rel.val (Sum.inr a)).isSome_eq,qK,Option.isSome_map];exact⟨.bl _,H,I.tok _,rfl,q⟩
def uf(neg:Bool)(rows:List (Str×Int))(fe:FE):FE:=fun st=>(fe st).bind fun x=>(cont x.2 x.1).bind fun d=>match d with
 | .str a=>some (.d (.bl (if neg then !(dP rows a).isSome else(dP rows a).isSome)),x.2)
 | _=>none
theorem vM{te:TE}{fe:FE}{neg:Bool}(h:RdE K te fe):RdE K (tOp (Ee P w K neg rows) te (Lf P w K rows)) (uf neg rows fe):=by
 intro st σ H O Z Q E r' st' h' q;refine bsP h' fun r1 st1 e1 h'=>?_;refine bsO h' fun d1 e3 h'=>?_;refine h st σ H O Z _ E r1 st1 e1 fun v1 H1 O1 x1 k1 E1 rv1 w1=>fun C g=>?_;have b:=rv1.ba E1 e3;cases d1 with
 | str a =>
  cases h';exact⟨a,C,b,rfl,g,q _ H1 O1 x1 k1 E1 (.bl _) True.intro⟩
 | _=>cases h'
def Hv(rows:List (Str×Int))(ti:TE):TE:=fun σ H Q=>ti σ H fun y H1=>∃(a:Str)(b:Int),y=.str a/\dP rows a=some b/\Q (.int b) H1
def B8{x:Str}{i:Expr}{ti:TE}{p pos:Pos}(hK:X.K=K)(hg:Gl X x)(hm:JA X.prog X.w K X.mg x rows)(hi:PE X i ti)(hs:Ku i)(hd:(x == ("__debug__":Str))=false:=by decide):PE X (.Subscript (.Name x p) i pos) (Hv rows ti):=by
 obtain⟨C,e,g⟩:=hm;intro pins s σ H Q I h;refine Fs PySem.F.slot_dict_getitem.lookup hs (na I hg e (thn (hi pins s σ H _ I h) fun iv s2 zz9=>?_) hd);obtain⟨y,H2,I2,ry,a,b,ey,l,q2⟩:=zz9;subst ey;obtain⟨hd,vs,rel,dd⟩:=g.of I2 hK;obtain⟨w',hw,rw'⟩:=RelO.some_of (v:=V.int b) (o:=valueAt vs (Sum.inr a)) (by have:=rel.val (Sum.inr a);rw[qK,l]at this;exact this)
 exact⟨dd.typeIs,wpAny_getItem_of (G0 (k:=Sum.inr a) ry) dd.mapOf hw ⟨.int b,H2,I2.tok _,rw',q2⟩⟩
def yX(rows:List (Str×Int))(fe:FE):FE:=fun st=>(fe st).bind fun x=>(cont x.2 x.1).bind fun d=>match d with
 | .str a=>(dP rows a).bind fun b=>some (.d (.int b),x.2)
 | _=>none
theorem yY{te:TE}{fe:FE}(h:RdE K te fe):RdE K (Hv rows te) (yX rows fe):=by
 intro st σ H O Z Q E r' st' h' q;refine bsP h' fun r1 st1 e1 h'=>?_;refine bsO h' fun d1 e3 h'=>?_;refine h st σ H O Z _ E r1 st1 e1 fun v1 H1 O1 x1 k1 E1 rv1 w1=>?_;have b:=rv1.ba E1 e3;cases d1 with
 | str a =>
  obtain⟨c,hc,h'⟩:=Vl.mp h';cases h';exact⟨a,c,b,hc,q _ H1 O1 x1 k1 E1 (.int _) True.intro⟩
 | _=>cases h'
end
def gdi_mk2{P:Program}{w:World}{K:Aa}{C:Addr}{n:Nat}{a1 a2:Str}{b1 b2:Int}{t1 t2 t3 t4:Tok}
  (h:K.lookup C=some ⟨.type "dict",none,.dict #[⟨PyData.keyHash w.params a1,.str a1 t1,.int b1 t2⟩,⟨PyData.keyHash w.params a2,.str a2 t3,.int b2 t4⟩] n,#[]⟩)(hC:(C == sysModules)=false)(ne:a1≠a2):GDI P w K C [(a1,b1),(a2,b2)]:=by
 refine⟨hC,_,_,n,h,⟨rfl,rfl,rfl⟩,rfl,fun e he=>?_,[(Sum.inr a1,.int b1 t2),(Sum.inr a2,.int b2 t4)],.cons (fV P w a1 t1) rfl (.cons (fV P w a2 t3) rfl .nil),?_,.cons ⟨rfl,t2,rfl⟩ (.cons ⟨rfl,t4,rfl⟩ .nil)⟩
 ·have he:e∈[(⟨PyData.keyHash w.params a1,.str a1 t1,.int b1 t2⟩:DictEntry),⟨PyData.keyHash w.params a2,.str a2 t3,.int b2 t4⟩]:=by simpa using he
  rcases Va.mp he with rfl|he
  ·exact⟨Sum.inr a1,fV P w a1 t1,rfl⟩
  ·rcases Va.mp he with rfl|he
   ·exact⟨Sum.inr a2,fV P w a2 t3,rfl⟩
   ·exact nomatch he
 ·show([Sum.inr a1,Sum.inr a2]:List Key).Nodup;simp[ne]
end VF22
namespace VF22
open PySem L2 VF
def Eg{X:Cx}{ON:List Str}{S:Scope}{env:Env}{N:List Str}{k:Nat}{caps:List Nat}{scope:Scope}(hs:X.env.scope=relabel S env)(hN:X.N=ON)(h:CZ S ON N k caps scope=true):BlkScope X N k caps scope:=by
 have B:=bc (X:={ X with N:=ON,env:={ X.env with scope:=S } }) h rfl rfl;refine⟨B.kind,B.nocell,B.loc,fun y hy hf=>?_,B.len,fun j i hj=>?_⟩
 ·have q:S.names.lookup y.1=some .cell∨S.names.lookup y.1=some .free:=B.free y hy hf;show X.env.scope.names.lookup y.1=some .cell∨X.env.scope.names.lookup y.1=some .free;rw[hs];rcases eG (env:=env) (x:=y.1) S.names with⟨_,z⟩|⟨a,b,e1,e2,e3⟩
  ·rw[z]at q;rcases q with q|q<;>cases q
  ·have e4:(relabel S env).names.lookup y.1=some b:=e2;rw[e4];rw[e1]at q;rcases e3 with e3|e3
   ·rw[e3];exact q
   ·rw[e3.2];exact .inl rfl
 ·obtain⟨x,h1,h2,h3⟩:=B.cap j i hj;exact⟨x,h1,by rw[hN];exact h2,h3⟩
def Eh{X:Cx}{e:Expr}{t:TE}(h:PEi X e t):PE X e t:=by
 unfold PEi at h;exact h
def JC{K:Aa}{X:Cx}{e:Expr}{T:String}{r:V->List V->Hp->VK->Prop}{to:TE}{t:TA}(_:K=K)(h:PE X e (tBM X.K T r to t))(hK:X.K=K:=by rfl):PE X e (tBM K T r to t):=by
 subst hK;exact h
def Ei(K:Aa){X:Cx}(hK:X.K=K:=by rfl):MtR X "str.join" fun x vs H Q =>
  ∃sep p ys,x=V.str sep/\vs=[V.ref p]/\SqL K H p (List.map V.str ys)/\(List.map (fun x=>x.length) ys).sum+ys.length*sep.length<=16777216/\Q (V.str (Txt.join sep ys)) H:=by
 subst hK;exact dj
def Gd{X:Cx}{i0:Int}{j0:_}{p0:Pos}{i1:Int}{j1:_}{p1:Pos}{i2:Int}{j2:_}{p2:Pos}{i3:Int}{j3:_}{p3:Pos}{pos:Pos}:PEi X (.List [.Constant (.int i0) j0 p0,.Constant (.int i1) j1 p1,.Constant (.int i2) j2 p2,.Constant (.int i3) j3 p3] pos) (zw (dL (tC (.int i0)) (dL (tC (.int i1)) (dL (tC (.int i2)) (dL (tC (.int i3)) rL))))):=yS (ir af (ir af (ir af (ir af ue rfl) rfl) rfl) rfl)
def Ej{X:Cx}{i0:Int}{j0:_}{p0:Pos}{i1:Int}{j1:_}{p1:Pos}{i2:Int}{j2:_}{p2:Pos}{i3:Int}{j3:_}{p3:Pos}{i4:Int}{j4:_}{p4:Pos}{pos:Pos}:PEi X (.List [.Constant (.int i0) j0 p0,.Constant (.int i1) j1 p1,.Constant (.int i2) j2 p2,.Constant (.int i3) j3 p3,.Constant (.int i4) j4 p4] pos) (zw (dL (tC (.int i0)) (dL (tC (.int i1)) (dL (tC (.int i2)) (dL (tC (.int i3)) (dL (tC (.int i4)) rL)))))):=yS (ir af (ir af (ir af (ir af (ir af ue rfl) rfl) rfl) rfl) rfl)
end VF22
namespace VL
open PySem L2 VF
def Lw(x:Str):Prop:=∀c∈x.cps.toList,97<=c/\c<=122
abbrev letS:Str:=Str.ofString "abcdefghijklmnopqrstuvwxyz"
def qL:letS.cps.toList=List.range' 97 26:=by decide +kernel
def Nm(x:Str):Prop:=1<=x.length/\x.length<=6/\Lw x
def Ek{ys:List Str}(h:∀y∈ys,∃c,y=⟨#[c]⟩/\97<=c/\c<=122):Lw (Txt.join (Str.ofString "") ys):=by
 intro c hc;have e:Txt.join (Str.ofString "") ys=Str.join (Str.ofString "") ys:=StrLaws.glued_eq_join _ _;rw[e]at hc;rcases(PyProof.Rows.mem_join _ _ _).mp hc with⟨t,ht,hct⟩|⟨_,z⟩
 ·obtain⟨c',rfl,h1⟩:=h t ht;have:c=c':=by simpa using hct
  rw[this];exact h1
 ·have hE:(Str.ofString "").cps.toList=[]:=by decide +kernel
  rw[hE]at z;cases z
theorem join_ones{ys:List Str}(h:∀y∈ys,∃c,y=(⟨#[c]⟩:Str)):(Txt.join (Str.ofString "") ys).length=ys.length :=
 PySem.W.KT.join_ones ys fun a ha=>by obtain⟨c,rfl⟩:=h a ha;rfl
theorem Em{ys:List Str}(h:∀y∈ys,∃c,y=(⟨#[c]⟩:Str)):(ys.map (·.length)).sum=ys.length:=by
 induction ys with
 | nil=>rfl
 | cons y r ih =>
  obtain⟨c,rfl⟩:=h y Zc;rw[Xf,List.sum_cons,ih fun z hz=>h z (Vb _ hz)];show 1+r.length=r.length+1;lia
def Lw.app{x y:Str}(a:Lw x)(b:Lw y):Lw (x++y):=fun c hc=>by
 rw[Str.cps_append,Array.toList_append]at hc;rcases Ze.mp hc with z|z
 ·exact a c z
 ·exact b c z
def Ep:Lw (Str.ofString ""):=fun c hc=>by
 have hE:(Str.ofString "").cps.toList=[]:=by decide +kernel
 rw[hE]at hc;cases hc
def word(s:Nat):Str:=Txt.mul ⟨#[97+s % 26]⟩ (1+((s:Nat):Int) / 26)
def lI(s:Nat):(word s).cps.toList=List.replicate (1+s / 26) (97+s % 26):=by
 unfold word;rw[PyProof.Rows.mul_one_list];have e:(1+((s:Nat):Int) / 26).toNat=1+s / 26:=by lia
 rw[e]
def vN(s:Nat):(word s).length=1+s / 26:=by
 have:=congrArg List.length (lI s);rw[Yf,Zd]at this;exact this
def Er{a b:Nat}(h:word a=word b):a=b:=by
 have h1:(word a).cps.toList=(word b).cps.toList:=by rw[h]
 rw[lI,lI]at h1;have h2:=congrArg List.length h1;rw[Yf,Yf]at h2;have h3:=congrArg (fun l=>l[0]?) h1;simp only[Wg]at h3;rw[Ag (by lia),Ag (by lia)]at h3
 have h4:=Option.some.inj h3;lia
def Ge{s:Nat}(h:s<=120):Nm (word s):=by
 refine⟨by rw[vN];lia,by rw[vN];lia,fun c hc=>?_⟩
 rw[lI]at hc;have:=BN hc;lia
def B9{xs:List Str}{s:Nat}(h:∀j,j<s->word j∈xs):s<=xs.length:=by
 have:=qx ((List.range s).map word) xs (by
  show List.Pairwise _ _;rw[Yi];exact List.nodup_range.imp fun hne e=>hne (Er e)) (fun x hx=>by
  obtain⟨j,hj,rfl⟩:=Yb.mp hx
  exact h j (Xh.mp hj))
 rw[Za,List.length_range]at this;exact this
theorem yZ(x:Str)(xs:List Str):inV (.str x) (xs.map V.str)=decide (x∈xs):=by
 unfold inV;rw[List.any_map];induction xs with
 | nil=>rfl
 | cons y r ih =>
  rw[Bg,ih];show((y == x)||decide (x∈r))=_;by_cases e:y=x
  ·subst e;simp
  ·have e':¬ x=y:=fun z=>e z.symm;simp[e,e']
def JD(s:Nat):atI letS.cps.toList (((s:Nat):Int) % 26)=some (97+s % 26):=by
 have e:((s:Nat):Int) % 26=(((s % 26:Nat)):Int):=by lia
 rw[e];refine cb ?_;rw[qL,List.getElem?_range' (by lia)]
 congr 1;lia
theorem Gf{n:Str}(h:Nm n):∃c r,n.cps.toList=c::r/\c≠45:=by
 cases e:n.cps.toList with
 | nil =>
  have h1:1<=n.length:=h.1;have:=congrArg List.length e;rw[Zd]at this;have h2:n.cps.size=n.length:=rfl;rw[h2]at this;simp at this;lia
 | cons c r =>
  refine⟨c,r,rfl,fun z=>?_⟩;have hc:=h.2.2 c (by rw[e];exact Zc)
  lia
end VL
namespace K65
open PySem L2 VF VF22
noncomputable section
def pj:FE :=
  (fOp bIn (ae 0) (fC (.str "abcdefghijklmnopqrstuvwxyz")))
def oK:FS :=
  (aA (sIf (kz (eI (ax (fCB bF (aa (ae 0) (aa (fC (.ty "str")) ah))))) (eI (ax (mx bLe bLe (fC (.int 1)) (fCB cC (aa (ae 0) ah)) (fC (.int 6)))))) (aM (fC (.bl false))) aV)
  (aM (fCB pO (aa (bt 1 [] (fIA (ae 0)) (gN 0) aN pj) ah))))
def lJ:List D->Option Rz:=aS oK 1 1
def mD:FS :=
  (aM (gn (fCB bF (aa (ae 0) (aa (fC (.ty "int")) ah))) (G9 (fCB bF (aa (ae 0) (aa (fC (.ty "bool")) ah))))))
def qM:List D->Option Rz:=aS mD 1 1
def jw:FE :=
  (fOp qJ (ae 0) (ae 1))
def qN:FS :=
  (aM (fCB pO (aa (bt 2 [] (fIZ (aa (ae 0) (aa (fSl bSl (ae 0) (bM (fC (.int 1))) oNo) ah))) (gT 2 (gsC (gN 0) (gsC (gN 1) gsN))) aN jw) ah)))
def cP:List D->Option Rz:=aS qN 1 1
def qO:FS :=
  (aA (sIf (kz (eI (ax (fCB bF (aa (ae 0) (aa (fC (.ty "tuple")) ah))))) (kz (ax (fOp bNe (fCB cC (aa (ae 0) ah)) (fC (.int 2)))) (eI (ax (aG lJ (aa (fOp bIx (ae 0) (fC (.int 0))) ah)))))) (aM (fC (.bl false))) aV)
  (aM (gn (aG qM (aa (fOp bIx (ae 0) (fC (.int 1))) ah)) (fOp bIn (fOp bIx (ae 0) (fC (.int 1))) (cr (aa (fC (.int 0)) (aa (fC (.int 1)) ah)))))))
def qP:List D->Option Rz:=aS qO 1 1
def gq:FE :=
  (aG qP (aa (ae 0) ah))
def mE:FS :=
  (aA (sIf (kz (eI (ax (fCB bF (aa (ae 0) (aa (fC (.ty "tuple")) ah))))) (ax (fOp kH (fCB cC (aa (ae 0) ah)) (cr (aa (fC (.int 1)) (aa (fC (.int 2)) ah)))))) (aM (fC (.bl false))) aV)
  (aM (gn (fCB pO (aa (bt 1 [] (fIA (ae 0)) (gN 0) aN gq) ah)) (aG cP (aa (ae 0) ah)))))
def fk:List D->Option Rz:=aS mE 1 1
def iw:FE :=
  (aG fk (aa (ae 0) ah))
def oM:FS :=
  (aA (sIf (kz (eI (ax (fCB bF (aa (ae 0) (aa (fC (.ty "tuple")) ah))))) (ax (fOp kH (fCB cC (aa (ae 0) ah)) (cr (aa (fC (.int 1)) (aa (fC (.int 2)) ah)))))) (aM (fC (.bl false))) aV)
  (aM (gn (fCB pO (aa (bt 1 [] (fIA (ae 0)) (gN 0) aN iw) ah)) (aG cP (aa (ae 0) ah)))))
def i6:List D->Option Rz:=aS oM 1 1
def lK:FE :=
  (fCB cC (aa (ae 0) ah))
def uk:FS :=
  (aM (fCB aY (aa (fCB b7 (aa (bt 1 [] (fIA (ae 0)) (gN 0) aN lK) ah)) ah)))
def p8:List D->Option Rz:=aS uk 1 1
def kL:FS :=
  (kE (fM isL t9 1 (aa (ae 2) ah)))
def oN:FS :=
  (aA (be (cY ah) 1)
  (aA (rP (fIA (ae 0)) (gN 2) kL)
  (aM (fCB b7 (aa (ae 1) ah)))))
def i7:List D->Option Rz:=aS oN 3 1
def iy:FE :=
  (aG i6 (aa (ae 0) ah))
def oO:FS :=
  (aA (sIf (kz (eI (ax (fCB bF (aa (ae 0) (aa (fC (.ty "tuple")) ah))))) (kz (ax (fOp oG (fCB cC (aa (ae 0) ah)) (fC (.int 2)))) (eI (ax (fCB pO (aa (bt 1 [] (fIA (ae 0)) (gN 0) aN iy) ah)))))) (aM (fC (.bl false))) aV)
  (aA (be (fOp bIx (ae 0) (fC (.int 0))) 1)
  (aA (be (fOp bIx (ae 0) (fC (.int 1))) 2)
  (aA (be (bL i7 (aa (ae 1) ah)) 3)
  (aA (sIf (kz (eI (ax (aG cP (aa (ae 3) ah)))) (ax (fOp oG (ae 3) (bL i7 (aa (ae 2) ah))))) (aM (fC (.bl false))) aV)
  (aM (gn (Gb [.tup [.tup [.int 2],.tup [.int 1,.int 1]],.tup [.tup [.int 1,.int 1],.tup [.int 2]],.tup [.tup [.int 2,.int 2],.tup [.int 2,.int 2]],.tup [.tup [.int 1,.int 2],.tup [.int 1,.int 2]]] (cr (aa (bL p8 (aa (ae 1) ah)) (aa (bL p8 (aa (ae 2) ah)) ah)))) (fOp oG (ae 1) (ae 2)))))))))
def lL:List D->Option Rz:=aS oO 4 1
def fq:FS :=
  (sIf (ax (jv [.str "one",.str "two",.str "home",.str "turns",.str "changes"] (ae 0))) cT aV)
def ft:List D->Option Rz:=aS fq 1 1
def mF:FS :=
  (aA (be (fOp bIx (ae 0) (fC (.int 0))) 1)
  (aM (fIf (ax (fOp bEq (fOp bIx (ae 0) (fC (.int 1))) (fC (.int 0)))) (fJ (fJc (fC (.str "<")) (fJc (fUn vy (ae 1)) fJn))) (fJ (fJc (fUn vy (ae 1)) (fJc (fC (.str ">")) fJn))))))
def mG:List D->Option Rz:=aS mF 2 1
def kM:FE :=
  (aG mG (aa (ae 0) ah))
def jx:FS :=
  (aM (fBM "str" dF (fC (.str "~")) (aa (bt 1 [] (fIA (ae 0)) (gN 0) aN kM) ah)))
def gr:List D->Option Rz:=aS jx 1 1
def gd:FE :=
  (aG gr (aa (ae 0) ah))
def iP:FS :=
  (aM (fBM "str" dF (fC (.str " ")) (aa (bt 1 [] (fIA (ae 0)) (gN 0) aN gd) ah)))
def fP:List D->Option Rz:=aS iP 1 1
def mf:FE :=
  (fCB eW (aa (ae 0) ah))
def kN:FS :=
  (aA (sIf (ax (fCB bF (aa (fOp bIx (ae 0) (fC (.int 0))) (aa (fC (.ty "str")) ah)))) (aM (fBM "str" dF (fC (.str " ")) (aa (bt 1 [] (fIA (ae 0)) (gN 0) aN mf) ah))) aV)
  (aA (be (aG fP (aa (fOp bIx (ae 0) (fC (.int 0))) ah)) 1)
  (aA (be (aG fP (aa (fOp bIx (ae 0) (fC (.int 1))) ah)) 2)
  (aM (fJ (fJc (fUn vy (ae 1)) (fJc (fC (.str " to ")) (fJc (fUn vy (ae 2)) fJn))))))))
def kO:List D->Option Rz:=aS kN 3 1
def dS:FE :=
  (fOp bIn (ae 0) (fC (.str "0123456789")))
def iQ:FS :=
  (aA (sIf (kz (eI (ax (mx bLe bLe (fC (.int 1)) (fCB cC (aa (ae 0) ah)) (ae 1)))) (eI (ax (fCB pO (aa (bt 1 [] (fIA (ae 0)) (gN 0) aN dS) ah))))) cT aV)
  (aA (sIf (nk (ax (fOp bGt (fCB cC (aa (ae 0) ah)) (fC (.int 1)))) (ax (fOp bEq (fOp bIx (ae 0) (fC (.int 0))) (fC (.str "0"))))) cT aV)
  (aM (fCB (b1 yU) (aa (ae 0) ah)))))
def fQ:List D->Option Rz:=aS iQ 2 2
def mH:FS :=
  (aA (sIf (ax (fBM "str" pY (ae 0) (aa (fC (.str "<")) ah))) (aM (cr (aa (fSl bSl (ae 0) (bM (fC (.int 1))) oNo) (aa (fC (.int 0)) ah)))) aV)
  (aA (sIf (ax (fBM "str" Eb (ae 0) (aa (fC (.str ">")) ah))) (aM (cr (aa (fSl bSl (ae 0) oNo (bM (fUn Dl (fC (.int 1))))) (aa (fC (.int 1)) ah)))) aV)
  cT))
def mI:List D->Option Rz:=aS mH 1 1
def gQ:FE :=
  (bL mI (aa (ae 0) ah))
def jy:FS :=
  (aA (be (fCB aY (aa (bt 1 [] (fIA (fBM "str" dX (ae 0) (aa (fC (.str "~")) ah))) (gN 0) aN gQ) ah)) 1)
  (aA (sIf (eI (ax (aG fk (aa (ae 1) ah)))) cT aV)
  (aM (ae 1))))
def jz:List D->Option Rz:=aS jy 2 1
def dY:FE :=
  (aG fQ (aa (ae 0) (aa (fC (.int 3)) ah)))
def fu:FS :=
  (aA (sIf (ax (fOp bNe (fCB cC (aa (ae 0) ah)) (fOp b9 (fC (.int 1)) (yX [("turn",2),("change",4)] (fOp bIx (ae 0) (fC (.int 0))))))) cT aV)
  (aM (fCB aY (aa (fOp b9 (fSl eu (ae 0) oNo (bM (fC (.int 1)))) (bt 1 [] (fIA (fSl eu (ae 0) (bM (fC (.int 1))) oNo)) (gN 0) aN dY)) ah))))
def fv:List D->Option Rz:=aS fu 1 1
def ge:FE :=
  (bL jz (aa (ae 0) ah))
def iR:FS :=
  (aM (fCB aY (aa (bt 1 [] (fIA (ae 0)) (gN 0) aN ge) ah)))
def dQ:List D->Option Rz:=aS iR 1 1
def jA:FS :=
  (aA (sIf (ax (fOp bNe (fBM "list" w6 (ae 0) (aa (ae 1) ah)) (fC (.int 1)))) cT aV)
  (aA (be (fBM "list" bIndex (ae 0) (aa (ae 1) ah)) 2)
  (aM (cr (aa (bL dQ (aa (fSl bSl (ae 0) oNo (bM (ae 2))) ah)) (aa (bL dQ (aa (fSl bSl (ae 0) (bM (fOp cz (ae 2) (fC (.int 1)))) oNo) ah)) ah))))))
def gt:List D->Option Rz:=aS jA 3 2
def gf:FS :=
  (aA (be (bL gt (aa (ae 0) (aa (fC (.str "to")) ah))) 1)
  (aA (sIf (eI (ax (aG lL (aa (ae 1) ah)))) cT aV)
  (aM (ae 1))))
def gh:List D->Option Rz:=aS gf 2 1
def kP:FS :=
  (aA (be (fBM "str" dX (ae 0) (aa (fC (.str " ")) ah)) 1)
  (aA (sIf (ax (uf false [("turn",2),("change",4)] (fOp bIx (ae 1) (fC (.int 0))))) (aM (bL fv (aa (ae 1) ah))) aV)
  (aM (bL gh (aa (ae 1) ah)))))
def kQ:List D->Option Rz:=aS kP 2 1
def jB:FS :=
  (aM (fBM "str" dF (fC (.str " ")) (aa (fOp cz (cY (aa (ae 0) ah)) (ae 1)) ah)))
def cK:List D->Option Rz:=aS jB 2 2
def gR:FE :=
  (aG gr (aa (ae 0) ah))
def jC:FS :=
  (aM (aG cK (aa (ae 0) (aa (bt 1 [] (fIA (ae 1)) (gN 0) aN gR) ah))))
def dq:List D->Option Rz:=aS jC 2 2
def kR:FS :=
  (aA (be (aG dq (aa (fC (.str "/")) (aa (fOp bIx (ae 0) (fC (.int 2))) ah))) 1)
  (aA (be (aG dq (aa (fOp bIx (ae 0) (fC (.int 0))) (aa (fOp bIx (ae 0) (fC (.int 1))) ah))) 2)
  (aM (fJ (fJc (fUn vy (ae 2)) (fJc (fC (.str " ")) (fJc (fUn vy (ae 1)) fJn)))))))
def kS:List D->Option Rz:=aS kR 3 1
def mi:FE :=
  (fCB eW (aa (ae 0) ah))
def kT:FS :=
  (aM (aG cK (aa (fC (.str "ring")) (aa (bt 1 [] (fIA (ae 0)) (gN 0) aN mi) ah))))
def kU:List D->Option Rz:=aS kT 1 1
def mj:FE :=
  (fCB eW (aa (ae 0) ah))
def kW:FS :=
  (aM (fBM "str" dF (fC (.str "-")) (aa (bt 1 [] (fIA (ae 0)) (gN 0) aN mj) ah)))
def kX:List D->Option Rz:=aS kW 1 1
def gS:FE :=
  (aG kS (aa (ae 0) ah))
def gU:FE :=
  (aG kU (aa (ae 0) ah))
def gW:FE :=
  (aG kX (aa (ae 0) ah))
def jE:FS :=
  (aA (sIf (ax (fOp bEq (ae 0) (fC (.str "one")))) (aM (cY (aa (aG dq (aa (fC (.str "cuts")) (aa (fOp bIx (ae 1) (fC (.int 0))) ah))) (aa (aG dq (aa (fC (.str "joins")) (aa (fOp bIx (ae 1) (fC (.int 1))) ah))) ah)))) aV)
  (aA (sIf (ax (fOp bIn (ae 0) (cr (aa (fC (.str "two")) (aa (fC (.str "home")) ah))))) (aM (bt 1 [] (fIA (ae 1)) (gN 0) aN gS)) aV)
  (aA (be (bt 1 [] (fIA (fOp bIx (ae 1) (fC (.int 0)))) (gN 0) aN gU) 2)
  (aA (sIf (ax (fOp bEq (ae 0) (fC (.str "changes")))) (aM (ae 2)) aV)
  (aA (be (aG cK (aa (fC (.str "knots")) (aa (bt 1 [] (fIA (fOp bIx (ae 1) (fC (.int 1)))) (gN 0) aN gW) ah))) 3)
  (aM (fOp b9 (ae 2) (cY (aa (ae 3) (aa (aG cK (aa (fC (.str "cover")) (aa (cY (aa (fCB eW (aa (fOp bIx (ae 1) (fC (.int 2))) ah)) ah)) ah))) ah))))))))))
def gu:List D->Option Rz:=aS jE 4 2
def gX:FE :=
  (aG kO (aa (ae 0) ah))
def jF:FS :=
  (aA (kE (bL ft (aa (ae 0) ah)))
  (aA (be (aG cK (aa (ae 0) (aa (cY (aa (fCB eW (aa (fOp bIx (ae 1) (fC (.int 1))) ah)) ah)) ah))) 2)
  (aA (be (fOp b9 (fOp b9 (fOp b9 (cY (aa (ae 2) ah)) (bL gu (aa (ae 0) (aa (fOp bIx (ae 1) (fC (.int 0))) ah)))) (cY (aa (fC (.str "row")) ah))) (bt 1 [] (fIA (fOp bIx (ae 1) (fC (.int 2)))) (gN 0) aN gX)) 3)
  (aM (fBM "str" dF (fC (.str "\n")) (aa (ae 3) ah))))))
def jG:List D->Option Rz:=aS jF 4 2
def gY:FS :=
  (aM (aG fQ (aa (ae 0) (aa (fC (.int 4)) ah))))
def cj:List D->Option Rz:=aS gY 1 1
def gZ:FS :=
  (aA (be (fBM "str" dX (ae 1) (aa (fC (.str " ")) ah)) 2)
  (aA (sIf (ax (fOp bNe (fOp bIx (ae 2) (fC (.int 0))) (ae 0))) cT aV)
  (aM (fSl bSl (ae 2) (bM (fC (.int 1))) oNo))))
def cG:List D->Option Rz:=aS gZ 3 2
def jH:FS :=
  (aM (bL dQ (aa (bL cG (aa (ae 0) (aa (ae 1) ah))) ah)))
def gw:List D->Option Rz:=aS jH 2 2
def kY:FS :=
  (aA (be (fBM "str" dX (ae 0) (aa (fC (.str " ")) ah)) 1)
  (aA (be (bL gt (aa (fSl eu (ae 1) (bM (fC (.int 1))) oNo) (aa (fC (.str "/")) ah))) 2)
  (aA (sIf (kz (ax (jv [.str "ring",.str "odd",.str "ours",.str "theirs"] (fOp bIx (ae 1) (fC (.int 0))))) (kz (ax (fOp bEq (fCB cC (aa (fOp bIx (ae 2) (fC (.int 0))) ah)) (fC (.int 0)))) (ax (fOp bEq (fCB cC (aa (fOp bIx (ae 2) (fC (.int 1))) ah)) (fC (.int 0)))))) cT aV)
  (aM (fOp b9 (cr (aa (fOp bIx (ae 1) (fC (.int 0))) ah)) (ae 2))))))
def kZ:List D->Option Rz:=aS kY 3 1
def ml:FE :=
  (aG cj (aa (ae 0) ah))
def la:FS :=
  (aA (be (fCB aY (aa (bt 1 [] (fIA (bL cG (aa (fC (.str "ring")) (aa (ae 0) ah)))) (gN 0) aN ml) ah)) 1)
  (aA (sIf (ax (fOp bEq (fCB cC (aa (ae 1) ah)) (fC (.int 0)))) cT aV)
  (aM (ae 1))))
def lc:List D->Option Rz:=aS la 2 1
def mn:FE :=
  (aG cj (aa (ae 0) ah))
def ld:FS :=
  (aA (be (fCB aY (aa (bt 1 [] (fIA (fBM "str" dX (ae 0) (aa (fC (.str "-")) ah))) (gN 0) aN mn) ah)) 1)
  (aA (sIf (ax (fOp bNe (fCB cC (aa (ae 1) ah)) (fC (.int 2)))) cT aV)
  (aM (ae 1))))
def lf:List D->Option Rz:=aS ld 2 1
def jI:FS :=
  (aA (be (bL cG (aa (fC (.str "cover")) (aa (ae 0) ah))) 1)
  (aA (sIf (ax (fOp bNe (fCB cC (aa (ae 1) ah)) (fC (.int 1)))) cT aV)
  (aM (aG cj (aa (fOp bIx (ae 1) (fC (.int 0))) ah)))))
def jJ:List D->Option Rz:=aS jI 2 1
def fw:FS :=
  (aA (sIf (ax (fOp bNe (fCB cC (aa (ae 0) ah)) (fC (.int 2)))) cT aV)
  (aM (cr (aa (bL gw (aa (fC (.str "cuts")) (aa (fOp bIx (ae 0) (fC (.int 0))) ah))) (aa (bL gw (aa (fC (.str "joins")) (aa (fOp bIx (ae 0) (fC (.int 1))) ah))) ah)))))
def fz:List D->Option Rz:=aS fw 1 1
def g6:FE :=
  (bL lc (aa (ae 0) ah))
def jK:FS :=
  (aM (fCB aY (aa (bt 1 [] (fIA (ae 0)) (gN 0) aN g6) ah)))
def gx:List D->Option Rz:=aS jK 1 1
def de:FE :=
  (bL lf (aa (ae 0) ah))
def dZ:FS :=
  (aA (sIf (ax (fOp bLt (fCB cC (aa (ae 0) ah)) (fC (.int 2)))) cT aV)
  (aA (be (fCB aY (aa (bt 1 [] (fIA (bL cG (aa (fC (.str "knots")) (aa (fOp bIx (ae 0) (fUn Dl (fC (.int 2)))) ah)))) (gN 0) aN de) ah)) 1)
  (aM (cr (aa (bL gx (aa (fSl bSl (ae 0) oNo (bM (fUn Dl (fC (.int 2))))) ah)) (aa (ae 1) (aa (aG jJ (aa (fOp bIx (ae 0) (fUn Dl (fC (.int 1)))) ah)) ah)))))))
def d6:List D->Option Rz:=aS dZ 2 1
def g9:FE :=
  (bL kZ (aa (ae 0) ah))
def jL:FS :=
  (aA (sIf (ax (fOp bEq (ae 0) (fC (.str "one")))) (aM (bL fz (aa (ae 1) ah))) aV)
  (aA (sIf (ax (fOp bEq (ae 0) (fC (.str "turns")))) (aM (bL d6 (aa (ae 1) ah))) aV)
  (aA (sIf (ax (fOp bEq (ae 0) (fC (.str "changes")))) (aM (cr (aa (bL gx (aa (ae 1) ah)) ah))) aV)
  (aM (fCB aY (aa (bt 1 [] (fIA (ae 1)) (gN 0) aN g9) ah))))))
def jM:List D->Option Rz:=aS jL 2 2
def hJ:FE :=
  (bL kQ (aa (ae 0) ah))
def jN:FS :=
  (aA (sIf (eI (ax (fCB bF (aa (ae 0) (aa (fC (.ty "str")) ah))))) cT aV)
  (aA (be (fBM "str" dX (ae 0) (aa (fC (.str "\n")) ah)) 1)
  (aA (be (fBM "str" dX (fOp bIx (ae 1) (fC (.int 0))) (aa (fC (.str " ")) ah)) 2)
  (aA (sIf (kz (ax (fOp bNe (fCB cC (aa (ae 2) ah)) (fC (.int 2)))) (kz (ax (jv [.str "one",.str "two",.str "home",.str "turns",.str "changes"] (fOp bIx (ae 2) (fC (.int 0))))) (ax (fOp kH (fC (.str "row")) (ae 1))))) cT aV)
  (aA (be (fBM "list" bIndex (ae 1) (aa (fC (.str "row")) ah)) 3)
  (aA (be (bL jM (aa (fOp bIx (ae 2) (fC (.int 0))) (aa (fSl bSl (ae 1) (bM (fC (.int 1))) (bM (ae 3))) ah))) 4)
  (aA (be (fCB aY (aa (bt 1 [] (fIA (fSl bSl (ae 1) (bM (fOp cz (ae 3) (fC (.int 1)))) oNo)) (gN 0) aN hJ) ah)) 5)
  (aM (cr (aa (fOp bIx (ae 2) (fC (.int 0))) (aa (cr (aa (ae 4) (aa (aG cj (aa (fOp bIx (ae 2) (fC (.int 1))) ah)) (aa (ae 5) ah)))) ah)))))))))))
def jO:List D->Option Rz:=aS jN 6 1
def mJ:FS :=
  (aM (cY (aa (fCB DC (aa (ae 0) ah)) (aa (fC (.int 0)) (aa (fC (.int 0)) (aa (fC (.int 1)) (aa (fC (.int 0)) ah)))))))
def mK:List D->Option Rz:=aS mJ 1 1
def jP:FS :=
  (aA (sIf (nk (ax (fOp bEq (fOp bIx (ae 0) (fC (.int 2))) (fC (.int 0)))) (ax (fOp bLt (fOp bIx (ae 0) (fC (.int 1))) (fCB cC (aa (fOp bIx (ae 0) (fC (.int 0))) ah))))) (aA (be (fOp bIx (fOp bIx (ae 0) (fC (.int 0))) (fOp bIx (ae 0) (fC (.int 1)))) 2)
  (aA (tZ qA (fOp cz (fOp bIx (ae 0) (fC (.int 1))) (fC (.int 1))) 0 (fC (.int 1)))
  (sIf (ax (fOp bGe (ae 2) (fOp KF (fC (.int 10)) (fC (.int 18))))) (tZ qA (ae 2) 0 (fC (.int 2))) (tZ qA (fOp jj (fOp cz (fOp cz (fOp nA (fOp bIx (ae 0) (fC (.int 3))) (fC (.int 40013))) (fOp jj (ae 2) (fC (.int 1000003)))) (fC (.int 1))) (fC (.int 2147483647))) 0 (fC (.int 3)))))) aV)
  (aA (sIf (ax (fOp bGt (fOp bIx (ae 0) (fC (.int 2))) (fC (.int 0)))) (aA (be (fOp jj (fOp bIx (ae 0) (fC (.int 2))) (ae 1)) 3)
  (aA (tZ qA (fOp oA (fOp bIx (ae 0) (fC (.int 2))) (ae 1)) 0 (fC (.int 2)))
  (aM (ae 3)))) aV)
  (aA (tZ qA (fOp cz (fOp bIx (ae 0) (fC (.int 4))) (fC (.int 1))) 0 (fC (.int 4)))
  (aA (tZ qA (fOp jj (fOp cz (fOp cz (fOp nA (fOp bIx (ae 0) (fC (.int 3))) (fC (.int 48271))) (fC (.int 12820163))) (fOp bIx (ae 0) (fC (.int 4)))) (fC (.int 2147483647))) 0 (fC (.int 3)))
  (aM (fOp jj (fOp oA (fOp jj (fOp nA (fOp cz (fOp jj (fOp bIx (ae 0) (fC (.int 3))) (fC (.int 65521))) (fC (.int 1))) (fOp cz (fOp oA (fOp bIx (ae 0) (fC (.int 3))) (fC (.int 65521))) (fC (.int 7919)))) (fC (.int 1000003))) (fC (.int 7))) (ae 1)))))))
def aP:D->List D->Option (Rz×D):=cB jP 4 2
def iS:FS :=
  (aM (fBM "str" dF (fC (.str "")) (aa (bt 1 [0] (nq (aa (ae 1) ah)) (gN 0) aN (fOp bIx (fC (.str "abcdefghijklmnopqrstuvwxyz")) (fIO aP 1 (aa (fC (.int 26)) ah)))) ah)))
def dR:D->List D->Option (Rz×D):=cB iS 2 2
def mL:FS :=
  (aA (sIf (ax (fOp bNe (ae 1) (fC (.str "")))) (aM (fOp cz (ae 1) (fIO dR 0 (aa (fOp cz (fC (.int 1)) (fIO aP 0 (aa (fC (.int 2)) ah))) ah)))) aV)
  (aA (sIf (ax (fOp bEq (fIO aP 0 (aa (fC (.int 7)) ah)) (fC (.int 0)))) (aA (be (cY (vv ["to","turn","turns","ring","rings","odd","ours","row","rows","cuts","knots","cover"])) 2)
  (aA (be (fOp cz (ae 2) (cY (vv ["change","joins","theirs","one","two","home","none","open","keep","tox","onex"]))) 2)
  (aM (fOp bIx (ae 2) (fIO aP 0 (aa (fC (.int 23)) ah)))))) aV)
  (aM (fIO dR 0 (aa (fOp cz (fC (.int 1)) (fIO aP 0 (aa (fC (.int 6)) ah))) ah)))))
def mM:D->List D->Option (Rz×D):=cB mL 3 2
def iz:FS :=
  (aA (be (fC (.str "")) 2)
  (aA (sIf (ax (fOp bEq (fIO aP 0 (aa (fC (.int 3)) ah)) (fC (.int 0)))) (be (fIO dR 0 (aa (fOp cz (fC (.int 1)) (fIO aP 0 (aa (fC (.int 4)) ah))) ah)) 2) aV)
  (aA (be (cY ah) 3)
  (aA (rP (nq (aa (ae 1) ah)) (gN 4) (aA (be (fIO mM 0 (aa (ae 2) ah)) 5)
  (aA (be (fC (.int 0)) 6)
  (aA (sWh (ax (fOp bIn (ae 5) (ae 3))) (aA (be (fOp nA (fOp bIx (fC (.str "abcdefghijklmnopqrstuvwxyz")) (fOp jj (ae 6) (fC (.int 26)))) (fOp cz (fC (.int 1)) (fOp oA (ae 6) (fC (.int 26))))) 5)
  (be (fOp cz (ae 6) (fC (.int 1))) 6)) 200)
  (kE (fM isL ip 3 (aa (ae 5) ah)))))))
  (aM (ae 3))))))
def lh:D->List D->Option (Rz×D):=cB iz 7 2
def li(gs:List D->Option Rz):FS :=
  (aA (sIf (ax (fOp (IJ false) (ae 1) (fC .non))) (aM (fOp (IJ false) (ae 0) (fC .non))) aV)
  (aA (sIf (kz (ax (fCB bF (aa (ae 1) (aa (fC (.ty "bool")) ah)))) (ax (fCB bF (aa (ae 0) (aa (fC (.ty "bool")) ah))))) (aM (gn (fCB bF (aa (ae 1) (aa (fC (.ty "bool")) ah))) (gn (fCB bF (aa (ae 0) (aa (fC (.ty "bool")) ah))) (fOp bEq (ae 0) (ae 1))))) aV)
  (aA (sIf (ax (fCB bF (aa (ae 1) (aa (fC (.ty "int")) ah)))) (aM (gn (fCB bF (aa (ae 0) (aa (fC (.ty "int")) ah))) (fOp bEq (ae 0) (ae 1)))) aV)
  (aA (sIf (ax (fCB bF (aa (ae 1) (aa (fC (.ty "str")) ah)))) (aM (gn (fCB bF (aa (ae 0) (aa (fC (.ty "str")) ah))) (fOp bEq (ae 0) (ae 1)))) aV)
  (aA (sIf (kz (ax (fOp bNe (fCB bF (aa (ae 1) (aa (fC (.ty "tuple")) ah))) (fCB bF (aa (ae 0) (aa (fC (.ty "tuple")) ah))))) (ax (fOp bNe (fCB bF (aa (ae 1) (aa (fC (.ty "list")) ah))) (fCB bF (aa (ae 0) (aa (fC (.ty "list")) ah)))))) (aM (fC (.bl false))) aV)
  (aM (gn (fOp bEq (fCB cC (aa (ae 0) ah)) (fCB cC (aa (ae 1) ah))) (fCB pO (aa (bt 1 [0,1] (nq (aa (fCB cC (aa (ae 1) ah)) ah)) (gN 0) aN (aG gs (aa (fOp bIx (ae 1) (ae 0)) (aa (fOp bIx (ae 2) (ae 0)) ah)))) ah)))))))))
def hU:FS :=
  (aA (sIf (ax (fOp bEq (fOp bIx (ae 0) (fC (.int 1))) (fC (.int 0)))) (aM (fOp cz (fC (.str "<")) (fOp bIx (ae 0) (fC (.int 0))))) aV)
  (aM (fOp cz (fOp bIx (ae 0) (fC (.int 0))) (fC (.str ">")))))
def hV:List D->Option Rz:=aS hU 1 1
def dH:FE :=
  (aG hV (aa (ae 0) ah))
def dI:FS :=
  (kE (fM isL ip 1 (aa (fBM "str" dF (fC (.str "~")) (aa (bt 1 [] (fIA (ae 2)) (gN 0) aN dH) ah)) ah)))
def eN:FS :=
  (aA (be (cY ah) 1)
  (aA (rP (fIA (ae 0)) (gN 2) dI)
  (aM (fBM "str" dF (fC (.str " ")) (aa (ae 1) ah)))))
def bz:List D->Option Rz:=aS eN 3 1
def iA:FE :=
  (fCB eW (aa (ae 0) ah))
def gi:FS :=
  (aA (sIf (ax (fCB bF (aa (fOp bIx (ae 0) (fC (.int 0))) (aa (fC (.ty "str")) ah)))) (aM (fBM "str" dF (fC (.str " ")) (aa (bt 1 [] (fIA (ae 0)) (gN 0) aN iA) ah))) aV)
  (aM (fOp cz (fOp cz (aG bz (aa (fOp bIx (ae 0) (fC (.int 0))) ah)) (fC (.str " to "))) (aG bz (aa (fOp bIx (ae 0) (fC (.int 1))) ah)))))
def gj:List D->Option Rz:=aS gi 1 1
def mN:FS :=
  (aA (sIf (ax (fOp bEq (ae 1) (fC (.str "")))) (aM (ae 0)) aV)
  (aM (fOp cz (fOp cz (ae 0) (fC (.str " "))) (ae 1))))
def hW:List D->Option Rz:=aS mN 2 2
def hX:FE :=
  (fCB eW (aa (ae 0) ah))
def d7:FE :=
  (fOp cz (fC (.str "ring ")) (fBM "str" dF (fC (.str " ")) (aa (bt 1 [] (fIA (ae 0)) (gN 0) aN hX) ah)))
def fA:FS :=
  (aM (bt 1 [] (fIA (ae 0)) (gN 0) aN d7))
def dr:List D->Option Rz:=aS fA 1 1
def d8:FE :=
  (fOp b9 (fOp b9 (fCB eW (aa (ae 0) ah)) (fC (.str "-"))) (fCB eW (aa (ae 1) ah)))
def d9:FE :=
  (fOp b9 (fOp b9 (fOp b9 (fOp b9 (ae 0) (fC (.str " "))) (aG bz (aa (ae 1) ah))) (fC (.str " / "))) (aG bz (aa (ae 2) ah)))
def fB:FS :=
  (aA (sIf (ax (fOp bEq (ae 0) (fC (.str "one")))) (aM (cY (aa (aG hW (aa (fC (.str "cuts")) (aa (aG bz (aa (fOp bIx (ae 1) (fC (.int 0))) ah)) ah))) (aa (aG hW (aa (fC (.str "joins")) (aa (aG bz (aa (fOp bIx (ae 1) (fC (.int 1))) ah)) ah))) ah)))) aV)
  (aA (sIf (ax (fOp bEq (ae 0) (fC (.str "changes")))) (aM (bL dr (aa (fOp bIx (ae 1) (fC (.int 0))) ah))) aV)
  (aA (sIf (ax (fOp bEq (ae 0) (fC (.str "turns")))) (aA (be (aG hW (aa (fC (.str "knots")) (aa (fBM "str" dF (fC (.str " ")) (aa (bt 2 [] (fIA (fOp bIx (ae 1) (fC (.int 1)))) (gT 2 (gsC (gN 0) (gsC (gN 1) gsN))) aN d8) ah)) ah))) 2)
  (aM (fOp b9 (bL dr (aa (fOp bIx (ae 1) (fC (.int 0))) ah)) (cY (aa (ae 2) (aa (fOp b9 (fC (.str "cover ")) (fCB eW (aa (fOp bIx (ae 1) (fC (.int 2))) ah))) ah)))))) aV)
  (aM (bt 3 [] (fIA (ae 1)) (gT 3 (gsC (gN 0) (gsC (gN 1) (gsC (gN 2) gsN)))) aN d9)))))
def dw:List D->Option Rz:=aS fB 3 2
def jQ:FE :=
  (aG gj (aa (ae 0) ah))
def mO:FS :=
  (aA (be (fOp b9 (fOp b9 (cY (aa (fOp b9 (fOp b9 (ae 0) (fC (.str " "))) (fCB eW (aa (fOp bIx (ae 1) (fC (.int 1))) ah))) ah)) (bL dw (aa (ae 0) (aa (fOp bIx (ae 1) (fC (.int 0))) ah)))) (cY (aa (fC (.str "row")) ah))) 2)
  (aM (fBM "str" dF (fC (.str "\n")) (aa (fOp b9 (ae 2) (bt 1 [] (fIA (fOp bIx (ae 1) (fC (.int 2)))) (gN 0) aN jQ)) ah))))
def mP:List D->Option Rz:=aS mO 3 2
def jR:FS :=
  (aM (fIO aP 0 (aa (fOp bIx (cY (aa (fC (.int 2)) (aa (fC (.int 10)) (aa (fC (.int 100)) (aa (fC (.int 1000)) (aa (fC (.int 10000)) ah)))))) (fIO aP 0 (aa (fOp cz (ae 1) (fC (.int 1))) ah))) ah)))
def bC:D->List D->Option (Rz×D):=cB jR 2 2
def cW:FS :=
  (be (fOp jj (fOp cz (ae 4) (fC (.int 1))) (fOp nA (fC (.int 2)) (fCB cC (aa (ae 1) ah)))) 4)
def eO:FS :=
  (aA (be (fIO aP 0 (aa (fOp nA (fC (.int 2)) (fCB cC (aa (ae 1) ah))) ah)) 4)
  (aA (sWh (ax (fOp wZ (cr (aa (fOp bIx (ae 1) (fOp oA (ae 4) (fC (.int 2)))) (aa (fOp jj (ae 4) (fC (.int 2))) ah))) (ae 3))) cW 300)
  (kE (fM isL ip 3 (aa (cr (aa (fOp bIx (ae 1) (fOp oA (ae 4) (fC (.int 2)))) (aa (fOp jj (ae 4) (fC (.int 2))) ah))) ah)))))
def gk:FS :=
  (aA (be (cY ah) 3)
  (aA (sWh (ax (fOp bLt (fCB cC (aa (ae 3) ah)) (ae 2))) eO 300)
  (aM (ae 3))))
def cQ:D->List D->Option (Rz×D):=cB gk 5 3
def dJ:FS :=
  (kE (fM isL ip 3 (aa (fCB aY (aa (fCB b7 (aa (fIO cQ 0 (aa (ae 1) (aa (fOp cz (fC (.int 1)) (fIO aP 0 (aa (fC (.int 2)) ah))) ah))) ah)) ah)) ah)))
def eP:FS :=
  (aA (be (cY ah) 3)
  (aA (rP (nq (aa (fOp cz (ae 2) (fIO aP 0 (aa (fC (.int 6)) ah))) ah)) (gN 4) dJ)
  (aM (fCB aY (aa (ae 3) ah)))))
def bZ:D->List D->Option (Rz×D):=cB eP 5 3
def iB:FE :=
  (fIO bC 1 (aa (fC (.int 3)) ah))
def gl:FS :=
  (aA (be (fIO aP 0 (aa (fC (.int 6)) ah)) 2)
  (aA (sIf (ax (fOp bEq (ae 2) (fC (.int 4)))) (aM (cr (aa (fC (.str "turn")) (aa (fIO bC 0 (aa (fC (.int 3)) ah)) (aa (fIO bC 0 (aa (fC (.int 3)) ah)) ah))))) aV)
  (aA (sIf (ax (fOp bEq (ae 2) (fC (.int 5)))) (aM (fOp b9 (cr (aa (fC (.str "change")) ah)) (fCB aY (aa (bt 1 [0] (nq (aa (fC (.int 4)) ah)) (gN 0) aN iB) ah)))) aV)
  (aA (be (fIO cQ 0 (aa (ae 1) (aa (fOp bIx (cY (aa (fC (.int 2)) (aa (fC (.int 2)) (aa (fC (.int 3)) (aa (fC (.int 4)) ah))))) (ae 2)) ah))) 3)
  (aA (be (fCB aY (aa (fCB b7 (aa (fSl eu (ae 3) oNo (bM (fC (.int 2)))) ah)) ah)) 4)
  (aA (sIf (ax (fOp bEq (ae 2) (fC (.int 0)))) (aM (cr (aa (cr (aa (ae 4) ah)) (aa (cr (aa (fSl eu (ae 4) oNo (bM (fC (.int 1)))) (aa (fSl eu (ae 4) (bM (fC (.int 1))) oNo) ah))) ah)))) aV)
  (aA (sIf (ax (fOp bEq (ae 2) (fC (.int 1)))) (aM (cr (aa (cr (aa (fSl eu (ae 4) oNo (bM (fC (.int 1)))) (aa (fSl eu (ae 4) (bM (fC (.int 1))) oNo) ah))) (aa (cr (aa (ae 4) ah)) ah)))) aV)
  (aA (be (fCB aY (aa (fCB b7 (aa (cY (aa (ae 4) (aa (fCB aY (aa (fCB b7 (aa (fSl eu (ae 3) (bM (fC (.int 2))) oNo) ah)) ah)) ah))) ah)) ah)) 5)
  (aA (be (cY (aa (fCB aY (aa (fCB b7 (aa (cY (aa (fOp bIx (ae 3) (fC (.int 0))) (aa (fOp bIx (ae 3) (fC (.int 2))) ah))) ah)) ah)) (aa (fCB aY (aa (fCB b7 (aa (fOp b9 (fSl eu (ae 3) (bM (fC (.int 1))) (bM (fC (.int 2)))) (fSl eu (ae 3) (bM (fC (.int 3))) oNo)) ah)) ah)) ah))) 6)
  (aM (cr (aa (ae 5) (aa (fCB aY (aa (fCB b7 (aa (ae 6) ah)) ah)) ah)))))))))))))
def dU:D->List D->Option (Rz×D):=cB gl 7 2
def mQ:FS :=
  (aA (be (fIO aP 0 (aa (fC (.int 6)) ah)) 1)
  (aA (sIf (ax (fOp bEq (fIO aP 0 (aa (fC (.int 8)) ah)) (fC (.int 7)))) (be (fOp cz (fC (.int 6)) (fIO aP 0 (aa (fC (.int 7)) ah))) 1) aV)
  (aM (ae 1))))
def fD:D->List D->Option (Rz×D):=cB mQ 2 1
def hZ:FE :=
  (fIO bC 1 (aa (fC (.int 4)) ah))
def ee:FS :=
  (kE (fM isL ip 1 (aa (fCB aY (aa (bt 1 [0] (nq (aa (fOp cz (fC (.int 1)) (fIO aP 0 (aa (fC (.int 6)) ah))) ah)) (gN 0) aN hZ) ah)) ah)))
def fE:FS :=
  (aA (be (cY ah) 1)
  (aA (rP (nq (aa (fIO fD 0 ah) ah)) (gN 2) ee)
  (aM (fCB aY (aa (ae 1) ah)))))
def dA:D->List D->Option (Rz×D):=cB fE 3 1
def cL:FE :=
  (cr (aa (fIO bC 1 (aa (fC (.int 4)) ah)) (aa (fIO bC 1 (aa (fC (.int 4)) ah)) ah)))
def ef:FS :=
  (aA (be (fOp bIx (cY (vv ["ring","odd","ours","theirs"])) (fIO aP 0 (aa (fC (.int 4)) ah))) 6)
  (kE (fM isL ip 4 (aa (cr (aa (ae 6) (aa (fIO bZ 0 (aa (ae 2) (aa (fC (.int 1)) ah))) (aa (fIO bZ 0 (aa (ae 2) (aa (fC (.int 1)) ah))) ah)))) ah))))
def fF:FS :=
  (aA (sIf (ax (fOp bEq (ae 1) (fC (.str "one")))) (aM (cr (aa (fIO bZ 0 (aa (ae 2) (aa (fC (.int 0)) ah))) (aa (fIO bZ 0 (aa (ae 2) (aa (fC (.int 0)) ah))) ah)))) aV)
  (aA (sIf (ax (fOp bEq (ae 1) (fC (.str "changes")))) (aM (cr (aa (fIO dA 0 ah) ah))) aV)
  (aA (sIf (ax (fOp bEq (ae 1) (fC (.str "turns")))) (aA (be (bt 1 [0] (nq (aa (fIO fD 0 ah) ah)) (gN 0) aN cL) 3)
  (aM (cr (aa (fIO dA 0 ah) (aa (fCB aY (aa (ae 3) ah)) (aa (fIO bC 0 (aa (fC (.int 4)) ah)) ah)))))) aV)
  (aA (be (cY ah) 4)
  (aA (rP (nq (aa (fIO fD 0 ah) ah)) (gN 5) ef)
  (aM (fCB aY (aa (ae 4) ah))))))))
def dB:D->List D->Option (Rz×D):=cB fF 7 3
def et:FE :=
  (fIO dU 1 (aa (ae 2) ah))
def fG:FS :=
  (aA (be (fIO lh 0 (aa (fOp cz (fC (.int 2)) (fIO aP 0 (aa (fC (.int 5)) ah))) ah)) 2)
  (aA (be (fIO dB 0 (aa (ae 1) (aa (ae 2) ah))) 3)
  (aA (be (fIO bC 0 (aa (fC (.int 4)) ah)) 4)
  (aM (cr (aa (ae 3) (aa (ae 4) (aa (fCB aY (aa (bt 1 [0,2] (nq (aa (fIO fD 0 ah) ah)) (gN 0) aN et) ah)) ah))))))))
def dC:D->List D->Option (Rz×D):=cB fG 5 2
def lj:FS :=
  (aA (be (aG mP (aa (ae 0) (aa (ae 1) ah))) 2)
  (aA (be (bL jO (aa (ae 2) ah)) 3)
  (aA (sIf (eI (ax (aG (eJ 9) (aa (ae 3) (aa (cr (aa (ae 0) (aa (ae 1) ah))) ah))))) (aM (fC (.bl false))) aV)
  (aA (be (aG jG (aa (fOp bIx (ae 3) (fC (.int 0))) (aa (fOp bIx (ae 3) (fC (.int 1))) ah))) 4)
  (aM (gn (fCB bF (aa (ae 4) (aa (fC (.ty "str")) ah))) (gn (fOp bEq (ae 4) (ae 2)) (aG (eJ 9) (aa (ae 3) (aa (cr (aa (ae 0) (aa (ae 1) ah))) ah))))))))))
def fX:List D->Option Rz:=aS lj 5 2
def Es:FS :=
  (aA (be (bL mK (aa (ae 0) ah)) 1)
  (aA (be (cY (vv ["one","two","home","turns","changes"])) 2)
  (aA (be (fOp bIx (ae 2) (fIO aP 1 (aa (fC (.int 5)) ah))) 3)
  (aA (be (fIO dC 1 (aa (ae 3) ah)) 4)
  (aA (sIf (eI (ax (aG fX (aa (ae 3) (aa (ae 4) ah))))) (aM (fC (.bl false))) aV)
  (aA (be (fOp bIx (ae 2) (fIO aP 1 (aa (fC (.int 5)) ah))) 5)
  (aM (gn (aG fX (aa (ae 5) (aa (fIO dC 1 (aa (ae 5) ah)) ah))) (aG fX (aa (ae 3) (aa (ae 4) ah)))))))))))
end
end K65
namespace K65
open PySem L2 VF VF22
abbrev nl0:List Str:=["thing"]
abbrev nl1:List Str:=["word"]
abbrev nl2:List Str:=["joint"]
abbrev nl3:List Str:=["joints"]
abbrev nl4:List Str:=["words"]
abbrev nl5:List Str:=["row"]
abbrev nl6:List Str:=["rows"]
abbrev nl7:List Str:=["_law_flow_here","_law_many_here"]
abbrev nl8:List Str:=["part"]
abbrev nl9:List Str:=["_law_deed"]
abbrev Ca:List Str:=["word","row"]
abbrev Cb:List Str:=["_law_script"]
abbrev Cc:List Str:=["_law_found","_law_due"]
abbrev Cd:List Str:=["_law_end"]
abbrev Ce:List Str:=["_law_k","_law_flow_here"]
abbrev Et:List Str:=["word","most"]
abbrev Eu:List Str:=["word","joints"]
abbrev Ev:List Str:=["book","parts","rings","knots"]
abbrev Ew:List Str:=["book","rows"]
abbrev Ex:List Str:=["_law_rings"]
abbrev Gg:List Str:=["word","words"]
abbrev Gh:List Str:=["_law_word","_law_text_here"]
abbrev Gi:List Str:=["_law_book","_law_parts","_law_knots"]
abbrev Gj:List Str:=["_law_book","_law_told"]
abbrev Gk:List Str:=["_law_flow_here","_law_figures"]
abbrev Gm:List Str:=["_law_flow_here"]
abbrev Gn:List Str:=["_law_kind","_law_mine","_law_others"]
abbrev JE:List Str:=["thing","gone","come","ends"]
abbrev JF:List Str:=["deed","gone","come"]
abbrev JG:List Str:=["book","paper","head","rows"]
abbrev JH:List Str:=["text","rows","head","middle","parts","deeds"]
abbrev JI:List Str:=["_law_joints","_law_texts","_law_joint"]
abbrev JJ:List Str:=["_law_book","_law_told","_law_lines"]
abbrev JK:List Str:=["_law_flow_here","_law_names_here","_law_way","_law_ends","_law_pair","_law_gone","_law_come"]
abbrev JL:List Str:=["_law_flow_here","_law_found","_law_k"]
abbrev JM:List Str:=["_law_flow_here","_law_book","_law_names_here","_law_knots","_law_parts","_law_k","_law_kind"]
abbrev JN:List Str:=["_law_flow_here","_law_book","_law_names_here","_law_parts","_law_total"]
abbrev JO:List Str:=["_law_s","_law_e"]
abbrev Lg:List Str:=["_law_flow_here","_law_many_here","_law_cell","_law_digit"]
abbrev Lh:List Str:=["_law_flow_here","_law_stem","_law_words"]
abbrev Li:List Str:=["_law_flow_here","_law_many_here","_law_stem","_law_names_here","_law_k","_law_name_here","_law_spare"]
abbrev Lj:List Str:=["_law_flow_here","_law_names_here","_law_many_here","_law_ends","_law_at"]
abbrev Lk:List Str:=["_law_flow_here","_law_names_here","_law_many_here"]
abbrev Ll:List Str:=["_law_flow_here","_law_names_here","_law_least","_law_found","_law_k"]
abbrev Lm:List Str:=["_law_flow_here","_law_names_here","_law_least"]
abbrev Ln:List Str:=["_law_flow_here","_law_names_here"]
abbrev Lo:List Str:=["_law_flow_here","_law_book","_law_names_here"]
abbrev Lp:List Str:=["_law_book","_law_told","_law_text_here","_law_found","_law_again"]
abbrev Lq:List Str:=["_law_script","_law_flow_here","_law_books","_law_book","_law_told","_law_other"]
abbrev Lr:List Str:=["_law_k","_law_flow_here","_law_names_here"]
def top(i:Nat):Stmt:=PySem.Challenge.pw_strandwright_k65_papers_written_and_read.main.body.getD i (.Pass ⟨0,0,0,0⟩)
abbrev p9:Stmt:=top 3
abbrev qQ:Stmt:=top 9
abbrev qa:Stmt:=top 11
abbrev w9:Stmt:=top 12
abbrev nE:Stmt:=top 13
abbrev qb:Stmt:=top 16
abbrev ul:Stmt:=top 17
abbrev um:Stmt:=top 18
abbrev qc:Stmt:=top 19
abbrev iT:Stmt:=top 22
abbrev qR:Stmt:=top 27
abbrev jS:Stmt:=top 28
abbrev iC:Stmt:=top 29
abbrev lM:Stmt:=top 30
abbrev iD:Stmt:=top 31
abbrev qS:Stmt:=top 32
abbrev jT:Stmt:=top 33
abbrev fR:Stmt:=top 34
abbrev iE:Stmt:=top 35
abbrev mR:Stmt:=top 36
abbrev jU:Stmt:=top 37
abbrev oP:Stmt:=top 38
abbrev mS:Stmt:=top 42
abbrev jV:Stmt:=top 43
abbrev oQ:Stmt:=top 44
abbrev lN:Stmt:=top 45
abbrev lO:Stmt:=top 46
abbrev fH:Stmt:=top 47
abbrev jW:Stmt:=top 48
abbrev jX:Stmt:=top 49
abbrev jY:Stmt:=top 50
abbrev mT:Stmt:=top 51
abbrev oR:Stmt:=top 52
abbrev lP:Stmt:=top 53
abbrev lQ:Stmt:=top 54
abbrev mU:Stmt:=top 55
abbrev iU:Stmt:=top 56
abbrev jZ:Stmt:=top 58
abbrev dW:Stmt:=top 57
abbrev j5:Stmt:=top 59
abbrev j6:Stmt:=top 60
abbrev xc:Stmt:=top 62
abbrev xf:Stmt:=top 63
abbrev lR:Stmt:=top 64
abbrev xg:Stmt:=top 65
abbrev uo:Stmt:=top 66
abbrev qd:Stmt:=top 67
abbrev oS:Stmt:=top 68
abbrev gy:Stmt:=top 69
abbrev j7:Stmt:=top 70
abbrev xh:Stmt:=top 71
abbrev iF:Stmt:=top 72
abbrev fY:Stmt:=top 73
abbrev uq:Stmt:=top 74
abbrev qT:Stmt:=top 75
abbrev mV:Stmt:=top 76
abbrev j8:Stmt:=top 77
abbrev j9:Stmt:=top 78
abbrev xi:Stmt:=top 79
abbrev iG:Stmt:=top 80
abbrev iH:Stmt:=top 81
abbrev iI:Stmt:=top 82
abbrev ut:Stmt:=top 83
abbrev JP:Stmt:=top 84
def xj:FnScope nl0 nl0 (ak p9):=fsc (by decide +kernel)
def vO:FnScope nl0 nl0 (ak qQ):=fsc (by decide +kernel)
def xk:FnScope ["things"] ["things"] (ak qa):=fsc (by decide +kernel)
def Cf:FnScope nl0 nl0 (ak w9):=fsc (by decide +kernel)
def vP:FnScope nl0 nl0 (ak nE):=fsc (by decide +kernel)
def xp:FnScope nl0 nl0 (ak qb):=fsc (by decide +kernel)
def Cg:FnScope nl3 nl3 (ak ul):=fsc (by decide +kernel)
def sc_sendsof:FnScope ["joints","ends","joint"] nl3 (ak um):=fsc (by decide +kernel)
def sc_sisdeed:FnScope JE nl0 (ak qc):=fsc (by decide +kernel)
def oU:FnScope ["book"] ["book"] (ak iT):=fsc (by decide +kernel)
def sc_sshowend:FnScope ["end","name"] ["end"] (ak qR):=fsc (by decide +kernel)
def rR:FnScope nl2 nl2 (ak jS):=fsc (by decide +kernel)
def qU:FnScope nl3 nl3 (ak iC):=fsc (by decide +kernel)
def sc_sshowdeed:FnScope JF ["deed"] (ak lM):=fsc (by decide +kernel)
def qV:FnScope Et Et (ak iD):=fsc (by decide +kernel)
def vQ:FnScope nl1 nl1 (ak qS):=fsc (by decide +kernel)
def sc_sreadjoint:FnScope ["word","joint"] nl1 (ak jT):=fsc (by decide +kernel)
def oV:FnScope nl4 nl4 (ak fR):=fsc (by decide +kernel)
def qW:FnScope nl4 nl4 (ak iE):=fsc (by decide +kernel)
def sc_sreadsides:FnScope ["words","middle","place"] ["words","middle"] (ak mR):=fsc (by decide +kernel)
def sc_sreadsetdeed:FnScope ["words","deed"] nl4 (ak jU):=fsc (by decide +kernel)
def sc_sreaddeed:FnScope ["text","words"] ["text"] (ak oP):=fsc (by decide +kernel)
def rS:FnScope Gg Gg (ak mS):=fsc (by decide +kernel)
def rT:FnScope Eu Eu (ak jV):=fsc (by decide +kernel)
def sc_sshowpart:FnScope ["part","theirs","ours"] nl8 (ak oQ):=fsc (by decide +kernel)
def uu:FnScope ["ring"] ["ring"] (ak lN):=fsc (by decide +kernel)
def uv:FnScope ["span"] ["span"] (ak lO):=fsc (by decide +kernel)
def sc_sshowparts:FnScope Ev ["book","parts"] (ak fH):=fsc (by decide +kernel)
def sc_sshowpaper:FnScope JG ["book","paper"] (ak jW):=fsc (by decide +kernel)
def pQ:FnScope nl1 nl1 (ak jX):=fsc (by decide +kernel)
def sc_swordsbehind:FnScope ["word","row","words"] Ca (ak jY):=fsc (by decide +kernel)
def rV:FnScope Ca Ca (ak mT):=fsc (by decide +kernel)
def sc_sreadpart:FnScope ["row","words","sides"] nl5 (ak oR):=fsc (by decide +kernel)
def sc_sreadring:FnScope ["row","ring"] nl5 (ak lP):=fsc (by decide +kernel)
def sc_sreadspan:FnScope ["word","span"] nl1 (ak lQ):=fsc (by decide +kernel)
def sc_sreadcover:FnScope ["row","words"] nl5 (ak mU):=fsc (by decide +kernel)
def oW:FnScope nl6 nl6 (ak iU):=fsc (by decide +kernel)
def rW:FnScope nl6 nl6 (ak jZ):=fsc (by decide +kernel)
def sc_sreadpartsturns:FnScope ["rows","knots"] nl6 (ak dW):=fsc (by decide +kernel)
def rX:FnScope Ew Ew (ak j5):=fsc (by decide +kernel)
def sc_sreadpaper:FnScope JH ["text"] (ak j6):=fsc (by decide +kernel)
def Ch:FnScope Cb Cb (ak xc):=fsc (by decide +kernel)
def sc_sLpick:FnScope Lg nl7 (ak xf):=fsc (by decide +kernel)
def uw:FnScope nl7 nl7 (ak lR):=fsc (by decide +kernel)
def sc_sLname:FnScope Lh ["_law_flow_here","_law_stem"] (ak xg):=fsc (by decide +kernel)
def sc_sLnames:FnScope Li nl7 (ak uo):=fsc (by decide +kernel)
def xq:FnScope Cc Cc (ak qd):=fsc (by decide +kernel)
def ux:FnScope Cd Cd (ak oS):=fsc (by decide +kernel)
def sc_sLjointstext:FnScope JI ["_law_joints"] (ak gy):=fsc (by decide +kernel)
def rY:FnScope nl9 nl9 (ak j7):=fsc (by decide +kernel)
def Ci:FnScope Gh Gh (ak xh):=fsc (by decide +kernel)
def qX:FnScope Ex Ex (ak iF):=fsc (by decide +kernel)
def sc_sLpartlines:FnScope Gi ["_law_book","_law_parts"] (ak fY):=fsc (by decide +kernel)
def sc_sLtext:FnScope JJ Gj (ak uq):=fsc (by decide +kernel)
def vR:FnScope Gk Gk (ak qT):=fsc (by decide +kernel)
def sc_sLsomeends:FnScope Lj Lk (ak mV):=fsc (by decide +kernel)
def sc_sLsomejoints:FnScope Ll Lm (ak j8):=fsc (by decide +kernel)
def sc_sLsomedeed:FnScope JK Ln (ak j9):=fsc (by decide +kernel)
def sc_sLmany:FnScope nl7 Gm (ak xi):=fsc (by decide +kernel)
def sc_sLsomerings:FnScope JL Gm (ak iG):=fsc (by decide +kernel)
def sc_sLsomeparts:FnScope JM Lo (ak iH):=fsc (by decide +kernel)
def sc_sLsomepaper:FnScope JN ["_law_flow_here","_law_book"] (ak iI):=fsc (by decide +kernel)
def sc_sLholds:FnScope Lp Gj (ak ut):=fsc (by decide +kernel)
def sc_slaw:FnScope Lq Cb (ak JP):=fsc (by decide +kernel)
structure Md(P:Program)(w:World)(K:Aa)(mg:Str->Option Value):Prop where
 n_all:mg "all"=none
 n_bool:mg "bool"=none
 n_int:mg "int"=none
 n_isinstance:mg "isinstance"=none
 n_len:mg "len"=none
 n_list:mg "list"=none
 n_range:mg "range"=none
 n_sorted:mg "sorted"=none
 n_str:mg "str"=none
 n_tuple:mg "tuple"=none
 n_zip:mg "zip"=none
 c_LETTERS:∃t,mg "LETTERS"=some (.str "abcdefghijklmnopqrstuvwxyz" t)
 c_LONGEST_NAME:∃t,mg "LONGEST_NAME"=some (.int 6 t)
 c_FIGURES:∃t,mg "FIGURES"=some (.str "0123456789" t)
 c_DEED_FIGURES:∃t,mg "DEED_FIGURES"=some (.int 3 t)
 c_PAPER_FIGURES:∃t,mg "PAPER_FIGURES"=some (.int 4 t)
 c_FORMS:GlT K mg "FORMS" [.tup [.tup [.int 2],.tup [.int 1,.int 1]],.tup [.tup [.int 1,.int 1],.tup [.int 2]],.tup [.tup [.int 2,.int 2],.tup [.int 2,.int 2]],.tup [.tup [.int 1,.int 2],.tup [.int 1,.int 2]]]
 c_BOOKS:GlT K mg "BOOKS" [.str "one",.str "two",.str "home",.str "turns",.str "changes"]
 c_PART_KINDS:GlT K mg "PART_KINDS" [.str "ring",.str "odd",.str "ours",.str "theirs"]
 c_NUMBERS_BEHIND:JA P w K mg "NUMBERS_BEHIND" [("turn",2),("change",4)]
end K65
namespace VF
open PySem L2
def uz{i j:Int}(h:CMul i j):nA (.int i) (.int j)=some (.int (i*j),false):=by
 have:yq (.int i) (.int j)=some (.int (i*j),false):=by
  show(if CMul i j then some (D.int (i*j),false) else none)=_;rw[Ag h]
 unfold nA orD;rw[this]
def uA{i j:Int}(h:0<j):jj (.int i) (.int j)=some (.int (i % j),false):=by
 show(if 0<j then some (D.int (i % j),false) else none)=_;rw[Ag h]
def Ey{i j:Int}(h:wB i j):oA (.int i) (.int j)=some (.int (i / j),false):=by
 show(if wB i j then some (D.int (i / j),false) else none)=_;rw[Ag h]
def bS{ds:List D}{i:Int}{d:D}(h:atI ds i=some d):bIx (.lst ds) (.int i)=some (d,false):=by
 have:Dq (.lst ds) (.int i)=some (d,false):=by
  show(atI ds i).bind (fun d=>some (d,false))=_;rw[h];rfl
 unfold bIx orD;rw[this]
def ix_tup{ds:List D}{i:Int}{d:D}(h:atI ds i=some d):bIx (.tup ds) (.int i)=some (d,false):=by
 have e1:Dq (.tup ds) (.int i)=none:=rfl;have:FL (.tup ds) (.int i)=some (d,false):=by
  show(atI ds i).bind (fun d=>some (d,false))=_;rw[h];rfl
 unfold bIx orD;rw[e1,this]
def cM{f:FT}{st s:En}{b c:Bool}(h:f st=some (b,s))(e:b=c):f st=some (c,s):=e ▸ h
def xt{mm:D->D->D->Option D}{fe fi:FE}{i:Nat}{st s1 s2 s3:En}{r rk:Rs}{dv dk z z':D}{t t0:Sl}{x0:D}(h1:fe st=some (r,s1))(h2:esc r s1=some (dv,s2))(h0:s2[i]?=some t0)(h00:t0.ow=some x0)(h3:fi s2=some (rk,s3))(h4:cont s3 rk=some dk)(h5:s3[i]?=some t)(h6:t.ow=some z)(h7:mm z dk dv=some z'){s4:En}(h8:s3.set i (t.put z')=s4:=by rfl):tZ mm fe i fi st=some (.nx s4):=by
 simp only[tZ,h1,h2,h0,h00,h3,h4,h5,h6,h7,h8,Xa]
end VF
namespace K65
open PySem L2 VF
def Fl(ns:List Int)(i m sd c:Int):D:=.lst [.lst (ns.map D.int),.int i,.int m,.int sd,.int c]
def ck(φ:D):Prop:=∃ns i m sd c,φ=Fl ns i m sd c/\0<=i/\0<=m/\0<=sd/\0<=c
def Go(ns:List Int):mK [.fl (ns.map D.int)]=some (Fl ns 0 0 1 0,true):=rfl
def bU{φ : D}{n : Int}(hφ : ck φ)(h0 : 0 < n)(h1 : n ≤ 10000) : ∃ d φ', aP φ [.int n] = some ((.int d, false), φ') ∧ 0 ≤ d ∧ d < n ∧ ck φ' := by
  obtain ⟨ns, i, m, sd, c, rfl, hi, hm, hs, hc⟩ := hφ;have sp : ∃ A B, jP = aA A B ∧
     (∃ o i' m' sd', A [.io (Fl ns i m sd c), .v (.int n), .e, .e] = some (.nx [.io (Fl ns i' m' sd' c), .v (.int n), o, .e]) ∧ 0 ≤ i' ∧ 0 ≤ m' ∧ 0 ≤ sd') ∧
     (∀ o i m sd, 0 ≤ i → 0 ≤ m → 0 ≤ sd → ∃ d φ' s3, B [.io (Fl ns i m sd c), .v (.int n), o, .e] = some (.rt (.d (.int d)) [.io φ', .v (.int n), o, s3]) ∧ 0 ≤ d ∧ d < n ∧ ck φ') := by
    refine ⟨_, _, rfl, ?_, ?_⟩
    · by_cases c1 : m = 0
      · subst c1
        by_cases c2 : i < ((ns.map D.int).length : Int)
        · obtain ⟨v, hv, hm', _⟩ := qw hi c2
          obtain ⟨z, _, rfl⟩ := List.mem_map.mp hm';have t2 : nk (ax (fOp bEq (fOp bIx (ae 0) (fC (.int 2))) (fC (.int 0)))) (ax (fOp bLt (fOp bIx (ae 0) (fC (.int 1))) (fCB cC (aa (fOp bIx (ae 0) (fC (.int 0))) ah)))) [.io (Fl ns i 0 sd c), .v (.int n), .e, .e] = some (true, [.io (Fl ns i 0 sd c), .v (.int n), .e, .e]) :=
            DI rfl (cM (b := decide (i < ((ns.map D.int).length : Int))) rfl (Ad c2))
          by_cases c3 : (10 : Int) ^ (18 : Int).toNat ≤ z
          · have p18 : (0 : Int) ≤ 10 ^ (18 : Int).toNat := by decide
            refine ⟨.v (.int z), i + 1, z, sd, ?_, by lia, by lia, hs⟩
            refine dm t2 ?_;refine am (bm (x := .int z) (aq rfl rfl rfl rfl (bS hv)) rfl) ?_;refine am (s := [.io (Fl ns (i + 1) 0 sd c), .v (.int n), .v (.int z), .e]) rfl ?_;refine dm (cM (b := decide ((10 : Int) ^ (18 : Int).toNat ≤ z)) (s := [.io (Fl ns (i + 1) 0 sd c), .v (.int n), .v (.int z), .e]) rfl (Ad c3)) ?_;rfl
          · refine ⟨.v (.int z), i + 1, 0, (sd * 40013 + z % 1000003 + 1) % 2147483647, ?_, by lia, by lia, AQ _ (by decide)⟩
            refine dm t2 ?_;refine am (bm (x := .int z) (aq rfl rfl rfl rfl (bS hv)) rfl) ?_;refine am (s := [.io (Fl ns (i + 1) 0 sd c), .v (.int n), .v (.int z), .e]) rfl ?_;refine bq (cM (b := decide ((10 : Int) ^ (18 : Int).toNat ≤ z)) (s := [.io (Fl ns (i + 1) 0 sd c), .v (.int n), .v (.int z), .e]) rfl (Ae c3)) ?_;exact xt (aq (aq (aq (aq rfl rfl rfl rfl (uz (j := 40013) (.inr ⟨by decide, by decide⟩))) rfl rfl rfl rfl) rfl rfl rfl rfl) rfl rfl rfl rfl) rfl rfl rfl rfl rfl rfl rfl rfl
        · refine ⟨.e, i, 0, sd, ?_, hi, hm, hs⟩
          exact bq (DI (s := [.io (Fl ns i 0 sd c), .v (.int n), .e, .e]) rfl (cM (b := decide (i < ((ns.map D.int).length : Int))) rfl (Ae c2))) rfl
      · refine ⟨.e, i, m, sd, ?_, hi, hm, hs⟩
        have e : decide (V.int m = V.int 0) = false := Ae fun z => c1 (V.int.inj z);exact bq (Hl (cM (b := decide (V.int m = V.int 0)) (s := [.io (Fl ns i m sd c), .v (.int n), .e, .e]) rfl e)) rfl
    · intro o i m sd hi hm hs
      by_cases c1 : 0 < m
      · refine ⟨m % n, Fl ns i (m / n) sd c, .v (.int (m % n)), ?_, AQ _ (by lia), Bm _ h0, ⟨ns, i, m / n, sd, c, rfl, hi, Int.ediv_nonneg hm (by lia), hs, hc⟩⟩
        refine bJ ?_;refine dm (cM (b := decide (0 < m)) (s := [.io (Fl ns i m sd c), .v (.int n), o, .e]) rfl (Ad c1)) ?_;refine am (s := [.io (Fl ns i m sd c), .v (.int n), o, .v (.int (m % n))]) (bm (aq rfl rfl rfl rfl (uA h0)) rfl) ?_;refine am (s := [.io (Fl ns i (m / n) sd c), .v (.int n), o, .v (.int (m % n))]) (xt (aq rfl rfl rfl rfl (Ey ⟨h0, by lia⟩)) rfl rfl rfl rfl rfl rfl rfl rfl) ?_
        rfl
      · refine ⟨(((sd * 48271 + 12820163 + (c + 1)) % 2147483647 % 65521 + 1) * ((sd * 48271 + 12820163 + (c + 1)) % 2147483647 / 65521 + 7919) % 1000003 / 7) % n, Fl ns i m ((sd * 48271 + 12820163 + (c + 1)) % 2147483647) (c + 1), .e, ?_, ?_, ?_, ⟨ns, i, m, _, _, rfl, hi, hm, AQ _ (by decide), by lia⟩⟩
        · refine am (bq (cM (b := decide (0 < m)) (s := [.io (Fl ns i m sd c), .v (.int n), o, .e]) rfl (Ae c1)) rfl) ?_
          refine am (s := [.io (Fl ns i m sd (c + 1)), .v (.int n), o, .e]) rfl ?_;refine am (s := [.io (Fl ns i m ((sd * 48271 + 12820163 + (c + 1)) % 2147483647) (c + 1)), .v (.int n), o, .e]) (xt (aq (aq (aq (aq rfl rfl rfl rfl (uz (j := 48271) (.inr ⟨by decide, by decide⟩))) rfl rfl rfl rfl) rfl rfl rfl rfl) rfl rfl rfl rfl) rfl rfl rfl rfl rfl rfl rfl rfl) ?_
          have a := AQ ((sd * 48271 + 12820163 + (c + 1)) % 2147483647) (show (65521 : Int) ≠ 0 by decide)
          have b := Bm ((sd * 48271 + 12820163 + (c + 1)) % 2147483647) (show (0 : Int) < 65521 by decide)
          exact av (aq (aq (aq (aq rfl rfl rfl rfl (uz (.inl ⟨by lia, by lia⟩))) rfl rfl rfl rfl) rfl rfl rfl rfl) rfl rfl rfl (uA h0))
        · exact AQ _ (by lia)
        · exact Bm _ h0
  obtain ⟨A, B, eF, ⟨o, i', m', sd', eA, hi', hm', hs'⟩, hB⟩ := sp;obtain ⟨d, φ', s3, eB, h2, h3, h4⟩ := hB o i' m' sd' hi' hm' hs';refine ⟨d, φ', ?_, h2, h3, h4⟩;refine bb (o := .rt (.d (.int d)) [.io φ', .v (.int n), o, s3]) rfl ?_ rfl;rw [eF];exact am eA eB
end K65
namespace K65
open PySem L2 VF VL
def mW{φ:D}{k:Int}(hφ:ck φ)(h0:0<=k)(h1:k<=100):∃x φ',dR φ [.int k]=some ((.str x,false),φ')/\(x.length:Int)=k/\Lw x/\ck φ':=by
 have hE:(Str.ofString "").length=0:=by decide +kernel
 have cl:=i5 (fg:=gN 0) (fc:=aN) (k:=1) (fe:=fOp bIx (fC (.str "abcdefghijklmnopqrstuvwxyz")) (fIO aP 1 (aa (fC (.int 26)) ah)))
  (fun pre sb=>∃φ' ys,sb=[.e,.io φ']/\ck φ'/\pre=ys.map D.str/\∀y∈ys,∃c,y=(⟨#[c]⟩:Str)/\97<=c/\c<=122) (by
   rintro pre x sb ⟨φ',ys,rfl,hf,rfl,hy⟩;obtain⟨d,φ2,e,d0,d1,hf2⟩:=bU (n:=26) hf (by decide) (by decide)
   obtain⟨c,hc,hm,_⟩:=qw (xs:=letS.cps.toList) d0 (by rw[qL,List.length_range'];exact d1)
   refine⟨[.v x,.io φ'],[.v x,.io φ'],.d (.str ⟨#[c]⟩),[.v x,.io φ2],.str ⟨#[c]⟩,[.v x,.io φ2],rfl,rfl,aq rfl (aX rfl rfl rfl rfl rfl rfl e) rfl rfl (ix_str (by decide +kernel) hc),rfl,φ2,ys++[⟨#[c]⟩],rfl,hf2,by rw[Wd];rfl,fun y hy2=>?_⟩
   rcases Ze.mp hy2 with z|z
   ·exact hy y z
   ·have:y=⟨#[c]⟩:=by simpa using z
    rw[qL,List.mem_range'_1]at hm
    exact⟨c,this,by lia⟩)
  (rng 0 k.toNat) [] [.e,.io φ] ⟨φ,[],rfl,hφ,rfl,fun y hy=>by cases hy⟩
 obtain⟨ds,sf,e1,e2,φ',ys,rfl,hf,e3,hy⟩:=cl;rw[Yh]at e3;subst e3;rw[bY,Za]at e2;have hy':∀y∈ys,∃c,y=(⟨#[c]⟩:Str):=fun y h=>by obtain⟨c,e,_⟩:=hy y h;exact⟨c,e⟩
 refine⟨Txt.join (Str.ofString "") ys,φ',?_,by rw[join_ones hy'];lia,Ek hy,hf⟩
 have hj:dF (.str "") [.lst (ys.map D.str)]=some (.str (Txt.join (Str.ofString "") ys),false):=by
  show(gL (ys.map D.str)).bind (fun ys=>if (ys.map (·.length)).sum+ys.length*(Str.ofString "").length<=16777216 then some (D.str (Txt.join (Str.ofString "") ys),false) else none)=_;rw[gM];show(if _ then _ else _)=_;rw[Ag (by rw[Em hy',hE];lia)]
 refine bb (o:=.rt (.d (.str (Txt.join (Str.ofString "") ys))) [.io φ',.v (.int k)]) rfl ?_ rfl
 exact av (cE rfl rfl rfl (ad (aO (eK rfl rfl ⟨by lia,by lia⟩) (by
  show(true&&decide ((rng 0 k.toNat).length<=1000000))=true
  rw[bY,Ad (by lia)];rfl) e1) rfl) rfl rfl hj)
abbrev w1:List Str:=["to","turn","turns","ring","rings","odd","ours","row","rows","cuts","knots","cover"]
abbrev w2:List Str:=["change","joins","theirs","one","two","home","none","open","keep","tox","onex"]
abbrev wordsS:List Str:=w1++w2
def okN(x:Str):Bool:=decide (1<=x.length/\x.length<=6)&&x.cps.toList.all fun c=>decide (97<=c/\c<=122)
def JQ{x:Str}(h:okN x=true):Nm x:=by
 unfold okN at h;rw[Wf,decide_eq_true_eq,Qf]at h;exact⟨h.1.1,h.1.2,fun c hc=>Ap (h.2 c hc)⟩
def Ez:∀v∈wordsS,okN v=true:=Qf.mp (by decide +kernel)
def Gp{φ:D}{st:Str}(hφ:ck φ)(hst:st.length<=4)(lst:Lw st):∃x φ',mM φ [.str st]=some ((.str x,false),φ')/\Nm x/\ck φ':=by
 by_cases c0:st=""
 ·subst c0;obtain⟨d,φ1,e1,d0,d1,f1⟩:=bU (n:=7) hφ (by decide) (by decide)
  by_cases c1:d=0
  ·subst c1;obtain⟨d2,φ2,e2,d20,d21,f2⟩:=bU (n:=23) f1 (by decide) (by decide)
   obtain⟨v,hv,hm,_⟩:=qw (xs:=wordsS.map D.str) d20 (by rw[Za];exact d21)
   obtain⟨x,hx,rfl⟩:=Yb.mp hm;refine⟨x,φ2,?_,JQ (Ez x hx),f2⟩;refine bb (o:=.rt (.d (.str x)) [.io φ2,.v (.str ""),.o (.lst (wordsS.map D.str))]) rfl ?_ rfl;refine am (s:=[.io φ,.v (.str ""),.e]) rfl ?_;refine bJ ?_;refine dm (s:=[.io φ1,.v (.str ""),.e]) (aC (aq (aX rfl rfl rfl rfl rfl rfl e1) rfl rfl rfl rfl) rfl) ?_;refine am (s:=[.io φ1,.v (.str ""),.o (.lst (w1.map D.str))]) rfl ?_;refine am (s:=[.io φ1,.v (.str ""),.o (.lst (wordsS.map D.str))]) rfl ?_;exact av (aq rfl (aX rfl rfl rfl rfl rfl rfl e2) rfl rfl (bS hv))
  ·obtain⟨d2,φ2,e2,d20,d21,f2⟩:=bU (n:=6) f1 (by decide) (by decide)
   obtain⟨x,φ3,e3,hx,lx,f3⟩:=mW (k:=1+d2) f2 (by lia) (by lia)
   refine⟨x,φ3,?_,⟨by lia,by lia,lx⟩,f3⟩
   refine bb (o:=.rt (.d (.str x)) [.io φ3,.v (.str ""),.e]) rfl ?_ rfl;refine am (s:=[.io φ,.v (.str ""),.e]) rfl ?_;have t:decide (V.int d=V.int 0)=false:=Ae fun z=>c1 (V.int.inj z);refine am (bq (s:=[.io φ1,.v (.str ""),.e]) (cM (b:=decide (V.int d=V.int 0)) (aC (aq (aX rfl rfl rfl rfl rfl rfl e1) rfl rfl rfl rfl) rfl) t) rfl) ?_;exact av (aX rfl rfl (ad (aq rfl (aX rfl rfl rfl rfl rfl rfl e2) rfl rfl rfl) rfl) rfl rfl rfl e3)
 ·obtain⟨d,φ1,e1,d0,d1,f1⟩:=bU (n:=2) hφ (by decide) (by decide)
  obtain⟨x,φ2,e2,hx,lx,f2⟩:=mW (k:=1+d) f1 (by lia) (by lia)
  refine⟨st++x,φ2,?_,⟨by rw[Ah];lia,by rw[Ah];lia,lst.app lx⟩,f2⟩
  refine bb (o:=.rt (.d (.str (st++x))) [.io φ2,.v (.str st),.e]) rfl ?_ rfl;refine bJ ?_;have t:(!decide (V.str st=V.str ""))=true:=by rw[Ae (fun z=>c0 (V.str.inj z))];rfl
  refine dm (s:=[.io φ,.v (.str st),.e]) (cM (b:=!decide (V.str st=V.str "")) rfl t) ?_;exact av (aq rfl (aX rfl rfl (ad (aq rfl (aX rfl rfl rfl rfl rfl rfl e1) rfl rfl rfl) rfl) rfl rfl rfl e2) rfl rfl (gp (by lia)))
end K65
namespace VF
open PySem L2
def fS{i:Nat}{s t:Sl}{st s1:En}(h:st[i]?=some t)(n:t.isIo=false)(e:st.set i s=s1:=by rfl):tW i s st=some s1:=by
 unfold tW;rw[h];show(if t.isIo=true then none else some (st.set i s))=_;rw[Al (by rw[n];decide),e]
def oX{xs:List D}{y:D}(h:xs.length<1000000):ip (.lst xs) [y]=some (.non,.lst (xs++[y])):=by
 show(if xs.length<1000000 then some (D.non,D.lst (xs++[y])) else none)=_;rw[Ag h]
def nF{α:Type}{f:α->D}{g:D->α}(hg:∀a,g (f a)=a){ys:List D}{xs:List α}(p:ys.Perm (xs.map f)):∃zs:List α,ys=zs.map f/\zs.Perm xs:=by
 have h1:∀y∈ys,∃z,y=f z:=fun y hy=>by
  obtain⟨z,_,rfl⟩:=Yb.mp (p.mem_iff.mp hy);exact⟨z,rfl⟩
 refine⟨ys.map g,?_,?_⟩
 ·rw[Vc];refine(Bt ys).symm.trans (List.map_congr_left fun y hy=>?_);obtain⟨z,rfl⟩:=h1 y hy;show f z=f (g (f z));rw[hg]
 ·have:=p.map g;rw[Vc]at this;refine this.trans (List.Perm.of_eq ?_);exact(List.map_congr_left fun z _=>hg z).trans (Bt xs)
end VF
namespace K65
open PySem L2 VF VL
def EA{φ:D}{n:Int}(hφ:ck φ)(h0:0<=n)(h1:n<=100):∃(xs:List Str)(φ':D),lh φ [.int n]=some ((.lst (xs.map D.str),true),φ')/\(xs.length:Int)=n/\(∀x∈xs,Nm x)/\xs.Nodup/\ck φ':=by
 obtain⟨d,φ1,e1,d0,d1,f1⟩:=bU (n:=3) hφ (by decide) (by decide)
 have sp:∃A B C R,iz=aA A (aA B (aA C R)) /\
   (∃st φ2,A [.io φ,.v (.int n),.e,.e,.e,.e,.e]=some (.nx [.io φ,.v (.int n),.v (.str ""),.e,.e,.e,.e])/\B [.io φ,.v (.int n),.v (.str ""),.e,.e,.e,.e]=some (.nx [.io φ2,.v (.int n),.v (.str st),.e,.e,.e,.e]) /\
    C [.io φ2,.v (.int n),.v (.str st),.e,.e,.e,.e]=some (.nx [.io φ2,.v (.int n),.v (.str st),.o (.lst []),.e,.e,.e])/\ck φ2/\st.length<=4/\Lw st) /\
   (∀st φ2,ck φ2->st.length<=4->Lw st->∃(xs:List Str)(φ':D)(o4 o5 o6:Sl),R [.io φ2,.v (.int n),.v (.str st),.o (.lst []),.e,.e,.e]=some (.rt (.s 3) [.io φ',.v (.int n),.v (.str st),.o (.lst (xs.map D.str)),o4,o5,o6])/\(xs.length:Int)=n/\(∀x∈xs,Nm x)/\xs.Nodup/\ck φ'):=by
  refine⟨_,_,_,_,rfl,?_,?_⟩
  ·by_cases c:d=0
   ·subst c;obtain⟨d2,φ2,e2,d20,d21,f2⟩:=bU (n:=4) f1 (by decide) (by decide)
    obtain⟨x,φ3,e3,hx,lx,f3⟩:=mW (k:=1+d2) f2 (by lia) (by lia)
    refine⟨x,φ3,rfl,?_,rfl,f3,by lia,lx⟩
    refine dm (s:=[.io φ1,.v (.int n),.v (.str ""),.e,.e,.e,.e]) (aC (aq (aX rfl rfl rfl rfl rfl rfl e1) rfl rfl rfl rfl) rfl) ?_;exact bm (aX rfl rfl (ad (aq rfl (aX rfl rfl rfl rfl rfl rfl e2) rfl rfl rfl) rfl) rfl rfl rfl e3) rfl
   ·refine⟨"",φ1,rfl,?_,rfl,f1,by decide +kernel,Ep⟩
    have t:decide (V.int d=V.int 0)=false:=Ae fun z=>c (V.int.inj z);exact bq (s:=[.io φ1,.v (.int n),.v (.str ""),.e,.e,.e,.e]) (cM (b:=decide (V.int d=V.int 0)) (aC (aq (aX rfl rfl rfl rfl rfl rfl e1) rfl rfl rfl rfl) rfl) t) rfl
  ·intro st φ2 f2 hst lst
   have lp:∀(fg:FG)(B:FS),fg=gN 4->(∀(φ':D)(xs:List Str)(k:D)(o5 o6:Sl),ck φ'->xs.length<=200->(∀x∈xs,Nm x)->xs.Nodup->xs.length<=110->o5.isIo=false->o6.isIo=false ->
     ∃φ2 x o6',B [.io φ',.v (.int n),.v (.str st),.o (.lst (xs.map D.str)),.v k,o5,o6]=some (.nx [.io φ2,.v (.int n),.v (.str st),.o (.lst ((xs++[x]).map D.str)),.v k,.v (.str x),.v o6'])/\ck φ2/\Nm x/\x∉xs) ->
     ∃(xs:List Str)(φ':D)(o4 o5 o6:Sl),aA (rP (nq (aa (ae 1) ah)) fg B) (aM (ae 3)) [.io φ2,.v (.int n),.v (.str st),.o (.lst []),.e,.e,.e]=some (.rt (.s 3) [.io φ',.v (.int n),.v (.str st),.o (.lst (xs.map D.str)),o4,o5,o6])/\(xs.length:Int)=n/\(∀x∈xs,Nm x)/\xs.Nodup/\ck φ':=by
    intro fg B hfg hB;subst hfg;obtain⟨sf,e,φ',xs,o4,o5,o6,rfl,hf,hl,hx,nd,_⟩:=kJ (fg:=gN 4) (B:=B) (rng 0 n.toNat) (fun gone s=>∃(φ':D)(xs:List Str)(o4 o5 o6:Sl),s=[.io φ',.v (.int n),.v (.str st),.o (.lst (xs.map D.str)),o4,o5,o6]/\ck φ'/\xs.length=gone.length/\(∀x∈xs,Nm x)/\xs.Nodup/\o4.isIo=false/\o5.isIo=false/\o6.isIo=false)
     (fun gone x rest s ha zz8=>by
      obtain⟨φ',xs,o4,o5,o6,hs,hf,hl,hx,nd,q4,q5,q6⟩:=zz8;subst hs;have hg:=congrArg List.length ha;rw[bY,Qb,Qa]at hg;obtain⟨φ3,y,o6',eB,f3,ny,hy⟩:=hB φ' xs x o5 o6 hf (by lia) hx nd (by lia) q5 q6
      refine⟨_,_,fS rfl q4,eB,φ3,xs++[y],.v x,.v (.str y),.v o6',rfl,f3,by simp[hl],fun z hz=>?_,?_,rfl,rfl,rfl⟩
      ·rcases Ze.mp hz with w|w
       ·exact hx z w
       ·have:z=y:=by simpa using w
        rw[this];exact ny
      ·rw[List.nodup_append]
       exact⟨nd,by simp,fun a ha b hb e=>by
        have:b=y:=by simpa using hb
        subst this;subst e;exact hy ha⟩) (rng 0 n.toNat) [] [.io φ2,.v (.int n),.v (.str st),.o (.lst []),.e,.e,.e] rfl ⟨φ2,[],.e,.e,.e,rfl,f2,rfl,fun x hx=>(by cases hx),List.nodup_nil,rfl,rfl,rfl⟩
    rw[bY]at hl;exact⟨xs,φ',o4,o5,o6,am (oE (eK rfl rfl ⟨by lia,by lia⟩) e) rfl,by lia,hx,nd,hf⟩
   refine lp _ _ rfl ?_;intro φ' xs k o5 o6 hf _ hx nd hl q5 q6;obtain⟨x,φ3,e3,nx,f3⟩:=Gp hf hst lst;obtain⟨sf,ew,s',y,rfl,ny,hy⟩:=ua (f:=ax (fOp bIn (ae 5) (ae 3))) (B:=aA (be (fOp nA (fOp bIx (fC (.str "abcdefghijklmnopqrstuvwxyz")) (fOp jj (ae 6) (fC (.int 26)))) (fOp cz (fC (.int 1)) (fOp oA (ae 6) (fC (.int 26))))) 5) (be (fOp cz (ae 6) (fC (.int 1))) 6))
    (fun m s=>∃(j:Nat)(x:Str),s=[.io φ3,.v (.int n),.v (.str st),.o (.lst (xs.map D.str)),.v k,.v (.str x),.v (.int j)]/\Nm x/\m+j=xs.length+2/\j<=xs.length+1/\(∀i,i+1<j->word i∈xs)/\(j=0∨x=word (j-1)))
    (fun s=>∃(j:Nat)(x:Str),s=[.io φ3,.v (.int n),.v (.str st),.o (.lst (xs.map D.str)),.v k,.v (.str x),.v (.int j)]/\Nm x/\x∉xs)
    (by
     rintro m s ⟨j,x,rfl,nx,hm,hj,hw,hxj⟩;by_cases c:x∈xs
     ·right;have hall:∀i,i<j->word i∈xs:=fun i hi=>by
       rcases hxj with z|z
       ·lia
       ·by_cases e:i+1<j
        ·exact hw i e
        ·have:i=j-1:=by lia
         rw[this,← z];exact c
      have hle:=B9 hall;obtain⟨m',rfl⟩:∃m',m=m'+1:=⟨m-1,by lia⟩
      have d0:(0:Int)<=1+(j:Int) / 26:=Int.add_nonneg (by decide) (Int.ediv_nonneg (Bl j) (by decide))
      have d1:1+(j:Int) / 26<=1000:=Int.le_trans (Int.add_le_add_left (Int.ediv_le_self 26 (Bl j)) 1) (by lia)
      refine⟨_,[.io φ3,.v (.int n),.v (.str st),.o (.lst (xs.map D.str)),.v k,.v (.str (word j)),.v (.int ((j+1:Nat):Int))],m',cM (aC (aq rfl rfl rfl rfl Hm) rfl) (Ad c),?_,Bz _,j+1,word j,rfl,Ge (by lia),by lia,Nat.succ_le_succ hle,fun i hi=>hall i (by lia),.inr rfl⟩
      refine am (s:=[.io φ3,.v (.int n),.v (.str st),.o (.lst (xs.map D.str)),.v k,.v (.str (word j)),.v (.int j)]) (bm (aq (aq rfl rfl rfl rfl (ix_str (by decide +kernel) (JD j))) (aq rfl rfl rfl rfl rfl) rfl rfl (FU ⟨d0,d1,(by show 1<=1000;decide)⟩)) rfl) ?_
      rfl
     ·left
      exact⟨_,cM (aC (aq rfl rfl rfl rfl Hm) rfl) (Ae c),j,x,rfl,nx,c⟩)
    200 (xs.length+2) [.io φ3,.v (.int n),.v (.str st),.o (.lst (xs.map D.str)),.v k,.v (.str x),.v (.int 0)] (by lia) ⟨0,x,rfl,nx,rfl,Wh _,fun i hi=>absurd hi (by lia),.inl rfl⟩
   refine⟨φ3,y,.int s',?_,f3,ny,hy⟩;refine am (bm (aX rfl rfl rfl rfl rfl rfl e3) (fS rfl q5)) ?_;refine am (bm (x:=.int 0) rfl (fS rfl q6)) ?_;refine am ew ?_;refine iq (wV rfl rfl rfl rfl rfl rfl rfl (oX (by rw[Za];lia)) ?_)
   rw[Wd];rfl
 obtain⟨A,B,C,R,eF,⟨st,φ2,eA,eB,eC,f2,hst,lst⟩,hR⟩:=sp;obtain⟨xs,φ',o4,o5,o6,eR,hl,hx,nd,hf⟩:=hR st φ2 f2 hst lst;refine⟨xs,φ',?_,hl,hx,nd,hf⟩;refine bb (o:=.rt (.s 3) [.io φ',.v (.int n),.v (.str st),.o (.lst (xs.map D.str)),o4,o5,o6]) rfl ?_ rfl;rw[eF];exact am eA (am eB (am eC eR))
end K65
namespace VF
open PySem L2
def Gq{n:Nat}{x:D}(h:x∈rng 0 n):∃i:Nat,i<n/\x=.int i:=by
 obtain⟨i,hi⟩:=Qg h;obtain⟨h1,h2⟩:=C5 hi;exact⟨i,h1,by rw[h2,Int.zero_add]⟩
theorem qf{α:Type}(xs:List α)(d:D):xs.map (fun _=>d)=List.replicate xs.length d:=by
 induction xs with
 | nil=>rfl
 | cons x r ih=>rw[Xf,ih];rfl
end VF
namespace K65
open PySem L2 VF VL
def Cj{n:Nat}{u:D}(h:Dp (n+1) u):aS (li (eJ n)) 2 2 [u,u]=some (.bl true,false):=by
 have seqs:∀(ds:List D),ds.length<=1000000->(∀d∈ds,Dp n d)->∀(u:D),(∀i d,atI ds i=some d->bIx u (.int i)=some (d,false)) ->
   bB (gN 0) aN (aG (eJ n) (aa (fOp bIx (ae 1) (ae 0)) (aa (fOp bIx (ae 2) (ae 0)) ah))) 1 (rng 0 ((ds.length:Int)).toNat) [.e,.v u,.v u]=some (List.replicate ds.length (D.bl true),[.e,.v u,.v u]):=fun ds hl hd u hu=>by
  have e:=lD (fg:=gN 0) (fc:=aN) (k:=1) (fe:=aG (eJ n) (aa (fOp bIx (ae 1) (ae 0)) (aa (fOp bIx (ae 2) (ae 0)) ah))) (fun _=>D.bl true) (rng 0 ((ds.length:Int)).toNat) [.e,.v u,.v u] (fun x hx=>by
   obtain⟨i,hi,rfl⟩:=Gq hx;have hi':i<ds.length:=by lia
   have ha:atI ds (i:Int)=some ds[i]:=cb (Ya hi');refine⟨[.v (.int i),.v u,.v u],[.v (.int i),.v u,.v u],.d (.bl true),[.v (.int i),.v u,.v u],[.v (.int i),.v u,.v u],rfl,rfl,?_,rfl,rfl⟩
   exact az (ad (aq rfl rfl rfl rfl (hu _ _ ha)) (ad (aq rfl rfl rfl rfl (hu _ _ ha)) rfl)) rfl (qB (hd _ (Yj hi'))) rfl)
  rw[e,qf,bY];have:((ds.length:Int)).toNat=ds.length:=by lia
  rw[this]
 cases h with
 | bl _ b=>cases b<;>rfl
 | int _ i =>
  refine ay (o:=.rt (.d (.bl true)) [.v (.int i),.v (.int i)]) rfl ?_ rfl;refine am (s:=[.v (.int i),.v (.int i)]) rfl (am (s:=[.v (.int i),.v (.int i)]) rfl (bJ (dm (s:=[.v (.int i),.v (.int i)]) rfl ?_)));refine av (ga (s:=[.v (.int i),.v (.int i)]) rfl rfl (aq rfl rfl rfl rfl (z:=(.bl (decide (V.int i=V.int i)),false)) rfl ?_));rw[Ad rfl];rfl
 | non _=>rfl
 | str _ x =>
  refine ay (o:=.rt (.d (.bl true)) [.v (.str x),.v (.str x)]) rfl ?_ rfl;refine am (s:=[.v (.str x),.v (.str x)]) rfl (am (s:=[.v (.str x),.v (.str x)]) rfl (am (s:=[.v (.str x),.v (.str x)]) rfl (bJ (dm (s:=[.v (.str x),.v (.str x)]) rfl ?_))));refine av (ga (s:=[.v (.str x),.v (.str x)]) rfl rfl (aq rfl rfl rfl rfl (z:=(.bl (decide (V.str x=V.str x)),false)) rfl ?_));rw[Ad rfl];rfl
 | @tup _ ds hl hd =>
  refine ay (o:=.rt (.d (.bl true)) [.v (.tup ds),.v (.tup ds)]) rfl ?_ rfl;refine am (s:=[.v (.tup ds),.v (.tup ds)]) rfl (am (s:=[.v (.tup ds),.v (.tup ds)]) rfl (am (s:=[.v (.tup ds),.v (.tup ds)]) rfl (am (s:=[.v (.tup ds),.v (.tup ds)]) rfl (am (s:=[.v (.tup ds),.v (.tup ds)]) rfl ?_))));refine av (ga (s:=[.v (.tup ds),.v (.tup ds)]) (r:=.d (.bl (decide (V.int ds.length=V.int ds.length)))) rfl (by rw[Ad rfl];rfl) ?_)
  refine aI (ad (aO (eK (j:=(ds.length:Int)) rfl rfl ⟨by lia,by lia⟩) (by
   show(true&&decide ((rng 0 ((ds.length:Int)).toNat).length<=1000000))=true
   rw[bY,Ad (by lia)];rfl) (seqs ds hl hd (.tup ds) fun i d h=>VF.ix_tup h)) rfl) rfl (kI _)
 | @lst _ ds hl hd =>
  refine ay (o:=.rt (.d (.bl true)) [.v (.lst ds),.v (.lst ds)]) rfl ?_ rfl;refine am (s:=[.v (.lst ds),.v (.lst ds)]) rfl (am (s:=[.v (.lst ds),.v (.lst ds)]) rfl (am (s:=[.v (.lst ds),.v (.lst ds)]) rfl (am (s:=[.v (.lst ds),.v (.lst ds)]) rfl (am (s:=[.v (.lst ds),.v (.lst ds)]) rfl ?_))));refine av (ga (s:=[.v (.lst ds),.v (.lst ds)]) (r:=.d (.bl (decide (V.int ds.length=V.int ds.length)))) rfl (by rw[Ad rfl];rfl) ?_)
  refine aI (ad (aO (eK (j:=(ds.length:Int)) rfl rfl ⟨by lia,by lia⟩) (by
   show(true&&decide ((rng 0 ((ds.length:Int)).toNat).length<=1000000))=true
   rw[bY,Ad (by lia)];rfl) (seqs ds hl hd (.lst ds) fun i d h=>bS h)) rfl) rfl (kI _)
end K65
namespace VF
open PySem L2
theorem EB{n:Nat}{d:D}:∀(es:List D),CA n (d::es)->Srt n es->∃fs:List D,fs.Perm (d::es)/\Srt n fs
 | [],_,_=>⟨[d],List.Perm.refl _,BR _ _⟩
 | e::es,h,s=>by
  obtain⟨s1,s2⟩:=Ve.mp s;cases c:ltN n e d with
  | true =>
   have up:∀x∈d::es,x∈d::e::es:=fun x hx=>by
    rcases Va.mp hx with m|m
    ·rw[m];exact Zc
    ·exact Vb _ (Vb _ m)
   obtain⟨fs,p,q⟩:=EB (n:=n) (d:=d) es (fun a ha b hb=>h a (up a ha) b (up b hb)) s2;refine⟨e::fs,(p.cons e).trans (List.Perm.swap d e es),Ve.mpr ⟨fun f hf=>?_,q⟩⟩;rcases Va.mp (p.mem_iff.mp hf) with m|m
   ·rw[m];exact p7 n e d c
   ·exact s1 f m
  | false =>
   refine⟨d::e::es,List.Perm.refl _,Ve.mpr ⟨fun b hb=>?_,s⟩⟩;rcases Va.mp hb with m|m
   ·rw[m];exact c
   ·cases k:ltN n b d with
    | false=>rfl
    | true =>
     rcases h.neg (a:=b) (b:=e) (c:=d) (by simp[m]) (by simp) (by simp) k with z|z
     ·rw[s1 b m]at z;cases z
     ·rw[c]at z;cases z
theorem xu{n:Nat}:∀(ds:List D),CA n ds->∃es:List D,es.Perm ds/\Srt n es
 | [],_=>⟨[],List.Perm.refl _,List.Pairwise.nil⟩
 | d::ds,h=>by
  obtain⟨es,p,q⟩:=xu ds fun a ha b hb=>h a (Vb _ ha) b (Vb _ hb);have pd:(d::es).Perm (d::ds):=p.cons d;obtain⟨fs,p2,q2⟩:=EB (n:=n) (d:=d) es (fun a ha b hb=>h a (pd.mem_iff.mp ha) b (pd.mem_iff.mp hb)) q;exact⟨fs,p2.trans pd,q2⟩
def pk{n:Nat}{ds es:List D}(h:CA n ds)(p:ds.Perm es):fW n ds=fW n es:=by
 obtain⟨fs,p1,q⟩:=xu ds h;rw[← fj h p1 q];exact fj (fun a ha b hb=>h a (p.mem_iff.mpr ha) b (p.mem_iff.mpr hb)) (p1.trans p) q
end VF
namespace K65
open PySem L2 VF VL
abbrev End:=Str×Int
def eD(e:End):D:=.tup [.str e.1,.int e.2]
abbrev Jnt:=List End
def jD(j:Jnt):D:=.tup (j.map eD)
def qY(n:Nat)(e:End):Pl (n+2) (eD e):=.tup fun d hd=>by
 rcases Va.mp hd with rfl|hd
 ·exact .str _ _
 ·obtain rfl:=Wa.mp hd;exact .int _ _
def y0(n:Nat)(j:Jnt):Pl (n+3) (jD j):=.tup fun d hd=>by
 obtain⟨e,_,rfl⟩:=Yb.mp hd;exact qY n e
def unE:D->End
 | .tup [.str n,.int i]=>(n,i)
 | _=>(Str.empty,0)
def unJ:D->Jnt
 | .tup es=>es.map unE
 | _=>[]
def xv(e:End):unE (eD e)=e:=rfl
def oY(j:Jnt):unJ (jD j)=j:=by
 show(j.map eD).map unE=j;rw[Vc];exact Bt j
def y3(n:Nat)(a b:End):Cp (n+2) (eD a) (eD b):=by
 intro i x y e1 e2
 match i,e1,e2 with
 | 0,e1,e2 =>
  have q1:D.str a.1=x:=by simpa using e1
  have q2:D.str b.1=y:=by simpa using e2
  subst q1 q2;trivial
 | 1,e1,e2 =>
  have q1:D.int a.2=x:=by simpa using e1
  have q2:D.int b.2=y:=by simpa using e2
  subst q1 q2;trivial
 | i+2,e1,_=>simp at e1
def EC(n:Nat)(a b:Jnt):Cp (n+3) (jD a) (jD b):=by
 intro i x y e1 e2;rw[Qd]at e1 e2;obtain⟨c,_,rfl⟩:=Yd.mp e1;obtain⟨d,_,rfl⟩:=Yd.mp e2;exact y3 n c d
noncomputable section
def aL(xs:List End):List End:=(fW 40 (xs.map eD)).map unE
def cR(xs:List Jnt):List Jnt:=(fW 40 (xs.map jD)).map unJ
def JR(xs:List End):CA 40 (xs.map eD):=fun a ha b hb=>by
 obtain⟨e,_,rfl⟩:=Yb.mp ha;obtain⟨e',_,rfl⟩:=Yb.mp hb;exact y3 38 e e'
def Gr(xs:List Jnt):CA 40 (xs.map jD):=fun a ha b hb=>by
 obtain⟨e,_,rfl⟩:=Yb.mp ha;obtain⟨e',_,rfl⟩:=Yb.mp hb;exact EC 37 e e'
def bj(xs:List End):fW 40 (xs.map eD)=(aL xs).map eD/\(aL xs).Perm xs:=by
 obtain⟨ys,e,p⟩:=nF (f:=eD) (g:=unE) xv (qI 40 (xs.map eD));have h:aL xs=ys:=by
  unfold aL;rw[e,Vc];exact Bt ys
 rw[h];exact⟨e,p⟩
def cH(xs:List Jnt):fW 40 (xs.map jD)=(cR xs).map jD/\(cR xs).Perm xs:=by
 obtain⟨ys,e,p⟩:=nF (f:=jD) (g:=unJ) oY (qI 40 (xs.map jD));have h:cR xs=ys:=by
  unfold cR;rw[e,Vc,show(unJ ∘ jD)=id from funext oY,BF]
 rw[h];exact⟨e,p⟩
def mX{xs ys:List End}(p:xs.Perm ys):aL xs=aL ys:=by
 unfold aL;rw[pk (JR xs) (p.map eD)]
def xw{xs ys:List Jnt}(p:xs.Perm ys):cR xs=cR ys:=by
 unfold cR;rw[pk (Gr xs) (p.map jD)]
def gB{d:D}(xs:List End)(hl:xs.length<64)(h0:d.seq=some (xs.map eD)):b7 [d]=some (.lst ((aL xs).map eD),true):=by
 rw[← (bj xs).1];unfold b7;dsimp only;rw[h0];dsimp only;refine Ag ⟨fun x hx=>?_,JR xs,⟨_,.tp (T:="str") fun d hd=>?_⟩,by rw[Za];exact hl⟩
 ·obtain⟨e,_,rfl⟩:=Yb.mp hx;exact qY 38 e
 ·obtain⟨e,_,rfl⟩:=Yb.mp hd;exact⟨_,_,rfl,fun z=>(by cases z),rfl⟩
def sT{d:D}(xs:List Jnt)(hl:xs.length<64)(hn:∀j∈xs,j≠[])(h0:d.seq=some (xs.map jD)):b7 [d]=some (.lst ((cR xs).map jD),true):=by
 rw[← (cH xs).1];unfold b7;dsimp only;rw[h0];dsimp only;refine Ag ⟨fun x hx=>?_,Gr xs,⟨_,.tp (T:="tuple") fun d hd=>?_⟩,by rw[Za];exact hl⟩
 ·obtain⟨e,_,rfl⟩:=Yb.mp hx;exact y0 37 e
 ·obtain⟨j,hj,rfl⟩:=Yb.mp hd;cases j with
  | nil=>exact absurd rfl (hn _ hj)
  | cons e r=>exact⟨eD e,r.map eD,rfl,fun z=>(by cases z),rfl⟩
end
end K65
namespace VF
open PySem L2
theorem sU{α:Type}(f:α->Bool):∀xs:List α,nB (xs.map fun x=>D.bl (f x))=some (xs.map f)
 | []=>rfl
 | x::r=>by
  show(nB (r.map fun x=>D.bl (f x))).bind _=_;rw[sU f r];rfl
def ED{α:Type}(f:α->Bool)(xs:List α):pO [.lst (xs.map fun x=>D.bl (f x))]=some (.bl (xs.all f),false):=by
 show(nB _).bind _=_;rw[sU];show some (D.bl ((xs.map f).all id),false)=_;rw[BY];rfl
def aJ{ds:List D}{i:Nat}{d:D}(h:ds[i]?=some d):bIx (.tup ds) (.int i)=some (d,false):=VF.ix_tup (cb h)
def JS{xs ys:List D}{c:Bool}(ne:xs≠[])(pa:Pl 40 (.tup xs))(pb:Pl 40 (.tup ys))(h:c=true↔D.tup xs=D.tup ys):oG (.tup xs) (.tup ys)=some (.bl (!c),false):=by
 have e1:bNe (.tup xs) (.tup ys)=none:=by
  cases xs with
  | nil=>exact absurd rfl ne
  | cons _ _=>rfl
 unfold oG orD;rw[e1];unfold B2;dsimp only;have dc:∀i:Decidable (D.tup xs=D.tup ys),@decide _ i=c:=fun i=>by rw[Ye,decide_eq_true_eq];exact h.symm
 rw[Ag ⟨pa,pb⟩,dc];rfl
def EE{n:Nat}{ds:List D}(h:∀d∈ds,Pl n d)(hn:n<=39):oG (.lst ds) (.lst ds)=some (.bl false,false):=by
 have up:∀(k:Nat){m:Nat}{d:D},Pl m d->Pl (m+k) d:=fun k=>by
  induction k with
  | zero=>intro m d h;exact h
  | succ k ih=>intro m d h;exact(ih h).up
 have e1:zS true (.lst ds) (.lst ds)=none:=rfl;have p:Pl 40 (.lst ds):=.lst fun d hd=>by
  have:=up (39-n) (h d hd);rwa [show n+(39-n)=39 by lia]at this
 cases ds with
 | nil =>
  unfold oG bNe orD;rw[e1];rfl
 | cons x r =>
  have e2:IV (.lst (x::r)) (.lst (x::r))=none:=rfl;have e3:B2 true (.lst (x::r)) (.lst (x::r))=some (.bl false,false):=by
   unfold B2;rw[Ag ⟨p,p⟩];simp
  unfold oG bNe orD;rw[e1,e2];exact e3
def Gs{xs L:List Int}(hl:xs.length<64)(pm:L.Perm xs)(pw:L.Pairwise (·<=·)){d:D}(hd:d.seq=some (xs.map D.int)):b7 [d]=some (.lst (L.map D.int),true):=by
 have ca:CA 40 (xs.map D.int):=fun a ha b hb=>by
  obtain⟨p,_,rfl⟩:=Yb.mp ha;obtain⟨q,_,rfl⟩:=Yb.mp hb;trivial
 have es:L.map D.int=fW 40 (xs.map D.int):=fj ca (pm.map _) (by
  unfold Srt;rw[Yi]
  exact List.Pairwise.imp (fun {a b} (hab:a<=b)=>Ae (by lia)) pw)
 unfold b7;simp only[hd]
 rw[Ag ⟨fun x hx=>by obtain⟨p,_,rfl⟩:=Yb.mp hx;exact .int _ _,ca,⟨_,.sc (T:="int") (by decide) fun d hd=>by
  obtain⟨p,_,rfl⟩:=Yb.mp hd
  exact⟨by simp,rfl⟩⟩,by rw[Za];exact hl⟩,← es]
def EF(i:Int):oG (.int i) (.int i)=some (.bl false,false):=by
 have e1:zS true (.int i) (.int i)=some (.bl false,false):=by
  show some (D.bl (!decide (V.int i=V.int i)),false)=_;rw[Ad rfl];rfl
 unfold oG bNe orD;rw[e1]
def plB:Nat->D->Bool
 | n+1,.tup ds=>ds.all (plB n)
 | _+1,.int _=>true
 | _,_=>false
theorem EG:∀{n:Nat}{d:D},plB n d=true->Pl n d
 | 0,d,h=>by cases d<;>cases h
 | n+1,d,h=>by
  cases d with
  | int i=>exact .int n i
  | tup ds=>exact .tup fun e he=>EG (Qf.mp h e he)
  | _=>cases h
def sV{n:Nat}{ds:List D}(h:CA n ds):Srt n (fW n ds):=by
 obtain⟨es,p,q⟩:=xu ds h;rw[← fj h p q];exact q
def cc{fa:FA}{st s1 s2:En}{rs:List Rs}{ds:List D}(h1:fa st=some (rs,s1))(h2:eZ rs s1=some (ds,s2))(h3:ds.length<=1000000):cY fa st=some (.f (.lst ds),s2):=by
 simp only[cY,h1,h2,Xa];rw[Ag h3]
def sW{fa:FE}{st s:En}{r:Rs}{b:D->Option Rz}{d:D}{z:Rz}{r':Rs}(h1:fa st=some (r,s))(h2:cont s r=some d)(h3:b d=some z)(hz:mk z=r':=by rfl):fUn b fa st=some (r',s):=by
 simp only[fUn,h1,h2,h3,hz,Xa]
def Gu{a b:List D}(h:a.length+b.length<=1000000):cz (.lst a) (.lst b)=some (.lst (a++b),true):=by
 have e1:sI (.lst a) (.lst b)=none:=rfl;have e2:sJ (.lst a) (.lst b)=none:=rfl;have e3:wO (.lst a) (.lst b)=some (.lst (a++b),true):=by simp only[wO];rw[Ag h]
 unfold cz orD;rw[e1,e2,e3]
def JT{xs ys:List D}(h:xs.length+ys.length<=1000000):t9 (.lst xs) [.tup ys]=some (.non,.lst (xs++ys)):=by
 show(if xs.length+ys.length<=1000000 then some (D.non,D.lst (xs++ys)) else none)=_;rw[Ag h]
end VF
namespace K65
open PySem L2 VF VL VF22
def y4{d:D}{ds:List D}:bSl (.tup (d::ds)) (some 1) none=some (.tup ds,false):=by
 have h:=qD (d::ds) (some 1) none;have e1:zU (.tup (d::ds)) (some 1) none=none:=rfl;have c:¬ (HT.sIx (d::ds).length 0 (some 1)=0/\HT.sIx (d::ds).length (d::ds).length none=(d::ds).length):=fun z=>by
  have m:min 1 (d::ds).length=0:=(HT.sIx_nat (d::ds).length 0 1).symm.trans z.1;rw[Qa]at m;lia
 have e2:pN (.tup (d::ds)) (some 1) none=some (.tup (cutD (d::ds) (some 1) none),false):=by simp only[pN,Al c]
 have e3:cutD (d::ds) (some 1) none=ds:=kK (i:=1) (by rw[Qa];lia)
 rw[e3]at e2;show orS zU (orS pN Dr) _ _ _=_;simp only[orS,e1,e2]
def eV{l:List D}{n:Nat}(hl:l.length<=n)(hn:n<=1000000:=by decide){b:Bool}(hb:b=true):(b&&decide (l.length<=1000000))=true:=by rw[hb,Ad (by lia)];rfl
def JU{α:Type}{f:α->D}{xs:List α}{i:Nat}{x:α}(h:xs[i]?=some x):atI (xs.map f) (i:Int)=some (f x):=cb (xs:=xs.map f) (j:=i) (by rw[Qd,h];rfl)
def Ls(a b:End):(aL [a,b]).length=2:=(bj [a,b]).2.length_eq
noncomputable section
def inL(c:Nat):Bool:=!(Builtin.Str.occurrences ("abcdefghijklmnopqrstuvwxyz":Str) ⟨#[c]⟩ 0 ("abcdefghijklmnopqrstuvwxyz":Str).length 1).isEmpty
def Gv:∀c:Nat,c<123->97<=c->inL c=true:=by decide +kernel
def okT(x:Str):Bool:=(decide (1<=x.length)&&decide (x.length<=6))&&x.cps.toList.all inL
def JV{x:Str}(h:Nm x):okT x=true:=by
 obtain⟨h1,h2,h3⟩:=h;unfold okT;rw[Ad h1,Ad h2];simp only[Bool.and_self,Bh];rw[Qf];intro c hc;have:=h3 c hc;exact Gv c (by lia) this.1
theorem len_str{x:Str}(h:x.length<=1000000):cC [.str x]=some (.int (x.length:Int),false):=by
 first
  | rfl
  | (unfold cC orC;simp[Ds,D.seq,Dt,h])
def EH{x:Str}(h:x.length<=1000000):lJ [.str x]=some (.bl (okT x),false):=by
 have hc:bt 1 [] (fIA (ae 0)) (gN 0) aN (fOp bIn (ae 0) (fC (.str "abcdefghijklmnopqrstuvwxyz"))) [.v (.str x)]=some (.f (.lst (x.cps.toList.map fun c=>D.bl (inL c))),[.v (.str x)]):=by
  refine aO (s1:=[.v (.str x)]) (ds:=nr x) (s2:=[.e]) rfl (by
   have:(nr x).length=x.length:=by unfold nr;rw[Za,Zd];rfl
   rw[this,Ad h];rfl) ?_
  exact aK (fun c=>D.str ⟨#[c]⟩) (fun c=>D.bl (inL c)) [.e] x.cps.toList fun c _=>⟨[.v (.str ⟨#[c]⟩)],[.v (.str ⟨#[c]⟩)],.d (.bl (inL c)),[.v (.str ⟨#[c]⟩)],[.v (.str ⟨#[c]⟩)],rfl,rfl,aq rfl rfl rfl rfl rfl,rfl,rfl⟩
 have ch:ax (mx bLe bLe (fC (.int 1)) (fCB cC (aa (ae 0) ah)) (fC (.int 6))) [.v (.str x)]=some (decide (1<=x.length)&&decide (x.length<=6),[.v (.str x)]):=by
  have l1:fCB cC (aa (ae 0) ah) [.v (.str x)]=some (.d (.int (x.length:Int)),[.v (.str x)]):=aI rfl rfl (len_str h);have b1:bLe (.int 1) (.int (x.length:Int))=some (.bl (decide (1<=x.length)),false):=by
   show some (D.bl (decide ((1:Int)<=(x.length:Int))),false)=_;congr 3;rw[decide_eq_decide];lia
  have b2:bLe (.int (x.length:Int)) (.int 6)=some (.bl (decide (x.length<=6)),false):=by
   show some (D.bl (decide ((x.length:Int)<=6)),false)=_;congr 3;rw[decide_eq_decide];lia
  refine aC (r:=.d (.bl (decide (1<=x.length)&&decide (x.length<=6)))) ?_ rfl;unfold mx;simp only[fC,l1,Xa,cont,b1];cases decide (1<=x.length) with
  | false=>rfl
  | true =>
   simp only[b2,Xa];rfl
 refine ay (o:=.rt (.d (.bl (okT x))) [.v (.str x)]) rfl ?_ rfl;unfold okT;cases e:(decide (1<=x.length)&&decide (x.length<=6)) with
 | false =>
  rw[e]at ch;exact bJ (dm (s:=[.v (.str x)]) (nC (s:=[.v (.str x)]) rfl (f9 ch)) rfl)
 | true =>
  rw[e]at ch;refine am (bq (s:=[.v (.str x)]) (nC (s:=[.v (.str x)]) rfl (f9 ch)) rfl) ?_;exact av (aI (ad hc rfl) rfl (ED inL x.cps.toList))
theorem LO{j:Jnt}(h:j.length=1∨j.length=2):(∃a,j=[a])∨∃a b,j=[a,b]:=by
 cases j with
 | nil=>rcases h with z|z<;>cases z
 | cons a r =>
  cases r with
  | nil=>exact .inl ⟨a,rfl⟩
  | cons b r =>
   cases r with
   | nil=>exact .inr ⟨a,b,rfl⟩
   | cons c r =>
    rw[Qa,Qa,Qa]at h;lia
def EI(es:List End):(aL es).length=es.length:=(bj es).2.length_eq
def JW(j:Jnt):cC [jD j]=some (.int (j.length:Int),false):=by
 show some (D.int (((j.map eD).length:Nat):Int),false)=_;rw[Za]
def EJ{x:Str}(h:Nm x):lJ [.str x]=some (.bl true,false):=by
 rw[EH (by have:=h.2.1;lia),JV h]
def EOk(e:End):Prop:=Nm e.1/\(e.2=0∨e.2=1)
def Gw{e:End}(h:EOk e):qP [eD e]=some (.bl true,false):=by
 obtain⟨x,i⟩:=e;obtain⟨h1,h2⟩:=h;refine ay (o:=.rt (.d (.bl true)) [.v (eD (x,i))]) rfl ?_ rfl;refine am (bq (s:=[.v (eD (x,i))]) (nC (s:=[.v (eD (x,i))]) rfl (nC (s:=[.v (eD (x,i))]) rfl (f9 (aC (az (ad (aq rfl rfl rfl rfl (aJ (i:=0) rfl)) rfl) rfl (EJ h1) rfl) rfl)))) rfl) ?_;rcases h2 with h2|h2
 ·have h2:i=0:=h2;subst h2;exact av (ga (s:=[.v (eD (x,0))]) rfl rfl rfl)
 ·have h2:i=1:=h2;subst h2;exact av (ga (s:=[.v (eD (x,1))]) rfl rfl rfl)
def EK{d:D}{qs:List (D×D)}(hz:fIZ (aa (ae 0) (aa (fSl bSl (ae 0) (bM (fC (.int 1))) oNo) ah)) [.v d]=some (qs.map fun q=>pr q.1 q.2,[.v d]))(hl:qs.length<=9)(hq:∀q∈qs,qJ q.1 q.2=some (.bl true,false)):cP [d]=some (.bl true,false):=by
 have ec:bB (gT 2 (gsC (gN 0) (gsC (gN 1) gsN))) aN jw 2 (qs.map fun q=>pr q.1 q.2) [.e,.e]=some (qs.map fun _=>D.bl true,[.e,.e]) :=
  aK (fg:=gT 2 (gsC (gN 0) (gsC (gN 1) gsN))) (fc:=aN) (fe:=jw) (k:=2) (fun q:D×D=>pr q.1 q.2) (fun _=>D.bl true) [.e,.e] qs fun q h =>
   ⟨[.v q.1,.v q.2],[.v q.1,.v q.2],.d (.bl true),[.v q.1,.v q.2],[.v q.1,.v q.2],rfl,rfl,aq rfl rfl rfl rfl (hq q h),rfl,rfl⟩
 refine ay (o:=.rt (.d (.bl true)) [.v d]) rfl (av (aI (z:=(.bl true,false)) (ad (aO hz ?_ ec) rfl) rfl ?_)) rfl
 ·show(true&&decide ((qs.map fun q=>pr q.1 q.2).length<=1000000))=true;rw[Za,Ad (by lia)];rfl
 ·show pO [.lst (qs.map fun _=>D.bl true)]=_;rw[qf];exact kI _
def y6{d:D}{qs:List (D×D)}(hz:fIZ (aa (ae 0) (aa (fSl bSl (ae 0) (bM (fC (.int 1))) oNo) ah)) [.v d]=some (qs.map fun q=>pr q.1 q.2,[.v d]))(hl:qs.length<=2)(hq:∀q∈qs,qJ q.1 q.2=some (.bl true,false)):cP [d]=some (.bl true,false):=EK hz (by lia) hq
def y7(x:D):cP [.tup [x]]=some (.bl true,false):=by
 refine y6 (qs:=[]) ?_ (by decide) fun q h=>by cases h
 have e1:(aa (ae 0) (aa (fSl bSl (ae 0) (bM (fC (.int 1))) oNo) ah)) [.v (.tup [x])]=some (_,_):=ad rfl (ad (dN rfl rfl rfl rfl y4) rfl);show((aa (ae 0) (aa (fSl bSl (ae 0) (bM (fC (.int 1))) oNo) ah)) [.v (.tup [x])]).bind _=_;rw[e1];rfl
def y8{x y:D}(h:qJ x y=some (.bl true,false)):cP [.tup [x,y]]=some (.bl true,false):=by
 refine y6 (qs:=[(x,y)]) ?_ (by show 1<=2;decide) fun q hq=>by rw[Wa.mp hq];exact h
 have e1:(aa (ae 0) (aa (fSl bSl (ae 0) (bM (fC (.int 1))) oNo) ah)) [.v (.tup [x,y])]=some (_,_):=ad rfl (ad (dN rfl rfl rfl rfl y4) rfl);show((aa (ae 0) (aa (fSl bSl (ae 0) (bM (fC (.int 1))) oNo) ah)) [.v (.tup [x,y])]).bind _=_;rw[e1];rfl
def Gx{x y:D}(h:qJ x y=some (.bl true,false)):cP [.lst [x,y]]=some (.bl true,false):=by
 refine y6 (qs:=[(x,y)]) ?_ (by show 1<=2;decide) fun q hq=>by rw[Wa.mp hq];exact h
 rfl
def ltE{a b:End}(h:ltN 40 (eD a) (eD b)=true):qJ (eD a) (eD b)=some (.bl true,false):=by
 rw[D9 (qY 38 a) (qY 38 b) (y3 38 a b),h]
def EL{j:Jnt}(h:∀e∈j,EOk e):bB (gN 0) aN gq 1 (j.map eD) [.e]=some (j.map fun _=>D.bl true,[.e]) :=
 aK (fg:=gN 0) (fc:=aN) (fe:=gq) (k:=1) eD (fun _=>D.bl true) [.e] j fun e he=>⟨[.v (eD e)],[.v (eD e)],.d (.bl true),[.v (eD e)],[.v (eD e)],rfl,rfl,az rfl rfl (Gw (h e he)) rfl,rfl,rfl⟩
def Ck{j:Jnt}(hl:j.length=1∨j.length=2)(h:∀e∈j,EOk e)(hr:cP [jD j]=some (.bl true,false)):fk [jD j]=some (.bl true,false):=by
 refine ay (o:=.rt (.d (.bl true)) [.v (jD j)]) rfl ?_ rfl;have t:ax (fOp kH (fCB cC (aa (ae 0) ah)) (cr (aa (fC (.int 1)) (aa (fC (.int 2)) ah)))) [.v (jD j)]=some (false,[.v (jD j)]):=by
  rcases hl with hl|hl
  ·exact aC (aq (aI rfl rfl (JW j)) rfl rfl rfl (z:=(.bl false,false)) (by rw[hl];rfl)) rfl
  ·exact aC (aq (aI rfl rfl (JW j)) rfl rfl rfl (z:=(.bl false,false)) (by rw[hl];rfl)) rfl
 refine am (bq (nC (s:=[.v (jD j)]) rfl t) rfl) ?_;refine av (ga (aI (ad (aO (cV rfl rfl) ?_ (EL h)) rfl) rfl (by rw[qf];exact kI _)) rfl (az rfl rfl hr rfl))
 show(true&&decide ((j.map eD).length<=1000000))=true;rw[Za,Ad (by lia)];rfl
def EM{js:List Jnt}(hl:js.length=1∨js.length=2)(h:∀j∈js,fk [jD j]=some (.bl true,false))(hr:cP [.tup (js.map jD)]=some (.bl true,false)):i6 [.tup (js.map jD)]=some (.bl true,false):=by
 have ec:bB (gN 0) aN iw 1 (js.map jD) [.e]=some (js.map fun _=>D.bl true,[.e]) :=
  aK (fg:=gN 0) (fc:=aN) (fe:=iw) (k:=1) jD (fun _=>D.bl true) [.e] js fun e he=>⟨[.v (jD e)],[.v (jD e)],.d (.bl true),[.v (jD e)],[.v (jD e)],rfl,rfl,az rfl rfl (h e he) rfl,rfl,rfl⟩
 have ln:cC [.tup (js.map jD)]=some (.int (js.length:Int),false):=by
  show some (D.int (((js.map jD).length:Nat):Int),false)=_;rw[Za]
 refine ay (o:=.rt (.d (.bl true)) [.v (.tup (js.map jD))]) rfl ?_ rfl;have t:ax (fOp kH (fCB cC (aa (ae 0) ah)) (cr (aa (fC (.int 1)) (aa (fC (.int 2)) ah)))) [.v (.tup (js.map jD))]=some (false,[.v (.tup (js.map jD))]):=by
  rcases hl with hl|hl
  ·exact aC (aq (aI rfl rfl ln) rfl rfl rfl (z:=(.bl false,false)) (by rw[hl];rfl)) rfl
  ·exact aC (aq (aI rfl rfl ln) rfl rfl rfl (z:=(.bl false,false)) (by rw[hl];rfl)) rfl
 refine am (bq (nC (s:=[.v (.tup (js.map jD))]) rfl t) rfl) ?_;refine av (ga (aI (ad (aO (cV rfl rfl) ?_ ec) rfl) rfl (by rw[qf];exact kI _)) rfl (az rfl rfl hr rfl))
 show(true&&decide ((js.map jD).length<=1000000))=true;rw[Za,Ad (by lia)];rfl
def vS{js:List Jnt}{L:List Int}(hl:js.length<=2)(pm:L.Perm (js.map fun j=>(j.length:Int)))(pw:L.Pairwise (·<=·)):p8 [.tup (js.map jD)]=some (.tup (L.map D.int),false):=by
 have ec:bB (gN 0) aN lK 1 (js.map jD) [.e]=some (js.map fun j=>D.int (j.length:Int),[.e]) :=
  aK (fg:=gN 0) (fc:=aN) (fe:=lK) (k:=1) jD (fun j=>D.int (j.length:Int)) [.e] js fun e _=>⟨[.v (jD e)],[.v (jD e)],.d (.int (e.length:Int)),[.v (jD e)],[.v (jD e)],rfl,rfl,aI rfl rfl (JW e),rfl,rfl⟩
 refine ay (o:=.rt (.d (.tup (L.map D.int))) [.v (.tup (js.map jD))]) rfl ?_ rfl;refine av (aI (ad (aI (ad (aO (cV rfl rfl) ?_ ec) rfl) rfl (Gs (by rw[Za];lia) pm pw ?_)) rfl) rfl rfl)
 ·show(true&&decide ((js.map jD).length<=1000000))=true;rw[Za,Ad (by lia)];rfl
 ·show some (js.map fun j=>D.int (j.length:Int))=_;rw[Vc];rfl
end
end K65
namespace K65
open PySem L2 VF VL VF22
noncomputable section
def sX{js:List Jnt}(hl:js.flatten.length<64):i7 [.tup (js.map jD)]=some (.lst ((aL js.flatten).map eD),true):=by
 obtain⟨sf,e,s2,rfl,_⟩:=oH (fg:=gN 2) (B:=kL) jD js
  (fun gone st=>∃s2:Sl,st=[.v (.tup (js.map jD)),.o (.lst (gone.flatten.map eD)),s2]/\s2.isIo=false)
  (by
   rintro gone j rest st ha ⟨s2,rfl,q⟩;have hg:=congrArg (fun l=>l.flatten.length) ha;simp only[List.flatten_append,List.flatten_cons,Qb]at hg;refine⟨_,[.v (.tup (js.map jD)),.o (.lst ((gone++[j]).flatten.map eD)),.v (jD j)],fS rfl q,?_,.v (jD j),rfl,rfl⟩;refine iq (wV rfl rfl rfl rfl rfl rfl rfl (JT (ys:=j.map eD) (by rw[Za,Za];lia)) ?_)
   rw[List.flatten_append,Wd,List.flatten_singleton];rfl)
  js [] [.v (.tup (js.map jD)),.o (.lst []),.e] rfl ⟨.e,rfl,rfl⟩
 refine ay (o:=.rt (.f (.lst ((aL js.flatten).map eD))) [.v (.tup (js.map jD)),.o (.lst (js.flatten.map eD)),s2]) rfl ?_ rfl;exact am (cO (cc rfl rfl (by show 0<=1000000;decide)) rfl) (am (oE (cV rfl rfl) e) (av (aI rfl rfl (gB js.flatten hl rfl))))
def Hw{a b:End}(h:a≠b):eD a≠eD b:=fun z=>h (by have:=congrArg unE z;exact this)
def Lu{a b:Jnt}(h:a≠b):jD a≠jD b:=fun z=>h (by have:=congrArg unJ z;rwa [oY,oY]at this)
def xA{L:List End}(so:aL L=L)(nd:L.Nodup):L.Pairwise fun a b=>ltN 40 (eD a) (eD b)=true:=by
 have hs:=sV (JR L);rw[(bj L).1,so]at hs;have h2:L.Pairwise fun a b=>ltN 40 (eD b) (eD a)=false:=Yi.mp hs;refine List.Pairwise.imp ?_ (List.Pairwise.and h2 nd);rintro a b ⟨h1,hn⟩;rcases(mC 40).tri (y3 38 a b) with z|z|z
 ·exact absurd z (Hw hn)
 ·exact z
 ·rw[h1]at z;cases z
def Gy{L:List Jnt}(so:cR L=L)(nd:L.Nodup):L.Pairwise fun a b=>ltN 40 (jD a) (jD b)=true:=by
 have hs:=sV (Gr L);rw[(cH L).1,so]at hs;have h2:L.Pairwise fun a b=>ltN 40 (jD b) (jD a)=false:=Yi.mp hs;refine List.Pairwise.imp ?_ (List.Pairwise.and h2 nd);rintro a b ⟨h1,hn⟩;rcases(mC 40).tri (EC 37 a b) with z|z|z
 ·exact absurd z (Lu hn)
 ·exact z
 ·rw[h1]at z;cases z
def ltJ{a b:Jnt}(h:ltN 40 (jD a) (jD b)=true):qJ (jD a) (jD b)=some (.bl true,false):=by
 rw[D9 (y0 37 a) (y0 37 b) (EC 37 a b),h]
structure JOk(j:Jnt):Prop where
 hl:j.length=1∨j.length=2
 ok:∀e∈j,EOk e
 nd:j.Nodup
 so:aL j=j
structure HOk(js:List Jnt):Prop where
 hl:js.length=1∨js.length=2
 ok:∀j∈js,JOk j
 nd:js.Nodup
 so:cR js=js
def vT{j:Jnt}(h:JOk j):fk [jD j]=some (.bl true,false):=by
 refine Ck h.hl h.ok ?_;rcases LO h.hl with⟨a,rfl⟩|⟨a,b,rfl⟩
 ·exact y7 _
 ·exact y8 (ltE ((Ve.mp (xA h.so h.nd)).1 b (BS b)))
def y9{js:List Jnt}(h:HOk js):i6 [.tup (js.map jD)]=some (.bl true,false):=by
 refine EM h.hl (fun j hj=>vT (h.ok j hj)) ?_;have two:=Gy h.so h.nd;rcases h.hl with z|z
 ·obtain⟨j,rfl⟩:=List.length_eq_one_iff.mp z;exact y7 _
 ·match js,z with
  | [j,k],_=>exact y8 (ltJ ((Ve.mp two).1 k (BS k)))
theorem Cn{L:List End}(hl:2<=L.length/\L.length<=4)(lt:L.Pairwise fun a b=>ltN 40 (eD a) (eD b)=true):cP [.lst (L.map eD)]=some (.bl true,false):=by
 match L,hl with
 | [a,b],_ =>
  exact Gx (ltE ((Ve.mp lt).1 b (by simp)))
 | [a,b,c],_ =>
  obtain⟨l1,lt⟩:=Ve.mp lt;obtain⟨l2,_⟩:=Ve.mp lt;refine y6 (qs:=[(eD a,eD b),(eD b,eD c)]) rfl (by show 2<=2;decide) fun q hq=>?_
  rcases Va.mp hq with z|z
  ·rw[z];exact ltE (l1 b (by simp))
  ·rw[Wa.mp z];exact ltE (l2 c (by simp))
 | [a,b,c,d],_ =>
  obtain⟨l1,lt⟩:=Ve.mp lt;obtain⟨l2,lt⟩:=Ve.mp lt;obtain⟨l3,_⟩:=Ve.mp lt;refine EK (qs:=[(eD a,eD b),(eD b,eD c),(eD c,eD d)]) rfl (by show 3<=9;decide) fun q hq=>?_
  rcases Va.mp hq with z|z
  ·rw[z];exact ltE (l1 b (by simp))
  ·rcases Va.mp z with z|z
   ·rw[z];exact ltE (l2 c (by simp))
   ·rw[Wa.mp z];exact ltE (l3 d (by simp))
def za{n:Nat}(js:List Jnt):Pl (n+4) (.tup (js.map jD)):=.tup fun d hd=>by
 obtain⟨j,_,rfl⟩:=Yb.mp hd;exact y0 n j
def dfm:List (List Int×List Int):=[([2],[1,1]),([1,1],[2]),([2,2],[2,2]),([1,2],[1,2])]
def dD(g c:List Jnt):D:=.tup [.tup (g.map jD),.tup (c.map jD)]
def qg{g c:List Jnt}{L M:List Int}(hg:HOk g)(hc:HOk c)(nd:g.flatten.Nodup)(pm:c.flatten.Perm g.flatten)(ln:2<=g.flatten.length/\g.flatten.length<=4)
  (pL:L.Perm (g.map fun j=>(j.length:Int)))(wL:L.Pairwise (·<=·))(pM:M.Perm (c.map fun j=>(j.length:Int)))(wM:M.Pairwise (·<=·))(fm:(L,M)∈dfm)(ne:g≠c):lL [dD g c]=some (.bl true,false):=by
 have g2:g.length<=2:=by rcases hg.hl with z|z<;>lia
 have c2:c.length<=2:=by rcases hc.hl with z|z<;>lia
 have ec:bB (gN 0) aN iy 1 [.tup (g.map jD),.tup (c.map jD)] [.e]=some ([.bl true,.bl true],[.e]) :=
  lD (fg:=gN 0) (fc:=aN) (fe:=iy) (k:=1) (fun _=>D.bl true) [.tup (g.map jD),.tup (c.map jD)] [.e] fun x hx=>by
   have hx':i6 [x]=some (.bl true,false):=by
    rcases Va.mp hx with z|z
    ·rw[z];exact y9 hg
    ·rw[Wa.mp z];exact y9 hc
   exact⟨[.v x],[.v x],.d (.bl true),[.v x],[.v x],rfl,rfl,az rfl rfl hx' rfl,rfl,rfl⟩
 have so:=mX pm;have e0:=sX (js:=g) (by lia)
 have e1:i7 [.tup (c.map jD)]=some (.lst ((aL g.flatten).map eD),true):=by rw[sX (js:=c) (by rw[pm.length_eq];lia),so]
 have again:aL (aL g.flatten)=aL g.flatten:=mX (bj _).2;have ri:=Cn (L:=aL g.flatten) (by rw[EI];exact ln) (xA again ((bj _).2.nodup_iff.mpr nd))
 have nl:oG (.lst ((aL g.flatten).map eD)) (.lst ((aL g.flatten).map eD))=some (.bl false,false):=EE (n:=2) (fun d hd=>by
  obtain⟨e,_,rfl⟩:=Yb.mp hd
  exact qY 0 e) (by decide)
 have z0:=vS g2 pL wL;have z1:=vS c2 pM wM
 have nt:oG (.tup (g.map jD)) (.tup (c.map jD))=some (.bl true,false):=JS (c:=false) (by
  have:=hg.hl;intro z;have z:=congrArg List.length z;rw[Za,Yg]at z
  lia) (za (n:=36) g) (za (n:=36) c) ⟨fun z=>(by cases z),fun z=>absurd (by
   injection z with z
   have:=congrArg (List.map unJ) z;rw[Vc,Vc,show(unJ ∘ jD)=id from funext oY,BF,BF]at this
   exact this) ne⟩
 refine ay (o:=.rt (.d (.bl true)) [.v (dD g c),.v (.tup (g.map jD)),.v (.tup (c.map jD)),.o (.lst ((aL g.flatten).map eD))]) rfl ?_ rfl;refine am (bq (s:=[.v (dD g c),.e,.e,.e]) (nC (s:=[.v (dD g c),.e,.e,.e]) rfl (nC (aC (aq (aI rfl rfl (z:=(.int 2,false)) rfl) rfl rfl rfl (EF 2)) rfl) (f9 (aC (aI (ad (aO (cV rfl rfl) rfl ec) rfl) rfl (z:=(.bl true,false)) rfl) rfl)))) rfl) ?_;refine am (bm (aq rfl rfl rfl rfl (aJ (i:=0) rfl)) rfl) (am (bm (aq rfl rfl rfl rfl (aJ (i:=1) rfl)) rfl) (am (cO (aW rfl rfl e0) rfl) ?_));refine am (bq (nC (f9 (aC (az rfl rfl ri rfl) rfl)) (aC (aq rfl (aW rfl rfl e1) rfl rfl nl) rfl)) rfl) ?_;have hin:∀{e:D},e∈[D.tup [.tup [.int 2],.tup [.int 1,.int 1]],.tup [.tup [.int 1,.int 1],.tup [.int 2]],.tup [.tup [.int 2,.int 2],.tup [.int 2,.int 2]],.tup [.tup [.int 1,.int 2],.tup [.int 1,.int 2]]]->plB 40 e=true:=fun {e} he=>by
  simp only[Va,List.not_mem_nil,or_false]at he;rcases he with rfl|rfl|rfl|rfl<;>rfl
 have hm:D.tup [.tup (L.map D.int),.tup (M.map D.int)]∈[D.tup [.tup [.int 2],.tup [.int 1,.int 1]],.tup [.tup [.int 1,.int 1],.tup [.int 2]],.tup [.tup [.int 2,.int 2],.tup [.int 2,.int 2]],.tup [.tup [.int 1,.int 2],.tup [.int 1,.int 2]]]:=by
  have:=Bb (f:=fun p:List Int×List Int=>D.tup [.tup (p.1.map D.int),.tup (p.2.map D.int)]) fm;exact this
 exact av (ga (Jy (b:=true) (bO (ad (aW rfl rfl z0) (ad (aW rfl rfl z1) rfl)) rfl (by show 2<=1000000;decide)) rfl (EG (hin hm)) (fun e he=>EG (hin he)) ⟨fun _=>hm,fun _=>rfl⟩) rfl (aq rfl rfl rfl rfl nt))
def fI{φ:D}{k:Int}(hφ:ck φ)(hk:k=3∨k=4):∃d φ',bC φ [.int k]=some ((.int d,false),φ')/\0<=d/\(k=3->d<1000)/\d<10000/\ck φ':=by
 obtain⟨i,φ1,e1,i0,i1,f1⟩:=bU (n:=k+1) hφ (by lia) (by lia)
 have hn:∃n:Int,atI [D.int 2,.int 10,.int 100,.int 1000,.int 10000] i=some (.int n)/\0<n/\n<=10000/\(k=3->n<=1000):=by
  have:i=0∨i=1∨i=2∨i=3∨i=4:=by lia
  rcases this with rfl|rfl|rfl|rfl|rfl
  ·exact⟨2,rfl,by decide,by decide,fun _=>by decide⟩
  ·exact⟨10,rfl,by decide,by decide,fun _=>by decide⟩
  ·exact⟨100,rfl,by decide,by decide,fun _=>by decide⟩
  ·exact⟨1000,rfl,by decide,by decide,fun _=>by decide⟩
  ·exact⟨10000,rfl,by decide,by decide,fun h=>by lia⟩
 obtain⟨n,hn,n0,n1,n2⟩:=hn;obtain⟨d,φ2,e2,d0,d1,f2⟩:=bU (n:=n) f1 n0 n1;refine⟨d,φ2,?_,d0,fun h=>by have:=n2 h;lia,by lia,f2⟩
 refine bb (o:=.rt (.d (.int d)) [.io φ2,.v (.int k)]) rfl ?_ rfl;exact av (aX rfl rfl (ad (aq (cc rfl rfl (by show 5<=1000000;decide)) (aX rfl rfl (ad (aq rfl rfl rfl rfl rfl) rfl) rfl rfl rfl e1) rfl rfl (bS hn)) rfl) rfl rfl rfl e2)
def qh{φ:D}(hφ:ck φ):∃d φ',fD φ []=some ((.int d,false),φ')/\0<=d/\d<=12/\ck φ':=by
 obtain⟨i,φ1,e1,i0,i1,f1⟩:=bU (n:=6) hφ (by decide) (by decide)
 obtain⟨j,φ2,e2,j0,j1,f2⟩:=bU (n:=8) f1 (by decide) (by decide)
 by_cases c:j=7
 ·subst c;obtain⟨k,φ3,e3,k0,k1,f3⟩:=bU (n:=7) f2 (by decide) (by decide)
  refine⟨6+k,φ3,?_,by lia,by lia,f3⟩
  refine bb (o:=.rt (.d (.int (6+k))) [.io φ3,.v (.int (6+k))]) rfl ?_ rfl;refine am (bm (aX rfl rfl rfl rfl rfl rfl e1) rfl) ?_;refine am (s:=[.io φ3,.v (.int (6+k))]) (dm (s:=[.io φ2,.v (.int i)]) (aC (aq (aX rfl rfl rfl rfl rfl rfl e2) rfl rfl rfl rfl) rfl) ?_) rfl;exact bm (aq rfl (aX rfl rfl rfl rfl rfl rfl e3) rfl rfl rfl) rfl
 ·refine⟨i,φ2,?_,i0,by lia,f2⟩
  refine bb (o:=.rt (.d (.int i)) [.io φ2,.v (.int i)]) rfl ?_ rfl;have t:decide (V.int j=V.int 7)=false:=Ae fun z=>c (V.int.inj z);exact am (bm (aX rfl rfl rfl rfl rfl rfl e1) rfl) (am (bq (s:=[.io φ2,.v (.int i)]) (cM (b:=decide (V.int j=V.int 7)) (aC (aq (aX rfl rfl rfl rfl rfl rfl e2) rfl rfl rfl rfl) rfl) t) rfl) rfl)
def JX{e:End}{es:List End}:eD e∈es.map eD↔e∈es:=by
 constructor
 ·intro h;obtain⟨f,hf,q⟩:=Yb.mp h;have:=congrArg unE q;rw[xv,xv]at this;rw[← this];exact hf
 ·exact fun h=>Bb h
def JY(e:End)(es:List End):wZ (eD e) (.lst (es.map eD))=some (.bl (decide (e∈es)),false):=by
 have e1:bIn (eD e) (.lst (es.map eD))=none:=rfl;unfold wZ orD;rw[e1];unfold FW;dsimp only[D.seq];have dc:∀i:Decidable (eD e∈es.map eD),@decide _ i=decide (e∈es):=fun i=>by rw[Ye,decide_eq_true_eq,decide_eq_true_eq];exact JX
 rw[Ag ⟨qY 38 e,fun d hd=>by obtain⟨k,_,rfl⟩:=Yb.mp hd;exact qY 38 k⟩,dc]
 rfl
def lX(xs:List Str)(a:Nat):End:=(xs.getD (a / 2) "",((a % 2:Nat):Int))
def EN{xs:List Str}(nd:xs.Nodup){a b:Nat}(ha:a<2*xs.length)(hb:b<2*xs.length)(h:lX xs a=lX xs b):a=b:=by
 unfold lX at h;injection h with h1 h2;have ia:a / 2<xs.length:=by lia
 have ib:b / 2<xs.length:=by lia
 rw[Vd,Vd,Ya ia,Ya ib]at h1;have h3:xs[a / 2]=xs[b / 2]:=h1;have h4:a / 2=b / 2:=(BC nd).mp h3;have h5:a % 2=b % 2:=by exact_mod_cast h2
 lia
def Gz{xs:List Str}(hx:∀x∈xs,Nm x){a:Nat}(ha:a<2*xs.length):EOk (lX xs a):=by
 have ia:a / 2<xs.length:=by lia
 refine⟨?_,?_⟩
 ·show Nm (xs.getD (a / 2) "");rw[Vd,Ya ia];exact hx _ (Yj ia)
 ·show((a % 2:Nat):Int)=0∨((a % 2:Nat):Int)=1;lia
def vU{xs:List Str}(nd:xs.Nodup){es:List End}{a0 j:Nat}(hj:j<=2*xs.length)(h:∀i,i<j->lX xs ((a0+i) % (2*xs.length))∈es):j<=es.length:=by
 by_cases c:j=0
 ·lia
 have:=qx ((List.range j).map fun i=>lX xs ((a0+i) % (2*xs.length))) es (by
  show List.Pairwise _ _;rw[Yi];refine List.Pairwise.imp_of_mem (fun {x y} hx hy hne e=>hne ?_) List.nodup_range;have hx:=Xh.mp hx;have hy:=Xh.mp hy;have p:0<2*xs.length:=by lia
  have e:=EN nd (Nat.mod_lt _ p) (Nat.mod_lt _ p) e;have m1:=Nat.div_add_mod (a0+x) (2*xs.length);have m2:=Nat.div_add_mod (a0+y) (2*xs.length);rw[e]at m1;rcases Nat.lt_trichotomy ((a0+x) / (2*xs.length)) ((a0+y) / (2*xs.length)) with z|z|z
  ·have:2*xs.length*((a0+x) / (2*xs.length)+1)<=2*xs.length*((a0+y) / (2*xs.length)):=Nat.mul_le_mul_left _ z;rw[Nat.mul_add,Nat.mul_one]at this;lia
  ·rw[z]at m1;lia
  ·have:2*xs.length*((a0+y) / (2*xs.length)+1)<=2*xs.length*((a0+x) / (2*xs.length)):=Nat.mul_le_mul_left _ z;rw[Nat.mul_add,Nat.mul_one]at this;lia) (fun x hx=>by
  obtain⟨i,hi,rfl⟩:=Yb.mp hx
  exact h i (Xh.mp hi))
 rw[Za,List.length_range]at this;exact this
end
end K65
namespace VF
open PySem L2
def br(xs:List D):aY [.lst xs]=some (.tup xs,false):=rfl
end VF
namespace K65
open PySem L2 VF VL VF22
noncomputable section
abbrev nmD(xs:List Str):D:=.lst (xs.map D.str)
def EO{xs:List Str}{a b c d:Sl}:fOp nA (fC (.int 2)) (fCB cC (aa (ae 1) ah)) [a,.v (nmD xs),b,c,d]=some (.d (.int ((2*xs.length:Nat):Int)),[a,.v (nmD xs),b,c,d]):=by
 refine aq rfl (aI rfl rfl rfl) rfl rfl (z:=(.int ((2*xs.length:Nat):Int),false)) ?_;show nA (.int 2) (.int ((xs.map D.str).length:Int))=_;rw[uz (.inl ⟨by decide,by decide⟩),Za]
 push_cast
 rfl
def zb{xs:List Str}{b:Nat}(hb:b<2*xs.length){s0 s2 s3:Sl}:cr (aa (fOp bIx (ae 1) (fOp oA (ae 4) (fC (.int 2)))) (aa (fOp jj (ae 4) (fC (.int 2))) ah)) [s0,.v (nmD xs),s2,s3,.v (.int b)]=some (.d (eD (lX xs b)),[s0,.v (nmD xs),s2,s3,.v (.int b)]):=by
 have ib:b / 2<xs.length:=by lia
 have hv:atI (xs.map D.str) ((b:Int) / 2)=some (.str (xs.getD (b / 2) "")):=by
  rw[show((b:Int) / 2)=((b / 2:Nat):Int) from rfl];refine JU ?_;rw[Vd,Ya ib];rfl
 exact bO (ad (aq rfl (aq rfl rfl rfl rfl (Ey ⟨by decide,by decide⟩)) rfl rfl (bS hv)) (ad (aq rfl rfl rfl rfl (uA (by decide))) rfl)) rfl (by show 2<=1000000;decide)
def GA{φ:D}{xs:List Str}{m:Nat}{es:List End}(nd:xs.Nodup)(hl:es.length<2*xs.length)(hs:es.length<=10){a:Nat}(ha:a<2*xs.length) :
  ∃b:Nat,sWh (ax (fOp wZ (cr (aa (fOp bIx (ae 1) (fOp oA (ae 4) (fC (.int 2)))) (aa (fOp jj (ae 4) (fC (.int 2))) ah))) (ae 3))) cW 300 [.io φ,.v (nmD xs),.v (.int m),.o (.lst (es.map eD)),.v (.int a)]=some (.nx [.io φ,.v (nmD xs),.v (.int m),.o (.lst (es.map eD)),.v (.int b)])/\b<2*xs.length/\lX xs b∉es:=by
 have p:0<2*xs.length:=by lia
 obtain⟨sf,ew,b,rfl,hb,hn⟩:=ua (f:=ax (fOp wZ (cr (aa (fOp bIx (ae 1) (fOp oA (ae 4) (fC (.int 2)))) (aa (fOp jj (ae 4) (fC (.int 2))) ah))) (ae 3))) (B:=cW)
  (fun n s=>∃j:Nat,s=[.io φ,.v (nmD xs),.v (.int m),.o (.lst (es.map eD)),.v (.int (((a+j) % (2*xs.length):Nat):Int))]/\n+j=es.length+1/\∀i,i<j->lX xs ((a+i) % (2*xs.length))∈es)
  (fun s=>∃b:Nat,s=[.io φ,.v (nmD xs),.v (.int m),.o (.lst (es.map eD)),.v (.int b)]/\b<2*xs.length/\lX xs b∉es)
  (by
   rintro n s ⟨j,rfl,hn,hj⟩;have hb:=Nat.mod_lt (a+j) p;have tv:ax (fOp wZ (cr (aa (fOp bIx (ae 1) (fOp oA (ae 4) (fC (.int 2)))) (aa (fOp jj (ae 4) (fC (.int 2))) ah))) (ae 3)) [.io φ,.v (nmD xs),.v (.int m),.o (.lst (es.map eD)),.v (.int (((a+j) % (2*xs.length):Nat):Int))]=some (decide (lX xs ((a+j) % (2*xs.length))∈es),[.io φ,.v (nmD xs),.v (.int m),.o (.lst (es.map eD)),.v (.int (((a+j) % (2*xs.length):Nat):Int))]) :=
    aC (aq (zb hb) rfl rfl rfl (JY _ es)) rfl
   by_cases c:lX xs ((a+j) % (2*xs.length))∈es
   ·right;have hj1:∀i,i<j+1->lX xs ((a+i) % (2*xs.length))∈es:=fun i hi=>by
     by_cases e:i=j
     ·rw[e];exact c
     ·exact hj i (by lia)
    have jl:j+1<=es.length:=by
     by_cases q:j+1<=2*xs.length
     ·exact vU nd q hj1
     ·have:=vU (es:=es) (a0:=a) (j:=2*xs.length) nd (Xb _) fun i hi=>hj1 i (by lia)
      lia
    refine⟨_,[.io φ,.v (nmD xs),.v (.int m),.o (.lst (es.map eD)),.v (.int (((a+(j+1)) % (2*xs.length):Nat):Int))],n-1,cM tv (Ad c),?_,by lia,j+1,rfl,by lia,hj1⟩
    refine bm (aq (aq rfl rfl rfl rfl rfl) EO rfl rfl (z:=(.int (((a+(j+1)) % (2*xs.length):Nat):Int),false)) ?_) rfl;show jj (.int ((((a+j) % (2*xs.length):Nat):Int)+1)) (.int ((2*xs.length:Nat):Int))=_;rw[uA (by lia),← Nat.add_assoc,← Nat.mod_add_mod (a+j) (2*xs.length) 1]
    rfl
   ·left
    exact⟨_,cM tv (Ae c),_,rfl,hb,c⟩)
  300 (es.length+1) [.io φ,.v (nmD xs),.v (.int m),.o (.lst (es.map eD)),.v (.int a)] (by lia) ⟨0,by rw[Nat.add_zero,Nat.mod_eq_of_lt ha],rfl,fun i hi=>absurd hi (by lia)⟩
 exact⟨b,ew,hb,hn⟩
def fZ{φ:D}{xs:List Str}{m:Nat}(hφ:ck φ)(hx:∀x∈xs,Nm x)(nd:xs.Nodup)(hl:2<=xs.length/\xs.length<=100)(hm:m<=4) :
  ∃(es:List End)(φ':D),cQ φ [nmD xs,.int m]=some ((.lst (es.map eD),true),φ')/\es.length=m/\es.Nodup/\(∀e∈es,EOk e)/\ck φ':=by
 obtain⟨sf,ew,φ',es,o4,rfl,hf,he,hn,ho⟩:=ua (f:=ax (fOp bLt (fCB cC (aa (ae 3) ah)) (ae 2))) (B:=eO)
  (fun n s=>∃(φ':D)(es:List End)(o4:Sl),s=[.io φ',.v (nmD xs),.v (.int m),.o (.lst (es.map eD)),o4]/\ck φ'/\n+es.length=m/\es.Nodup/\(∀e∈es,EOk e)/\o4.isIo=false)
  (fun s=>∃(φ':D)(es:List End)(o4:Sl),s=[.io φ',.v (nmD xs),.v (.int m),.o (.lst (es.map eD)),o4]/\ck φ'/\es.length=m/\es.Nodup/\(∀e∈es,EOk e))
  (by
   rintro n s ⟨φ',es,o4,rfl,hf,he,hn,ho,q4⟩;by_cases c:es.length<m
   ·right;obtain⟨a,φ2,e1,a0,a1,f2⟩:=bU (n:=((2*xs.length:Nat):Int)) hf (by lia) (by lia)
    obtain⟨a,rfl⟩:=Xi a0;obtain⟨b,eb,hb,hn2⟩:=GA (φ:=φ2) (m:=m) (es:=es) nd (by lia) (by lia) (a:=a) (by lia)
    refine⟨_,[.io φ2,.v (nmD xs),.v (.int m),.o (.lst ((es++[lX xs b]).map eD)),.v (.int b)],n-1,cM (b:=decide (((es.map eD).length:Int)<(m:Int))) rfl (Ad (by rw[Za];lia)),?_,by lia,φ2,es++[lX xs b],.v (.int b),rfl,f2,by rw[Qb,Vm];lia,?_,?_,rfl⟩
    ·refine am (bm (aX rfl rfl (ad EO rfl) rfl rfl rfl e1) (fS rfl q4)) (am eb ?_);refine iq (wV rfl rfl rfl (ad (zb hb) rfl) rfl rfl rfl (oX (by rw[Za];lia)) ?_)
     rw[Wd];rfl
    ·rw[List.nodup_append]
     exact⟨hn,by simp,fun x hx y hy e=>by
      have:y=lX xs b:=by simpa using hy
      subst this;subst e;exact hn2 hx⟩
    ·intro e he;rcases Ze.mp he with z|z
     ·exact ho e z
     ·rw[Wa.mp z];exact Gz hx hb
   ·left
    exact⟨_,cM (b:=decide (((es.map eD).length:Int)<(m:Int))) rfl (Ae (by rw[Za];lia)),φ',es,o4,rfl,hf,by lia,hn,ho⟩)
  300 m [.io φ,.v (nmD xs),.v (.int m),.o (.lst []),.e] (by lia) ⟨φ,[],.e,rfl,hφ,rfl,List.nodup_nil,fun e he=>(by cases he),rfl⟩
 refine⟨es,φ',?_,he,hn,ho,hf⟩;refine bb (o:=.rt (.s 3) [.io φ',.v (nmD xs),.v (.int m),.o (.lst (es.map eD)),o4]) rfl ?_ rfl;exact am (cO (cc rfl rfl (by show 0<=1000000;decide)) rfl) (am ew rfl)
def kc(es:List End):aL (aL es)=aL es:=mX (bj es).2
def xB(js:List Jnt):cR (cR js)=cR js:=xw (cH js).2
def qZ{es:List End}(hl:es.length=1∨es.length=2)(nd:es.Nodup)(ok:∀e∈es,EOk e):JOk (aL es) where
 hl:=by rw[(bj es).2.length_eq];exact hl
 ok:=fun e he=>ok e ((bj es).2.mem_iff.mp he)
 nd:=(bj es).2.nodup_iff.mpr nd
 so:=kc es
def fT{φ:D}{xs:List Str}{k:Int}(hφ:ck φ)(hx:∀x∈xs,Nm x)(nd:xs.Nodup)(hl:2<=xs.length/\xs.length<=100)(hk:k=0∨k=1) :
  ∃(js:List Jnt)(φ':D),bZ φ [nmD xs,.int k]=some ((.tup (js.map jD),false),φ')/\k<=js.length/\js.length<=6/\(∀j∈js,JOk j)/\ck φ':=by
 obtain⟨n,φ1,e1,n0,n1,f1⟩:=bU (n:=6) hφ (by decide) (by decide)
 obtain⟨sf,e,φ',js,o4,rfl,hf,hjl,hj,_⟩:=kJ (fg:=gN 4) (B:=dJ) (rng 0 (k+n).toNat)
  (fun gone s=>∃(φ':D)(js:List Jnt)(o4:Sl),s=[.io φ',.v (nmD xs),.v (.int k),.o (.lst (js.map jD)),o4]/\ck φ'/\js.length=gone.length/\(∀j∈js,JOk j)/\o4.isIo=false)
  (fun gone x rest s ha zz=>by
   obtain⟨φ',js,o4,rfl,hf,hjl,hj,q4⟩:=zz;have hg:=congrArg List.length ha;rw[bY,Qb,Qa]at hg;obtain⟨d,φ2,e2,d0,d1,f2⟩:=bU (n:=2) hf (by decide) (by decide)
   obtain⟨d,rfl⟩:=Xi d0;obtain⟨es,φ3,e3,el,en,eo,f3⟩:=fZ (m:=1+d) f2 hx nd hl (by lia)
   rw[show((1+d:Nat):Int)=1+(d:Int) by lia]at e3
   refine⟨_,[.io φ3,.v (nmD xs),.v (.int k),.o (.lst ((js++[aL es]).map jD)),.v x],fS rfl q4,?_,φ3,js++[aL es],.v x,rfl,f3,by simp[hjl],fun j hj2=>?_,rfl⟩
   ·refine iq (wV rfl rfl rfl (ad (aI (ad (aI (ad (aX rfl rfl (ad rfl (ad (aq rfl (aX rfl rfl rfl rfl rfl rfl e2) rfl rfl rfl) rfl)) rfl rfl rfl e3) rfl) rfl (gB es (by lia) rfl)) rfl) rfl (br _)) rfl) rfl rfl rfl (oX (by rw[Za];lia)) ?_)
    rw[Wd];rfl
   ·rcases Ze.mp hj2 with z|z
    ·exact hj j z
    ·rw[Wa.mp z];exact qZ (by lia) en eo)
  (rng 0 (k+n).toNat) [] [.io φ1,.v (nmD xs),.v (.int k),.o (.lst []),.e] rfl ⟨φ1,[],.e,rfl,f1,rfl,fun j hj=>(by cases hj),rfl⟩
 rw[bY]at hjl;refine⟨js,φ',?_,by lia,by lia,hj,hf⟩
 refine bb (o:=.rt (.d (.tup (js.map jD))) [.io φ',.v (nmD xs),.v (.int k),.o (.lst (js.map jD)),o4]) rfl ?_ rfl;refine am (cO (cc rfl rfl (by show 0<=1000000;decide)) rfl) (am (oE (eK (ad (aq rfl (aX rfl rfl rfl rfl rfl rfl e1) rfl rfl rfl) rfl) rfl ⟨by lia,by lia⟩) e) ?_)
 exact av (aI rfl rfl (br _))
def zc{φ:D}{k:Int}(hφ:ck φ)(hk:k=3∨k=4)(n:Nat):∃(ds:List Int)(φ':D),bB (gN 0) aN (fIO bC 1 (aa (fC (.int k)) ah)) 1 (rng 0 n) [.e,.io φ]=some (ds.map D.int,[.e,.io φ'])/\ds.length=n/\(∀d∈ds,0<=d/\d<10000/\(k=3->d<1000))/\ck φ':=by
 obtain⟨ds,sf,e1,e2,φ',ys,rfl,hf,e3,hy⟩:=i5 (fg:=gN 0) (fc:=aN) (k:=1) (fe:=fIO bC 1 (aa (fC (.int k)) ah))
  (fun pre sb=>∃(φ':D)(ys:List Int),sb=[.e,.io φ']/\ck φ'/\pre=ys.map D.int/\∀y∈ys,0<=y/\y<10000/\(k=3->y<1000)) (by
   rintro pre x sb ⟨φ',ys,rfl,hf,rfl,hy⟩;obtain⟨d,φ2,e,d0,d1,d2,f2⟩:=fI hf hk;refine⟨[.v x,.io φ'],[.v x,.io φ'],.d (.int d),[.v x,.io φ2],.int d,[.v x,.io φ2],rfl,rfl,aX rfl rfl rfl rfl rfl rfl e,rfl,φ2,ys++[d],rfl,f2,by rw[Wd];rfl,fun y hy2=>?_⟩
   rcases Ze.mp hy2 with z|z
   ·exact hy y z
   ·rw[Wa.mp z];exact⟨d0,d2,d1⟩)
  (rng 0 n) [] [.e,.io φ] ⟨φ,[],rfl,hφ,rfl,fun y hy=>by cases hy⟩
 rw[Yh]at e3;subst e3;rw[bY,Za]at e2;exact⟨ys,φ',e1,e2,hy,hf⟩
abbrev lY:=List Int
def rgD(r:lY):D:=.tup (r.map D.int)
def ROk(r:lY):Prop:=1<=r.length/\r.length<=6/\∀d∈r,0<=d/\d<10000
def nG{φ:D}(hφ:ck φ):∃(rs:List lY)(φ':D),dA φ []=some ((.tup (rs.map rgD),false),φ')/\rs.length<=12/\(∀r∈rs,ROk r)/\ck φ':=by
 obtain⟨n,φ1,e1,n0,n1,f1⟩:=qh hφ;obtain⟨sf,e,φ',rs,o2,rfl,hf,hrl,hr,_⟩:=kJ (fg:=gN 2) (B:=ee) (rng 0 n.toNat)
  (fun gone s=>∃(φ':D)(rs:List lY)(o2:Sl),s=[.io φ',.o (.lst (rs.map rgD)),o2]/\ck φ'/\rs.length=gone.length/\(∀r∈rs,ROk r)/\o2.isIo=false)
  (fun gone x rest s ha zz=>by
   obtain⟨φ',rs,o2,rfl,hf,hrl,hr,q2⟩:=zz;have hg:=congrArg List.length ha;rw[bY,Qb,Qa]at hg;obtain⟨d,φ2,e2,d0,d1,f2⟩:=bU (n:=6) hf (by decide) (by decide)
   obtain⟨ds,φ3,e3,dl,dh,f3⟩:=zc (k:=4) f2 (.inr rfl) (1+d).toNat;refine⟨_,[.io φ3,.o (.lst ((rs++[ds]).map rgD)),.v x],fS rfl q2,?_,φ3,rs++[ds],.v x,rfl,f3,by simp[hrl],fun r hr2=>?_,rfl⟩
   ·refine iq (wV rfl rfl rfl (ad (aI (ad (aO (ds:=rng 0 (1+d).toNat) (s1:=[.io φ2,.o (.lst (rs.map rgD)),.v x]) (es:=ds.map D.int) (s2:=[.e,.io φ3]) (eK (ad (aq rfl (aX rfl rfl rfl rfl rfl rfl e2) rfl rfl rfl) rfl) rfl ⟨by lia,by lia⟩) (eV (n:=10) (by rw[bY];lia) (by decide) rfl) e3) rfl) rfl (br _)) rfl) rfl rfl rfl (oX (xs:=rs.map rgD) (by rw[Za];lia)) ?_)
    rw[Wd];rfl
   ·rcases Ze.mp hr2 with z|z
    ·exact hr r z
    ·rw[Wa.mp z];exact⟨by lia,by lia,fun d hd=>⟨(dh d hd).1,(dh d hd).2.1⟩⟩)
  (rng 0 n.toNat) [] [.io φ1,.o (.lst []),.e] rfl ⟨φ1,[],.e,rfl,f1,rfl,fun j hj=>(by cases hj),rfl⟩
 rw[bY]at hrl;refine⟨rs,φ',?_,by lia,hr,hf⟩
 refine bb (o:=.rt (.d (.tup (rs.map rgD))) [.io φ',.o (.lst (rs.map rgD)),o2]) rfl ?_ rfl;refine am (cO (cc rfl rfl (by show 0<=1000000;decide)) rfl) (am (oE (eK (ad (aX rfl rfl rfl rfl rfl rfl e1) rfl) rfl ⟨by lia,by lia⟩) e) ?_)
 exact av (aI rfl rfl (br _))
def GB(n m:Nat)(a b:End):ltN (n+2) (eD a) (eD b)=ltN (m+2) (eD a) (eD b):=rfl
def JZ{a b:End}(hn:a≠b)(h:ltN 40 (eD a) (eD b)=true):ltN 40 (jD [a]) (jD [b])=true:=by
 show ltL (ltN 39) [eD a] [eD b]=true;rw[bN (Hw hn),GB 37 38];exact h
def GC{L:List Jnt}(h:L.Pairwise fun a b=>ltN 40 (jD a) (jD b)=true):cR L=L:=by
 have:=fj (Gr L) (List.Perm.refl _) (by
  unfold Srt;rw[Yi]
  exact h.imp fun {a b} z=>p7 40 _ _ z)
 unfold cR;rw[← this,Vc,show(unJ ∘ jD)=id from funext oY,BF]
def vV(a:End):aL [a]=[a]:=List.perm_singleton.mp (bj [a]).2
def vW{a b:End}(hn:a≠b):∃p q:End,aL [a,b]=[p,q]/\p≠q/\ltN 40 (eD p) (eD q)=true/\[p,q].Perm [a,b]:=by
 have hl:=Ls a b;have pm:=(bj [a,b]).2;have lt:=xA (kc [a,b]) (pm.nodup_iff.mpr (by simp[hn]))
 match h:aL [a,b],hl with
 | [p,q],_ =>
  rw[h]at lt pm;have nd:[p,q].Nodup:=pm.nodup_iff.mpr (by simp[hn])
  exact⟨p,q,rfl,(by simpa using nd),(Ve.mp lt).1 q (by simp),pm⟩
def Co{p q:End}(hn:p≠q)(lt:ltN 40 (eD p) (eD q)=true)(op:EOk p)(oq:EOk q):HOk [[p],[q]] where
 hl:=.inr rfl
 ok:=fun j hj=>by
  rcases Va.mp hj with z|z
  ·rw[z];exact⟨.inl rfl,fun e he=>by rw[Wa.mp he];exact op,by simp,vV p⟩
  ·rw[Wa.mp z];exact⟨.inl rfl,fun e he=>by rw[Wa.mp he];exact oq,by simp,vV q⟩
 nd:=by simp[hn]
 so:=GC (Ve.mpr ⟨fun b hb=>by rw[Wa.mp hb];exact JZ hn lt,BR _ _⟩)
def zd{j k:Jnt}(hn:j≠k)(oj:JOk j)(ok:JOk k):HOk (cR [j,k]) where
 hl:=.inr (cH [j,k]).2.length_eq
 ok:=fun i hi=>by
  rcases Va.mp ((cH [j,k]).2.mem_iff.mp hi) with z|z
  ·rw[z];exact oj
  ·rw[Wa.mp z];exact ok
 nd:=(cH [j,k]).2.nodup_iff.mpr (by simp[hn])
 so:=xB _
def GD{j:Jnt}(oj:JOk j):HOk [j] where
 hl:=.inl rfl
 ok:=fun i hi=>by rw[Wa.mp hi];exact oj
 nd:=by simp
 so:=List.perm_singleton.mp (cH [j]).2
inductive Dd
 | line (w:Str) (ns:List Int)
 | set (g c:List Jnt)
def ddD:Dd->D
 | .line w ns=>.tup (.str w::ns.map D.int)
 | .set g c=>dD g c
def nH:Dd->Prop
 | .line w ns=>((w="turn"/\ns.length=2)∨(w="change"/\ns.length=4))/\∀n∈ns,0<=n/\n<1000
 | .set g c=>HOk g/\HOk c/\lL [dD g c]=some (.bl true,false)
def EQ{p q:End}(hn:p≠q)(lt:ltN 40 (eD p) (eD q)=true)(op:EOk p)(oq:EOk q)(so:aL [p,q]=[p,q]):nH (.set [[p,q]] [[p],[q]])/\nH (.set [[p],[q]] [[p,q]]):=by
 have h1:HOk [[p,q]]:=GD ⟨.inr rfl,fun e he=>by
  rcases Va.mp he with z|z
  ·rw[z];exact op
  ·rw[Wa.mp z];exact oq,by simp[hn],so⟩
 have h2:=Co hn lt op oq;refine⟨⟨h1,h2,?_⟩,h2,h1,?_⟩
 ·exact qg (L:=[2]) (M:=[1,1]) h1 h2 (by simp[hn]) (List.Perm.refl _) (by show 2<=2/\2<=4;decide) (List.Perm.refl _) (by simp) (List.Perm.refl _) (by simp) (by simp[dfm]) (by simp)
 ·exact qg (L:=[1,1]) (M:=[2]) h2 h1 (by simp[hn]) (List.Perm.refl _) (by show 2<=2/\2<=4;decide) (List.Perm.refl _) (by simp) (List.Perm.refl _) (by simp) (by simp[dfm]) (by simp)
def qi{a b:List End}{x:End}(h1:x∈a)(h2:x∉b):aL a≠aL b:=fun z=>h2 ((bj b).2.mem_iff.mp (z ▸ (bj a).2.mem_iff.mpr h1))
def fl2(j k:Jnt):(cR [j,k]).flatten.Perm (j++k):=by
 have:=(cH [j,k]).2.flatten;simpa using this
def ES{b:List End}{x y z:End}(hb:b=[]∨∃w,b=[w]/\w≠x/\w≠y/\w≠z)(hx:x≠y/\x≠z/\y≠z)(ok:∀e∈[x,y,z]++b,EOk e) :
  nH (.set (cR [aL [x,y],aL (z::b)]) (cR [aL [x,z],aL (y::b)])):=by
 obtain⟨h1,h2,h3⟩:=hx;have nb:(z::b).Nodup/\(y::b).Nodup/\(∀e∈z::b,EOk e)/\(∀e∈y::b,EOk e)/\((z::b).length=1∨(z::b).length=2)/\((y::b).length=1∨(y::b).length=2)/\x∉z::b/\x∉y::b/\y∉z::b/\b.length<=1:=by
  rcases hb with rfl|⟨w,rfl,w1,w2,w3⟩
  ·simp_all
  ·simp_all[AC w2,AC w3,AC w1]
 obtain⟨nz,ny,oz,oy,lz,ly,xz,xy,yz,bl⟩:=nb;have j1:=qZ (es:=[x,y]) (.inr rfl) (by simp[h1]) (by intro e he;exact ok e (by simp at he ⊢;rcases he with z|z<;>simp[z]))
 have j2:=qZ lz nz oz;have j3:=qZ (es:=[x,z]) (.inr rfl) (by simp[h2]) (by intro e he;exact ok e (by simp at he ⊢;rcases he with z|z<;>simp[z]))
 have j4:=qZ ly ny oy;have n1:aL [x,y]≠aL (z::b):=qi (x:=x) (by simp) xz
 have n2:aL [x,z]≠aL (y::b):=qi (x:=x) (by simp) xy
 have g1:=zd n1 j1 j2;have g2:=zd n2 j3 j4;have f1:(cR [aL [x,y],aL (z::b)]).flatten.Perm ([x,y]++z::b):=(fl2 _ _).trans (List.Perm.append (bj _).2 (bj _).2);have f2:(cR [aL [x,z],aL (y::b)]).flatten.Perm ([x,z]++y::b):=(fl2 _ _).trans (List.Perm.append (bj _).2 (bj _).2);have f3:([x,z]++y::b).Perm ([x,y]++z::b):=by
  show(x::z::y::b).Perm (x::y::z::b);exact(List.Perm.swap y z b).cons x
 have ln:2<=([x,y]++z::b).length/\([x,y]++z::b).length<=4:=by
  simp only[Qb,Qa,Yg];lia
 have len2:∀(u v:List End),((cR [aL u,aL v]).map fun j=>(j.length:Int)).Perm [(u.length:Int),(v.length:Int)]:=fun u v=>by
  have:=(cH [aL u,aL v]).2.map fun j=>(j.length:Int);simp only[Xf,List.map_nil,(bj u).2.length_eq,(bj v).2.length_eq]at this;exact this
 refine⟨g1,g2,?_⟩;have ne:cR [aL [x,y],aL (z::b)]≠cR [aL [x,z],aL (y::b)]:=fun q=>by
  have m:aL [x,y]∈cR [aL [x,z],aL (y::b)]:=q ▸ (cH _).2.mem_iff.mpr (by simp)
  rcases Va.mp ((cH _).2.mem_iff.mp m) with r|r
  ·exact qi (x:=y) (a:=[x,y]) (b:=[x,z]) (by simp) (by simp[AC h1,h3]) r
  ·exact qi (x:=x) (a:=[x,y]) (b:=y::b) (by simp) xy (Wa.mp r)
 have nd:(cR [aL [x,y],aL (z::b)]).flatten.Nodup:=f1.nodup_iff.mpr (by
  show(x::y::z::b).Nodup;rw[Zh,Zh]
  exact⟨by simp only[Va]at xz ⊢;rintro(r|r);exact h1 r;exact xz (by simpa using r),yz,nz⟩)
 have lg:2<=(cR [aL [x,y],aL (z::b)]).flatten.length/\(cR [aL [x,y],aL (z::b)]).flatten.length<=4:=by rw[f1.length_eq];exact ln
 rcases hb with rfl|⟨w,rfl,_⟩
 ·exact qg (L:=[1,2]) (M:=[1,2]) g1 g2 nd (f2.trans (f3.trans f1.symm)) lg ((List.Perm.swap 2 1 []).trans (len2 [x,y] [z]).symm) (by simp) ((List.Perm.swap 2 1 []).trans (len2 [x,z] [y]).symm) (by simp) (by simp[dfm]) ne
 ·exact qg (L:=[2,2]) (M:=[2,2]) g1 g2 nd (f2.trans (f3.trans f1.symm)) lg (len2 [x,y] [z,w]).symm (by simp) (len2 [x,z] [y,w]).symm (by simp) (by simp[dfm]) ne
def q0{a b:End}{r:List End}{s0 s1 s2 s4 s5 s6:Sl}:fCB aY (aa (fCB b7 (aa (fSl eu (ae 3) oNo (bM (fC (.int 2)))) ah)) ah) [s0,s1,s2,.o (.lst ((a::b::r).map eD)),s4,s5,s6]=some (.d (jD (aL [a,b])),[s0,s1,s2,.o (.lst ((a::b::r).map eD)),s4,s5,s6]):=by
 have e:eu (.lst ((a::b::r).map eD)) none (some 2)=some (.lst ([a,b].map eD),true):=by
  cases r with
  | nil=>rfl
  | cons c r=>rfl
 exact aI (ad (aI (ad (dN rfl rfl rfl rfl e) rfl) rfl (gB [a,b] (by show 2<64;decide) rfl)) rfl) rfl (br _)
def ne2{u v:End}{w:List End}{x:End}:∀j∈[aL [u,v],aL (x::w)],j≠[]:=fun j hj z=>by
 rcases Va.mp hj with q|q
 ·have:=Ls u v;rw[← q,z]at this;cases this
 ·have:=(bj (x::w)).2.length_eq;rw[← Wa.mp q,z]at this;cases this
def GE{a b c:End}{w:List End}(hw:w.length<=1){s0 s1 s2 s5 s6:Sl}:fCB aY (aa (fCB b7 (aa (cY (aa (ae 4) (aa (fCB aY (aa (fCB b7 (aa (fSl eu (ae 3) (bM (fC (.int 2))) oNo) ah)) ah)) ah))) ah)) ah) [s0,s1,s2,.o (.lst ((a::b::c::w).map eD)),.v (jD (aL [a,b])),s5,s6]=some (.d (.tup ((cR [aL [a,b],aL (c::w)]).map jD)),[s0,s1,s2,.o (.lst ((a::b::c::w).map eD)),.v (jD (aL [a,b])),s5,s6]):=by
 have e:eu (.lst ((a::b::c::w).map eD)) (some 2) none=some (.lst ((c::w).map eD),true):=by
  match w,hw with
  | [],_=>rfl
  | [d],_=>rfl
 have p1:fCB aY (aa (fCB b7 (aa (fSl eu (ae 3) (bM (fC (.int 2))) oNo) ah)) ah) [s0,s1,s2,.o (.lst ((a::b::c::w).map eD)),.v (jD (aL [a,b])),s5,s6]=some (.d (jD (aL (c::w))),[s0,s1,s2,.o (.lst ((a::b::c::w).map eD)),.v (jD (aL [a,b])),s5,s6]) :=
  aI (ad (aI (ad (dN rfl rfl rfl rfl e) rfl) rfl (gB (c::w) (by rw[Qa];lia) rfl)) rfl) rfl (br _)
 exact aI (ad (aI (ad (cc (ad rfl (ad p1 rfl)) rfl (by show 2<=1000000;decide)) rfl) rfl (sT [aL [a,b],aL (c::w)] (by show 2<64;decide) ne2 rfl)) rfl) rfl (br _)
def GF{a b c:End}{w:List End}(hw:w.length<=1){s0 s1 s2 s4 s5 s6:Sl}:cY (aa (fCB aY (aa (fCB b7 (aa (cY (aa (fOp bIx (ae 3) (fC (.int 0))) (aa (fOp bIx (ae 3) (fC (.int 2))) ah))) ah)) ah)) (aa (fCB aY (aa (fCB b7 (aa (fOp b9 (fSl eu (ae 3) (bM (fC (.int 1))) (bM (fC (.int 2)))) (fSl eu (ae 3) (bM (fC (.int 3))) oNo)) ah)) ah)) ah)) [s0,s1,s2,.o (.lst ((a::b::c::w).map eD)),s4,s5,s6]=some (.f (.lst ([aL [a,c],aL (b::w)].map jD)),[s0,s1,s2,.o (.lst ((a::b::c::w).map eD)),s4,s5,s6]):=by
 have e1:eu (.lst ((a::b::c::w).map eD)) (some 1) (some 2)=some (.lst [eD b],true):=by
  match w,hw with
  | [],_=>rfl
  | [d],_=>rfl
 have e2:eu (.lst ((a::b::c::w).map eD)) (some 3) none=some (.lst (w.map eD),true):=by
  match w,hw with
  | [],_=>rfl
  | [d],_=>rfl
 have p1:fCB aY (aa (fCB b7 (aa (cY (aa (fOp bIx (ae 3) (fC (.int 0))) (aa (fOp bIx (ae 3) (fC (.int 2))) ah))) ah)) ah) [s0,s1,s2,.o (.lst ((a::b::c::w).map eD)),s4,s5,s6]=some (.d (jD (aL [a,c])),[s0,s1,s2,.o (.lst ((a::b::c::w).map eD)),s4,s5,s6]) :=
  aI (ad (aI (ad (cc (ad (aq rfl rfl rfl rfl (bS (d:=eD a) (cb (j:=0) rfl))) (ad (aq rfl rfl rfl rfl (bS (d:=eD c) (cb (j:=2) rfl))) rfl)) rfl (by show 2<=1000000;decide)) rfl) rfl (gB [a,c] (by show 2<64;decide) rfl)) rfl) rfl (br _)
 have p2:fCB aY (aa (fCB b7 (aa (fOp b9 (fSl eu (ae 3) (bM (fC (.int 1))) (bM (fC (.int 2)))) (fSl eu (ae 3) (bM (fC (.int 3))) oNo)) ah)) ah) [s0,s1,s2,.o (.lst ((a::b::c::w).map eD)),s4,s5,s6]=some (.d (jD (aL (b::w))),[s0,s1,s2,.o (.lst ((a::b::c::w).map eD)),s4,s5,s6]) :=
  aI (ad (aI (ad (aq (dN rfl rfl rfl rfl e1) (dN rfl rfl rfl rfl e2) rfl rfl (dO (a:=[eD b]) (b:=w.map eD) (by rw[Za];show 1+w.length<=1000000;lia))) rfl) rfl (gB (b::w) (by rw[Qa];lia) rfl)) rfl) rfl (br _)
 exact cc (ad p1 (ad p2 rfl)) rfl (by show 2<=1000000;decide)
def q8{φ φ1 φ2:D}{xs:List Str}{i:Int}(hi:i=2∨i=3){a b c:End}{w:List End}(hw:w.length<=1)(e1:aP φ [.int 6]=some ((.int i,false),φ1))
  (e2:cQ φ1 [nmD xs,.int (i+1)]=some ((.lst ((a::b::c::w).map eD),true),φ2)):dU φ [nmD xs]=some ((dD (cR [aL [a,b],aL (c::w)]) (cR [aL [a,c],aL (b::w)]),false),φ2):=by
 have h4:decide (V.int i=V.int 4)=false:=Ae fun z=>by have:=V.int.inj z;lia
 have h5:decide (V.int i=V.int 5)=false:=Ae fun z=>by have:=V.int.inj z;lia
 have h0:decide (V.int i=V.int 0)=false:=Ae fun z=>by have:=V.int.inj z;lia
 have h1:decide (V.int i=V.int 1)=false:=Ae fun z=>by have:=V.int.inj z;lia
 have hx:atI [D.int 2,.int 2,.int 3,.int 4] i=some (.int (i+1)):=by rcases hi with rfl|rfl<;>rfl
 refine bb (o:=.rt (.d (dD (cR [aL [a,b],aL (c::w)]) (cR [aL [a,c],aL (b::w)]))) [.io φ2,.v (nmD xs),.v (.int i),.o (.lst ((a::b::c::w).map eD)),.v (jD (aL [a,b])),.v (.tup ((cR [aL [a,b],aL (c::w)]).map jD)),.o (.lst ([aL [a,c],aL (b::w)].map jD))]) rfl ?_ rfl;refine am (bm (aX rfl rfl rfl rfl rfl rfl e1) rfl) (am (bq (s:=[.io φ1,.v (nmD xs),.v (.int i),.e,.e,.e,.e]) (cM (b:=decide (V.int i=V.int 4)) rfl h4) rfl) (am (bq (s:=[.io φ1,.v (nmD xs),.v (.int i),.e,.e,.e,.e]) (cM (b:=decide (V.int i=V.int 5)) rfl h5) rfl) ?_));refine am (cO (aX rfl rfl (ad rfl (ad (aq (cc rfl rfl (by show 4<=1000000;decide)) rfl rfl rfl (bS hx)) rfl)) rfl rfl rfl e2) rfl) (am (bm q0 rfl) ?_)
 refine am (bq (s:=[.io φ2,.v (nmD xs),.v (.int i),.o (.lst ((a::b::c::w).map eD)),.v (jD (aL [a,b])),.e,.e]) (cM (b:=decide (V.int i=V.int 0)) rfl h0) rfl) (am (bq (s:=[.io φ2,.v (nmD xs),.v (.int i),.o (.lst ((a::b::c::w).map eD)),.v (jD (aL [a,b])),.e,.e]) (cM (b:=decide (V.int i=V.int 1)) rfl h1) rfl) ?_);refine am (bm (GE hw) rfl) (am (cO (GF hw) rfl) ?_);exact av (bO (ad rfl (ad (aI (ad (aI rfl rfl (sT [aL [a,c],aL (b::w)] (by show 2<64;decide) ne2 rfl)) rfl) rfl (br _)) rfl)) rfl (by show 2<=1000000;decide))
def vX{φ:D}{xs:List Str}(hφ:ck φ)(hx:∀x∈xs,Nm x)(nd:xs.Nodup)(hl:2<=xs.length/\xs.length<=100) :
  ∃(d:Dd)(φ':D),dU φ [nmD xs]=some ((ddD d,false),φ')/\nH d/\ck φ':=by
 obtain⟨i,φ1,e1,i0,i1,f1⟩:=bU (n:=6) hφ (by decide) (by decide)
 have hi:i=4∨i=5∨i=0∨i=1∨i=2∨i=3:=by lia
 rcases hi with rfl|rfl|rfl|rfl|rfl|rfl
 ·obtain⟨n,φ2,e2,n0,n1,_,f2⟩:=fI (k:=3) f1 (.inl rfl);obtain⟨m,φ3,e3,m0,m1,_,f3⟩:=fI (k:=3) f2 (.inl rfl);refine⟨.line "turn" [n,m],φ3,?_,⟨.inl ⟨rfl,rfl⟩,fun k hk=>?_⟩,f3⟩
  ·refine bb (o:=.rt (.d (.tup [.str "turn",.int n,.int m])) [.io φ3,.v (nmD xs),.v (.int 4),.e,.e,.e,.e]) rfl ?_ rfl;refine am (bm (aX rfl rfl rfl rfl rfl rfl e1) rfl) (bJ (dm (s:=[.io φ1,.v (nmD xs),.v (.int 4),.e,.e,.e,.e]) rfl ?_));exact av (bO (ad rfl (ad (aX rfl rfl rfl rfl rfl rfl e2) (ad (aX rfl rfl rfl rfl rfl rfl e3) rfl))) rfl (by show 3<=1000000;decide))
  ·rcases Va.mp hk with z|z
   ·rw[z];exact⟨n0,n1 rfl⟩
   ·rw[Wa.mp z];exact⟨m0,m1 rfl⟩
 ·obtain⟨ds,φ2,e2,dl,dh,f2⟩:=zc (k:=3) f1 (.inl rfl) 4;refine⟨.line "change" ds,φ2,?_,⟨.inr ⟨rfl,dl⟩,fun k hk=>⟨(dh k hk).1,(dh k hk).2.2 rfl⟩⟩,f2⟩;refine bb (o:=.rt (.d (.tup (.str "change"::ds.map D.int))) [.io φ2,.v (nmD xs),.v (.int 5),.e,.e,.e,.e]) rfl ?_ rfl;refine am (bm (aX rfl rfl rfl rfl rfl rfl e1) rfl) (am (bq (s:=[.io φ1,.v (nmD xs),.v (.int 5),.e,.e,.e,.e]) rfl rfl) (bJ (dm (s:=[.io φ1,.v (nmD xs),.v (.int 5),.e,.e,.e,.e]) rfl ?_)));exact av (aq (bO rfl rfl (by show 1<=1000000;decide)) (aI (ad (aO (ds:=rng 0 4) (s1:=[.io φ1,.v (nmD xs),.v (.int 5),.e,.e,.e,.e]) (es:=ds.map D.int) (s2:=[.e,.io φ2]) (eK (j:=4) rfl rfl ⟨by decide,by decide⟩) rfl e2) rfl) rfl (br _)) rfl rfl (yC (a:=[.str "change"]) (b:=ds.map D.int) (by rw[Za,dl];decide)))
 ·obtain⟨es,φ2,e2,el,en,eo,f2⟩:=fZ (m:=2) f1 hx nd hl (by decide)
  match es,el with
  | [a,b],_ =>
   have nab:a≠b:=by simpa using en
   obtain⟨p,q,h1,h2,h3,h4⟩:=vW nab;have so:aL [p,q]=[p,q]:=by rw[← h1];exact kc _
   have dk:=EQ h2 h3 (eo p (h4.mem_iff.mp (by simp))) (eo q (h4.mem_iff.mp (by simp))) so
   have pv:=@q0 a b [] (.io φ2) (.v (nmD xs)) (.v (.int 0)) .e .e .e;rw[h1]at pv;refine⟨.set [[p,q]] [[p],[q]],φ2,?_,dk.1,f2⟩;refine bb (o:=.rt (.d (dD [[p,q]] [[p],[q]])) [.io φ2,.v (nmD xs),.v (.int 0),.o (.lst ([a,b].map eD)),.v (jD [p,q]),.e,.e]) rfl ?_ rfl;refine am (bm (aX rfl rfl rfl rfl rfl rfl e1) rfl) (am (bq (s:=[.io φ1,.v (nmD xs),.v (.int 0),.e,.e,.e,.e]) rfl rfl) (am (bq (s:=[.io φ1,.v (nmD xs),.v (.int 0),.e,.e,.e,.e]) rfl rfl) ?_));refine am (cO (aX rfl rfl (ad rfl (ad (aq (cc rfl rfl (by show 4<=1000000;decide)) rfl rfl rfl (bS rfl)) rfl)) rfl rfl rfl e2) rfl) (am (bm pv rfl) (bJ (dm (s:=[.io φ2,.v (nmD xs),.v (.int 0),.o (.lst ([a,b].map eD)),.v (jD [p,q]),.e,.e]) rfl ?_)))
   exact av (bO (ad (bO rfl rfl (by show 1<=1000000;decide)) (ad (bO (ad (dN rfl rfl rfl rfl (qD _ _ _)) (ad (dN rfl rfl rfl rfl (qD _ _ _)) rfl)) rfl (by show 2<=1000000;decide)) rfl)) rfl (by show 2<=1000000;decide))
 ·obtain⟨es,φ2,e2,el,en,eo,f2⟩:=fZ (m:=2) f1 hx nd hl (by decide)
  match es,el with
  | [a,b],_ =>
   have nab:a≠b:=by simpa using en
   obtain⟨p,q,h1,h2,h3,h4⟩:=vW nab;have so:aL [p,q]=[p,q]:=by rw[← h1];exact kc _
   have dk:=EQ h2 h3 (eo p (h4.mem_iff.mp (by simp))) (eo q (h4.mem_iff.mp (by simp))) so
   have pv:=@q0 a b [] (.io φ2) (.v (nmD xs)) (.v (.int 1)) .e .e .e;rw[h1]at pv;refine⟨.set [[p],[q]] [[p,q]],φ2,?_,dk.2,f2⟩;refine bb (o:=.rt (.d (dD [[p],[q]] [[p,q]])) [.io φ2,.v (nmD xs),.v (.int 1),.o (.lst ([a,b].map eD)),.v (jD [p,q]),.e,.e]) rfl ?_ rfl;refine am (bm (aX rfl rfl rfl rfl rfl rfl e1) rfl) (am (bq (s:=[.io φ1,.v (nmD xs),.v (.int 1),.e,.e,.e,.e]) rfl rfl) (am (bq (s:=[.io φ1,.v (nmD xs),.v (.int 1),.e,.e,.e,.e]) rfl rfl) ?_));refine am (cO (aX rfl rfl (ad rfl (ad (aq (cc rfl rfl (by show 4<=1000000;decide)) rfl rfl rfl (bS rfl)) rfl)) rfl rfl rfl e2) rfl) (am (bm pv rfl) (am (bq (s:=[.io φ2,.v (nmD xs),.v (.int 1),.o (.lst ([a,b].map eD)),.v (jD [p,q]),.e,.e]) rfl rfl) (bJ (dm (s:=[.io φ2,.v (nmD xs),.v (.int 1),.o (.lst ([a,b].map eD)),.v (jD [p,q]),.e,.e]) rfl ?_))))
   exact av (bO (ad (bO (ad (dN rfl rfl rfl rfl (qD _ _ _)) (ad (dN rfl rfl rfl rfl (qD _ _ _)) rfl)) rfl (by show 2<=1000000;decide)) (ad (bO rfl rfl (by show 1<=1000000;decide)) rfl)) rfl (by show 2<=1000000;decide))
 ·obtain⟨es,φ2,e2,el,en,eo,f2⟩:=fZ (m:=3) f1 hx nd hl (by decide)
  match es,el with
  | [a,b,c],_ =>
   have hn:a≠b/\a≠c/\b≠c:=by simp at en;exact⟨en.1.1,en.1.2,en.2⟩
   exact⟨.set (cR [aL [a,b],aL [c]]) (cR [aL [a,c],aL [b]]),φ2,q8 (.inl rfl) (by decide) e1 e2,ES (b:=[]) (.inl rfl) hn (by simpa using eo),f2⟩
 ·obtain⟨es,φ2,e2,el,en,eo,f2⟩:=fZ (m:=4) f1 hx nd hl (by decide)
  match es,el with
  | [a,b,c,d],_ =>
   have hn:(a≠b/\a≠c/\b≠c)/\d≠a/\d≠b/\d≠c:=by
    simp at en;obtain⟨⟨h1,h2,h3⟩,⟨h4,h5⟩,h6⟩:=en;exact⟨⟨h1,h2,h4⟩,AC h3,AC h5,AC h6⟩
   exact⟨.set (cR [aL [a,b],aL [c,d]]) (cR [aL [a,c],aL [b,d]]),φ2,q8 (.inr rfl) (by show 1<=1;decide) e1 e2,ES (b:=[d]) (.inr ⟨d,rfl,hn.2⟩) hn.1 (by simpa using eo),f2⟩
inductive Pt
 | one (a b:List Jnt)
 | chg (rs:List lY)
 | trn (rs:List lY) (ks:List (Int×Int)) (c:Int)
 | two (ps:List (Str×List Jnt×List Jnt))
def jsD(js:List Jnt):D:=.tup (js.map jD)
def spD(k:Int×Int):D:=.tup [.int k.1,.int k.2]
def paD(p:Str×List Jnt×List Jnt):D:=.tup [.str p.1,jsD p.2.1,jsD p.2.2]
def ptD:Pt->D
 | .one a b=>.tup [jsD a,jsD b]
 | .chg rs=>.tup [.tup (rs.map rgD)]
 | .trn rs ks c=>.tup [.tup (rs.map rgD),.tup (ks.map spD),.int c]
 | .two ps=>.tup (ps.map paD)
def fK(js:List Jnt):Prop:=js.length<=6/\∀j∈js,JOk j
def xC(rs:List lY):Prop:=rs.length<=12/\∀r∈rs,ROk r
def N4(d:Int):Prop:=0<=d/\d<10000
abbrev kindsS:List Str:=["ring","odd","ours","theirs"]
def rZ(bk:Str):Pt->Prop
 | .one a b=>bk="one"/\fK a/\fK b
 | .chg rs=>bk="changes"/\xC rs
 | .trn rs ks c=>bk="turns"/\xC rs/\(ks.length<=12/\∀k∈ks,N4 k.1/\N4 k.2)/\N4 c
 | .two ps=>(bk="two"∨bk="home")/\ps.length<=12/\∀p∈ps,p.1∈kindsS/\(fK p.2.1/\p.2.1≠[])/\fK p.2.2/\p.2.2≠[]
def ET{φ:D}(hφ:ck φ)(n:Nat):∃(ks:List (Int×Int))(φ':D),bB (gN 0) aN cL 1 (rng 0 n) [.e,.io φ]=some (ks.map spD,[.e,.io φ'])/\ks.length=n/\(∀k∈ks,N4 k.1/\N4 k.2)/\ck φ':=by
 obtain⟨ds,sf,e1,e2,φ',ys,rfl,hf,e3,hy⟩:=i5 (fg:=gN 0) (fc:=aN) (k:=1) (fe:=cL)
  (fun pre sb=>∃(φ':D)(ys:List (Int×Int)),sb=[.e,.io φ']/\ck φ'/\pre=ys.map spD/\∀k∈ys,N4 k.1/\N4 k.2) (by
   rintro pre x sb ⟨φ',ys,rfl,hf,rfl,hy⟩;obtain⟨d,φ2,e,d0,d1,d2,f2⟩:=fI (k:=4) hf (.inr rfl);obtain⟨d',φ3,e',d0',d1',d2',f3⟩:=fI (k:=4) f2 (.inr rfl);refine⟨[.v x,.io φ'],[.v x,.io φ'],.d (.tup [.int d,.int d']),[.v x,.io φ3],.tup [.int d,.int d'],[.v x,.io φ3],rfl,rfl,bO (ad (aX rfl rfl rfl rfl rfl rfl e) (ad (aX rfl rfl rfl rfl rfl rfl e') rfl)) rfl (by show 2<=1000000;decide),rfl,φ3,ys++[(d,d')],rfl,f3,by rw[Wd];rfl,fun y hy2=>?_⟩
   rcases Ze.mp hy2 with z|z
   ·exact hy y z
   ·rw[Wa.mp z];exact⟨⟨d0,d2⟩,d0',d2'⟩)
  (rng 0 n) [] [.e,.io φ] ⟨φ,[],rfl,hφ,rfl,fun y hy=>by cases hy⟩
 rw[Yh]at e3;subst e3;rw[bY,Za]at e2;exact⟨ys,φ',e1,e2,hy,hf⟩
def GG{i:Int}(h0:0<=i)(h1:i<4):∃k∈kindsS,atI (kindsS.map D.str) i=some (.str k):=by
 obtain⟨v,hv,hm,_⟩:=qw (xs:=kindsS.map D.str) h0 h1;obtain⟨k,hk,rfl⟩:=Yb.mp hm;exact⟨k,hk,hv⟩
def uB{φ:D}{bk:Str}{xs:List Str}(hφ:ck φ)(hx:∀x∈xs,Nm x)(nd:xs.Nodup)(hl:2<=xs.length/\xs.length<=100)(hb:bk∈(["one","two","home","turns","changes"]:List Str)) :
  ∃(p:Pt)(φ':D),dB φ [.str bk,nmD xs]=some ((ptD p,false),φ')/\rZ bk p/\ck φ':=by
 have tf:∀(y:Str)(c:Bool)(s3:Sl),decide (V.str bk=V.str y)=c->ax (fOp bEq (ae 1) (fC (.str y))) [.io φ,.v (.str bk),.v (nmD xs),s3,.e,.e,.e]=some (c,[.io φ,.v (.str bk),.v (nmD xs),s3,.e,.e,.e]):=fun y c s3 h=>cM (b:=decide (V.str bk=V.str y)) rfl h;have tw:(bk="two"∨bk="home")->decide (V.str bk=V.str "one")=false->decide (V.str bk=V.str "changes")=false->decide (V.str bk=V.str "turns")=false->∃(p:Pt)(φ':D),dB φ [.str bk,nmD xs]=some ((ptD p,false),φ')/\rZ bk p/\ck φ':=by
  intro hbk h1 h2 h3;obtain⟨n,φ1,e1,n0,n1,f1⟩:=qh hφ;obtain⟨sf,e,φ',ps,o5,o6,rfl,hf,hpl,hp,_⟩:=kJ (fg:=gN 5) (B:=ef) (rng 0 n.toNat)
   (fun gone s=>∃(φ':D)(ps:List (Str×List Jnt×List Jnt))(o5 o6:Sl),s=[.io φ',.v (.str bk),.v (nmD xs),.e,.o (.lst (ps.map paD)),o5,o6]/\ck φ'/\ps.length=gone.length/\(∀p∈ps,p.1∈kindsS/\(fK p.2.1/\p.2.1≠[])/\fK p.2.2/\p.2.2≠[])/\o5.isIo=false/\o6.isIo=false)
   (fun gone x rest s ha zz=>by
    obtain⟨φ',ps,o5,o6,rfl,hf,hpl,hp,q5,q6⟩:=zz;have hg:=congrArg List.length ha;rw[bY,Qb,Qa]at hg;obtain⟨i,φ2,e2,i0,i1,f2⟩:=bU (n:=4) hf (by decide) (by decide)
    obtain⟨k,hk,hv⟩:=GG i0 i1;obtain⟨js,φ3,e3,jl,ju,jo,f3⟩:=fT (k:=1) f2 hx nd hl (.inr rfl);obtain⟨ks,φ4,e4,kl,ku,ko,f4⟩:=fT (k:=1) f3 hx nd hl (.inr rfl);refine⟨_,[.io φ4,.v (.str bk),.v (nmD xs),.e,.o (.lst ((ps++[(k,js,ks)]).map paD)),.v x,.v (.str k)],fS rfl q5,?_,φ4,ps++[(k,js,ks)],.v x,.v (.str k),rfl,f4,by simp[hpl],fun p hp2=>?_,rfl,rfl⟩
    ·refine am (bm (aq rfl (aX rfl rfl rfl rfl rfl rfl e2) rfl rfl (bS hv)) (fS rfl q6)) ?_;refine iq (wV rfl rfl rfl (ad (bO (ad rfl (ad (aX rfl rfl rfl rfl rfl rfl e3) (ad (aX rfl rfl rfl rfl rfl rfl e4) rfl))) rfl (by show 3<=1000000;decide)) rfl) rfl rfl rfl (oX (xs:=ps.map paD) (by rw[Za];lia)) ?_)
     rw[Wd];rfl
    ·rcases Ze.mp hp2 with z|z
     ·exact hp p z
     ·rw[Wa.mp z]
      exact⟨hk,⟨⟨ju,jo⟩,fun(z:js=[])=>by rw[z]at jl;simp at jl⟩,⟨ku,ko⟩,fun(z:ks=[])=>by rw[z]at kl;simp at kl⟩)
   (rng 0 n.toNat) [] [.io φ1,.v (.str bk),.v (nmD xs),.e,.o (.lst []),.e,.e] rfl ⟨φ1,[],.e,.e,rfl,f1,rfl,fun j hj=>(by cases hj),rfl,rfl⟩
  rw[bY]at hpl;refine⟨.two ps,φ',?_,⟨hbk,by lia,hp⟩,hf⟩
  refine bb (o:=.rt (.d (.tup (ps.map paD))) [.io φ',.v (.str bk),.v (nmD xs),.e,.o (.lst (ps.map paD)),o5,o6]) rfl ?_ rfl;refine am (bq (tf _ _ .e h1) rfl) (am (bq (tf _ _ .e h2) rfl) (am (bq (tf _ _ .e h3) rfl) ?_));refine am (cO (cc rfl rfl (by show 0<=1000000;decide)) rfl) (am (oE (eK (ad (aX rfl rfl rfl rfl rfl rfl e1) rfl) rfl ⟨by lia,by lia⟩) e) ?_)
  exact av (aI rfl rfl (br _))
 simp only[Va,List.not_mem_nil,or_false]at hb;rcases hb with rfl|rfl|rfl|rfl|rfl
 ·obtain⟨js,φ3,e3,jl,ju,jo,f3⟩:=fT (k:=0) hφ hx nd hl (.inl rfl);obtain⟨ks,φ4,e4,kl,ku,ko,f4⟩:=fT (k:=0) f3 hx nd hl (.inl rfl);refine⟨.one js ks,φ4,?_,⟨rfl,⟨ju,jo⟩,ku,ko⟩,f4⟩;refine bb (o:=.rt (.d (.tup [jsD js,jsD ks])) [.io φ4,.v (.str "one"),.v (nmD xs),.e,.e,.e,.e]) rfl ?_ rfl;refine bJ (dm (tf _ _ .e (by decide +kernel)) ?_)
  exact av (bO (ad (aX rfl rfl rfl rfl rfl rfl e3) (ad (aX rfl rfl rfl rfl rfl rfl e4) rfl)) rfl (by show 2<=1000000;decide))
 ·exact tw (.inl rfl) (by decide +kernel) (by decide +kernel) (by decide +kernel)
 ·exact tw (.inr rfl) (by decide +kernel) (by decide +kernel) (by decide +kernel)
 ·obtain⟨n,φ1,e1,n0,n1,f1⟩:=qh hφ;obtain⟨ks,φ2,e2,kl,kh,f2⟩:=ET f1 n.toNat;obtain⟨rs,φ3,e3,rl,rh,f3⟩:=nG f2;obtain⟨c,φ4,e4,c0,_,c1,f4⟩:=fI (k:=4) f3 (.inr rfl);refine⟨.trn rs ks c,φ4,?_,⟨rfl,⟨rl,rh⟩,⟨by lia,kh⟩,c0,c1⟩,f4⟩
  refine bb (o:=.rt (.d (.tup [.tup (rs.map rgD),.tup (ks.map spD),.int c])) [.io φ4,.v (.str "turns"),.v (nmD xs),.o (.lst (ks.map spD)),.e,.e,.e]) rfl ?_ rfl;refine am (bq (tf _ _ .e (by decide +kernel)) rfl) (am (bq (tf _ _ .e (by decide +kernel)) rfl) (bJ (dm (tf _ _ .e (by decide +kernel)) ?_)))
  refine am (cO (aO (ds:=rng 0 n.toNat) (s1:=[.io φ1,.v (.str "turns"),.v (nmD xs),.e,.e,.e,.e]) (es:=ks.map spD) (s2:=[.e,.io φ2]) (eK (ad (aX rfl rfl rfl rfl rfl rfl e1) rfl) rfl ⟨by lia,by lia⟩) (eV (n:=12) (by rw[bY];lia) (by decide) rfl) e2) rfl) ?_
  exact av (bO (ad (aX rfl rfl rfl rfl rfl rfl e3) (ad (aI rfl rfl (br _)) (ad (aX rfl rfl rfl rfl rfl rfl e4) rfl))) rfl (by show 3<=1000000;decide))
 ·obtain⟨rs,φ3,e3,rl,rh,f3⟩:=nG hφ;refine⟨.chg rs,φ3,?_,⟨rfl,rl,rh⟩,f3⟩;refine bb (o:=.rt (.d (.tup [.tup (rs.map rgD)])) [.io φ3,.v (.str "changes"),.v (nmD xs),.e,.e,.e,.e]) rfl ?_ rfl;refine am (bq (tf _ _ .e (by decide +kernel)) rfl) (bJ (dm (tf _ _ .e (by decide +kernel)) ?_))
  exact av (bO (ad (aX rfl rfl rfl rfl rfl rfl e3) rfl) rfl (by show 1<=1000000;decide))
structure Pp where
 pt:Pt
 tot:Int
 ds:List Dd
def ppD(p:Pp):D:=.tup [ptD p.pt,.int p.tot,.tup (p.ds.map ddD)]
structure PpOk(bk:Str)(p:Pp):Prop where
 pt:rZ bk p.pt
 tot:N4 p.tot
 dl:p.ds.length<=12
 ds:∀d∈p.ds,nH d
def nI{φ:D}{bk:Str}(hφ:ck φ)(hb:bk∈(["one","two","home","turns","changes"]:List Str)):∃(p:Pp)(φ':D),dC φ [.str bk]=some ((ppD p,false),φ')/\PpOk bk p/\ck φ':=by
 obtain⟨n,φ1,e1,n0,n1,f1⟩:=bU (n:=5) hφ (by decide) (by decide)
 obtain⟨xs,φ2,e2,xl,xo,xn,f2⟩:=EA (n:=2+n) f1 (by lia) (by lia)
 obtain⟨p,φ3,e3,po,f3⟩:=uB (bk:=bk) f2 xo xn (by lia) hb
 obtain⟨t,φ4,e4,t0,_,t1,f4⟩:=fI (k:=4) f3 (.inr rfl);obtain⟨m,φ5,e5,m0,m1,f5⟩:=qh f4;obtain⟨ds,sf,e6,e7,φ',ys,rfl,hf,e8,hy⟩:=i5 (fg:=gN 0) (fc:=aN) (k:=1) (fe:=et)
  (fun pre sb=>∃(φ':D)(ys:List Dd),sb=[.e,.io φ',.v (nmD xs)]/\ck φ'/\pre=ys.map ddD/\∀d∈ys,nH d) (by
   rintro pre x sb ⟨φ',ys,rfl,hf,rfl,hy⟩;obtain⟨d,φ2,e,dk,f2⟩:=vX hf xo xn (by lia)
   refine⟨[.v x,.io φ',.v (nmD xs)],[.v x,.io φ',.v (nmD xs)],.d (ddD d),[.v x,.io φ2,.v (nmD xs)],ddD d,[.v x,.io φ2,.v (nmD xs)],rfl,rfl,aX rfl rfl rfl rfl rfl rfl e,rfl,φ2,ys++[d],rfl,f2,by rw[Wd];rfl,fun y hy2=>?_⟩
   rcases Ze.mp hy2 with z|z
   ·exact hy y z
   ·rw[Wa.mp z];exact dk)
  (rng 0 m.toNat) [] [.e,.io φ5,.v (nmD xs)] ⟨φ5,[],rfl,f5,rfl,fun y hy=>by cases hy⟩
 rw[Yh]at e8;subst e8;rw[bY,Za]at e7;refine⟨⟨p,t,ys⟩,φ',?_,⟨po,⟨t0,t1⟩,by show ys.length<=12;lia,hy⟩,hf⟩
 refine bb (o:=.rt (.d (.tup [ptD p,.int t,.tup (ys.map ddD)])) [.io φ',.v (.str bk),.v (nmD xs),.v (ptD p),.v (.int t)]) rfl ?_ rfl;refine am (cO (aX rfl rfl (ad (aq rfl (aX rfl rfl rfl rfl rfl rfl e1) rfl rfl rfl) rfl) rfl rfl rfl e2) rfl) ?_;refine am (bm (aX rfl rfl rfl rfl rfl rfl e3) rfl) (am (bm (aX rfl rfl rfl rfl rfl rfl e4) rfl) ?_);exact av (bO (ad rfl (ad rfl (ad (aI (ad (aO (ds:=rng 0 m.toNat) (s1:=[.io φ5,.v (.str bk),.v (nmD xs),.v (ptD p),.v (.int t)]) (es:=ys.map ddD) (s2:=[.e,.io φ',.v (nmD xs)]) (eK (ad (aX rfl rfl rfl rfl rfl rfl e5) rfl) rfl ⟨by lia,by lia⟩) (eV (n:=12) (by rw[bY];lia) (by decide) rfl) e6) rfl) rfl (br _)) rfl))) rfl (by show 3<=1000000;decide))
end
end K65
namespace VF
open PySem L2
def flt(c:Nat):List (List Nat)->List Nat
 | []=>[]
 | w::ws=>c::(w++flt c ws)
theorem uC{c:Nat}:∀(ws vs:List (List Nat))(w v:List Nat),c∉w->c∉v->(∀x∈ws,c∉x)->(∀x∈vs,c∉x)->w++flt c ws=v++flt c vs->w=v/\ws=vs
 | ws,vs,a::w,b::v,h1,h2,h3,h4,e=>by
  rw[Vg,Vg]at e;injection e with e1 e2;obtain⟨q1,q2⟩:=uC ws vs w v (fun z=>h1 (Vb _ z)) (fun z=>h2 (Vb _ z)) h3 h4 e2;exact⟨by rw[e1,q1],q2⟩
 | ws,[],a::w,[],h1,_,_,_,e=>by cases e
 | ws,y::vs,a::w,[],h1,_,_,_,e=>by
  rw[Vg,Yh]at e;injection e with e1 _;exact absurd (by rw[e1];exact Zc) h1
 | [],vs,[],b::v,_,h2,_,_,e=>by cases e
 | x::ws,vs,[],b::v,_,h2,_,_,e=>by
  rw[Vg,Yh]at e;injection e with e1 _;exact absurd (by rw[← e1];exact Zc) h2
 | [],[],[],[],_,_,_,_,_=>⟨rfl,rfl⟩
 | [],y::vs,[],[],_,_,_,_,e=>by cases e
 | x::ws,[],[],[],_,_,_,_,e=>by cases e
 | x::ws,y::vs,[],[],_,_,h3,h4,e=>by
  rw[Yh,Yh]at e;injection e with _ e2;obtain⟨q1,q2⟩:=uC ws vs x y (h3 x Zc) (h4 y Zc) (fun z hz=>h3 z (Vb _ hz)) (fun z hz=>h4 z (Vb _ hz)) e2;exact⟨rfl,by rw[q1,q2]⟩
termination_by ws vs w v=>ws.length+w.length+(ws.map List.length).sum
decreasing_by all_goals (simp_wf<;>lia)
def cpl(x:Str):List Nat:=x.cps.toList
def nJ{x y:Str}(h:cpl x=cpl y):x=y:=by
 obtain⟨⟨a⟩⟩:=x;obtain⟨⟨b⟩⟩:=y;have:a=b:=h;rw[this]
def cN(x y:Str):cpl (x++y)=cpl x++cpl y:=Array.toList_append ..
theorem ie{c:Nat}:∀(w:Str)(ws:List Str),cpl (Str.join ⟨#[c]⟩ (w::ws))=cpl w++flt c (ws.map cpl)
 | w,[]=>by
  show cpl w=cpl w++[];rw[Vh]
 | w,x::r=>by
  show cpl (w++⟨#[c]⟩++Str.join ⟨#[c]⟩ (x::r))=_;rw[cN,cN,ie x r,Zj];rfl
theorem pp:∀{xs ys:List Str},xs.map cpl=ys.map cpl->xs=ys
 | [],[],_=>rfl
 | [],_::_,h=>by cases h
 | _::_,[],h=>by cases h
 | x::xs,y::ys,h=>by
  rw[Xf,Xf]at h;injection h with h1 h2;rw[nJ h1,pp h2]
def EU(x y:Str):Txt.split x y≠[]:=by
 intro z;unfold Txt.split at z;split at z
 ·cases z
 ·split at z
  ·cases z
  ·have:=congrArg List.length z;rw[length_partsBetween]at this;simp at this
def fU(sep:Str)(ws:List Str):Txt.join sep ws=Str.join sep ws:=StrLaws.glued_eq_join sep ws
theorem q9{c:Nat}{ws:List Str}(ne:ws≠[])(h:∀w∈ws,c∉cpl w):Txt.split (Txt.join ⟨#[c]⟩ ws) ⟨#[c]⟩=ws:=by
 have j:=StrLaws.join_split (Txt.join ⟨#[c]⟩ ws) ⟨#[c]⟩;have f:=StrLaws.split_free (Txt.join ⟨#[c]⟩ ws) c;have n:=EU (Txt.join ⟨#[c]⟩ ws) ⟨#[c]⟩;generalize Txt.split (Txt.join ⟨#[c]⟩ ws) ⟨#[c]⟩=vs at j f n;rw[fU]at j;cases vs with
 | nil=>exact absurd rfl n
 | cons v vs =>
  cases ws with
  | nil=>exact absurd rfl ne
  | cons w ws =>
   have e:=congrArg cpl j;rw[ie,ie]at e
   obtain⟨q1,q2⟩:=uC _ _ _ _ (f v Zc) (h w Zc) (fun x hx=>by
    obtain⟨y,hy,rfl⟩:=Yb.mp hx;exact f y (Vb _ hy)) (fun x hx=>by
    obtain⟨y,hy,rfl⟩:=Yb.mp hx
    exact h y (Vb _ hy)) e
   rw[nJ q1,pp q2]
def cm(sep w x:Str)(r:List Str):Txt.join sep (w::x::r)=w++sep++Txt.join sep (x::r):=by rw[fU,fU];rfl
def join_one(sep w:Str):Txt.join sep [w]=w:=by rw[fU];rfl
def oZ(a b c:Str):a++b++c=a++(b++c):=nJ (by rw[cN,cN,cN,cN,Zj])
theorem nK(sep:Str):∀(w:Str)(ws:List Str)(x:Str)(r:List Str),Txt.join sep ((w::ws)++x::r)=Txt.join sep (w::ws)++sep++Txt.join sep (x::r)
 | w,[],x,r=>by rw[join_one];exact cm sep w x r
 | w,y::ws,x,r=>by
  rw[Vg,Vg,cm,← Vg,nK sep y ws x r,cm];simp only[oZ]
end VF
namespace K65
open PySem L2 VF VL VF22
noncomputable section
abbrev tI(n:Int):Str:=Str.ofString (toString n)
def EV(m:Nat):cpl (tI (m:Int))=(Nat.toDigits 10 m).map Char.toNat:=PySem.W.KIN.signs_num m
def Lx(m:Nat):Bool:=(Nat.toDigits 10 m).length == 1||(((Nat.toDigits 10 m).headD 'x').toNat != 48)
def EW:(List.range 10000).all Lx=true:=by decide +kernel
def Hx{n:Int}(h:0<=n):1<=(tI n).length:=PySem.W.KLn.one_le h
def vY{n:Int}{k:Nat}(h:0<=n)(hk:0<k)(h1:n<10 ^ k):(tI n).length<=k:=PyProof.Rows.toString_length_le h hk h1
def kd{n:Int}(h:0<=n):∀c∈cpl (tI n),48<=c/\c<=57:=by
 obtain⟨m,rfl⟩:=Xi h;intro c hc;rw[EV]at hc;obtain⟨ch,hch,e⟩:=Yb.mp hc;have r:=PyProof.Rows.digit_range (Nat.isDigit_of_mem_toDigits (by decide) (by decide) hch)
 rw[← e];exact r
def GH{n:Int}(h:0<=n)(h1:n<10000)(h2:1<(tI n).length):∃c r,cpl (tI n)=c::r/\c≠48:=by
 obtain⟨m,rfl⟩:=Xi h;have ok:=Qf.mp EW m (Xh.mpr (by lia))
 have hl:(cpl (tI (m:Int))).length=(tI (m:Int)).length:=Zd;have hc:=EV m;unfold Lx at ok;cases e:Nat.toDigits 10 m with
 | nil=>rw[e]at hc;rw[hc]at hl;simp at hl;lia
 | cons ch r =>
  rw[e]at hc ok;rw[hc]at hl;refine⟨ch.toNat,r.map Char.toNat,hc,?_⟩;simp at ok hl;rcases ok with z|z
  ·rw[z]at hl;simp at hl;lia
  ·exact z
def inF(c:Nat):Bool:=!(Builtin.Str.occurrences ("0123456789":Str) ⟨#[c]⟩ 0 ("0123456789":Str).length 1).isEmpty
def GI:∀c:Nat,c<58->48<=c->inF c=true:=by decide +kernel
def iJ{n:Int}(h:0<=n)(h1:n<10000):eW [.int n]=some (.str (tI n),false):=by
 have e:yB (.int n)=some (.str (tI n)):=by
  show(if n.natAbs.log2<1920 then some (D.str (toString n)) else none)=_;have hl:n.natAbs.log2<1920:=by
   by_cases z:n.natAbs=0
   ·rw[z];decide
   ·have:=(Nat.log2_lt (k:=14) z).mpr (by lia)
    lia
  rw[Ag hl]
 unfold eW orC;show(match b1 yB [.int n] with|some z=>some z|none=>_)=_
 simp only[b1,e];rfl
def GJ(x:Str):eW [.str x]=some (.str x,false):=rfl
def rb{n k:Int}(h0:0<=n)(hk:(k=3/\n<1000)∨(k=4/\n<10000)):fQ [.str (tI n),.int k]=some (.int n,false):=by
 have l1:=Hx h0;have n4:n<10000:=by lia
 have lk:((tI n).length:Int)<=k:=by
  rcases hk with⟨rfl,h⟩|⟨rfl,h⟩
  ·have:=vY (k:=3) h0 (by decide) h;lia
  ·have:=vY (k:=4) h0 (by decide) h;lia
 have l4:=vY (k:=4) h0 (by decide) n4
 have hc:bt 1 [] (fIA (ae 0)) (gN 0) aN dS [.v (.str (tI n)),.v (.int k)]=some (.f (.lst ((tI n).cps.toList.map fun c=>D.bl (inF c))),[.v (.str (tI n)),.v (.int k)]):=by
  refine aO (s1:=[.v (.str (tI n)),.v (.int k)]) (ds:=nr (tI n)) (s2:=[.e]) rfl (by
   have:(nr (tI n)).length=(tI n).length:=by unfold nr;rw[Za,Zd];rfl
   rw[this,Ad (by lia)];rfl) ?_
  exact aK (fun c=>D.str ⟨#[c]⟩) (fun c=>D.bl (inF c)) [.e] (tI n).cps.toList fun c _=>⟨[.v (.str ⟨#[c]⟩)],[.v (.str ⟨#[c]⟩)],.d (.bl (inF c)),[.v (.str ⟨#[c]⟩)],[.v (.str ⟨#[c]⟩)],rfl,rfl,aq rfl rfl rfl rfl rfl,rfl,rfl⟩
 have ln:∀s:En,s=[.v (.str (tI n)),.v (.int k)]->fCB cC (aa (ae 0) ah) s=some (.d (.int ((tI n).length:Int)),s):=fun s hs=>by rw[hs];exact aI rfl rfl (len_str (by lia))
 have ch:ax (mx bLe bLe (fC (.int 1)) (fCB cC (aa (ae 0) ah)) (ae 1)) [.v (.str (tI n)),.v (.int k)]=some (true,[.v (.str (tI n)),.v (.int k)]):=by
  have b1:bLe (.int 1) (.int ((tI n).length:Int))=some (.bl true,false):=by
   show some (D.bl (decide ((1:Int)<=((tI n).length:Int))),false)=_;rw[Ad (by lia)]
  have b2:bLe (.int ((tI n).length:Int)) (.int k)=some (.bl true,false):=by
   show some (D.bl (decide (((tI n).length:Int)<=k)),false)=_;rw[Ad lk]
  refine aC (r:=.d (.bl true)) ?_ rfl;unfold mx;simp only[fC,ln _ rfl,Xa,cont,b1];show(ae 1 [.v (.str (tI n)),.v (.int k)]).bind _=_;have:ae 1 [.v (.str (tI n)),.v (.int k)]=some (.d (.int k),[.v (.str (tI n)),.v (.int k)]):=rfl;simp only[this,Xa,cont,b2];rfl
 have al:(tI n).cps.toList.all inF=true:=Qf.mpr fun c hcm=>by
  have:=kd h0 c hcm;exact GI c (by lia) this.1
 have ai:ax (fCB pO (aa (bt 1 [] (fIA (ae 0)) (gN 0) aN dS) ah)) [.v (.str (tI n)),.v (.int k)]=some (true,[.v (.str (tI n)),.v (.int k)]):=aC (aI (ad hc rfl) rfl (ED inF (tI n).cps.toList)) (by rw[al];rfl)
 have zz:nk (ax (fOp bGt (fCB cC (aa (ae 0) ah)) (fC (.int 1)))) (ax (fOp bEq (fOp bIx (ae 0) (fC (.int 0))) (fC (.str "0")))) [.v (.str (tI n)),.v (.int k)]=some (false,[.v (.str (tI n)),.v (.int k)]):=by
  have g:ax (fOp bGt (fCB cC (aa (ae 0) ah)) (fC (.int 1))) [.v (.str (tI n)),.v (.int k)]=some (decide (((tI n).length:Int) > 1),[.v (.str (tI n)),.v (.int k)]):=aC (aq (ln _ rfl) rfl rfl rfl rfl) rfl;by_cases c:1<(tI n).length
  ·obtain⟨d,r,hd,dn⟩:=GH h0 n4 c;have hx:atI (tI n).cps.toList 0=some d:=by
    show atI (cpl (tI n)) 0=_;rw[hd];exact cb (j:=0) rfl
   refine DI (cM g (Ad (by lia))) (cM (b:=decide (V.str ⟨#[d]⟩=V.str "0")) (aC (aq (aq rfl rfl rfl rfl (ix_str (by lia) hx)) rfl rfl rfl rfl) rfl) (Ae fun z=>dn ?_))
   have z:=congrArg cpl (V.str.inj z);have:cpl ("0":Str)=[48]:=by decide +kernel
   rw[this]at z;injection z
  ·exact Hl (cM g (Ae (by lia)))
 refine ay (o:=.rt (.d (.int n)) [.v (.str (tI n)),.v (.int k)]) rfl ?_ rfl;refine am (bq (nC (f9 ch) (f9 ai)) rfl) (am (bq zz rfl) ?_);refine av (aI rfl rfl (z:=(.int n,false)) ?_);show b1 yU [.str (tI n)]=_;have e:yU (.str (tI n))=some (.int n):=by
  show(if (tI n).length<=640 then(PySem.intText? (tI n)).map D.int else none)=_;rw[Ag (by lia),PySem.W.KIN.num_reads h0 (by lia)];rfl
 simp only[b1,e];rfl
abbrev ltS:Str:="<"
abbrev gtS:Str:=">"
def lS:cpl ltS=[60]:=by decide +kernel
def qj:cpl gtS=[62]:=by decide +kernel
def ll:ltS.length=1:=by decide +kernel
def mY:gtS.length=1:=by decide +kernel
def tE(e:End):Str:=if e.2=0 then ltS++e.1 else e.1++gtS
def xD{e:End}(h:EOk e):2<=(tE e).length/\(tE e).length<=7:=by
 have h1:=h.1.1;have h2:=h.1.2.1;unfold tE;split
 ·rw[Ah,ll];lia
 ·rw[Ah,mY];lia
def EX{e:End}(h:EOk e):∀c∈cpl (tE e),60<=c/\c<=122:=by
 intro c hc;have hn:=h.1.2.2;unfold tE at hc;split at hc
 ·rw[cN,lS]at hc;rcases Va.mp hc with z|z
  ·lia
  ·have:=hn c z;lia
 ·rw[cN,qj]at hc;rcases Ze.mp hc with z|z
  ·have:=hn c z;lia
  ·have:=Wa.mp z;lia
def Cq{e:End}(h:EOk e):hV [eD e]=some (.str (tE e),false):=by
 obtain⟨n,i⟩:=e;have h1:n.length<=6:=h.1.2.1;refine ay (o:=.rt (.d (.str (tE (n,i)))) [.v (eD (n,i))]) rfl ?_ rfl;rcases h.2 with z|z
 ·have z:i=0:=z;subst z;refine bJ (dm (s:=[.v (eD (n,0))]) (aC (aq (aq rfl rfl rfl rfl (aJ (i:=1) rfl)) rfl rfl rfl rfl) rfl) ?_);exact av (aq rfl (aq rfl rfl rfl rfl (aJ (i:=0) rfl)) rfl rfl (gp (b:=n) (by rw[show(Str.ofString "<").length=1 from ll];lia)))
 ·have z:i=1:=z;subst z;refine am (bq (s:=[.v (eD (n,1))]) (aC (aq (aq rfl rfl rfl rfl (aJ (i:=1) rfl)) rfl rfl rfl rfl) rfl) rfl) ?_;exact av (aq (aq rfl rfl rfl rfl (aJ (i:=0) rfl)) rfl rfl rfl (gp (a:=n) (by rw[show(Str.ofString ">").length=1 from mY];lia)))
def lT{x:Str}(h:x.length<=1000000):vy (.str x)=some (.str x,false):=Ag h
def mo{fa:FE}{f:Str->FE}{acc y:Str}{st s1:En}{r:Rs}{z:Rs×En}(h1:fa st=some (r,s1))(h2:cont s1 r=some (.str y))(h3:(acc++y).length<=1000000)(h4:f (acc++y) s1=some z):fJc fa f acc st=some z:=by
 simp only[fJc,h1,h2,Xa];rw[Ag h3];exact h4
def ze{acc:Str}{st:En}(h:acc.length<=1000000):fJn acc st=some (.d (.str acc),st):=Ag h
def iK(x:Str):Str.empty++x=x:=Str.empty_append x
def xE{e:End}(h:EOk e):mG [eD e]=some (.str (tE e),false):=by
 obtain⟨n,i⟩:=e;have h1:n.length<=6:=h.1.2.1;have hl:=(xD h).2;refine ay (o:=.rt (.d (.str (tE (n,i)))) [.v (eD (n,i)),.v (.str n)]) rfl ?_ rfl;refine am (bm (aq rfl rfl rfl rfl (aJ (i:=0) rfl)) rfl) (av ?_);rcases h.2 with z|z
 ·have z:i=0:=z;subst z;refine KY (s:=[.v (eD (n,0)),.v (.str n)]) (aC (aq (aq rfl rfl rfl rfl (aJ (i:=1) rfl)) rfl rfl rfl rfl) rfl) ?_;refine mo rfl rfl (by rw[iK];show ltS.length<=_;rw[ll];decide) ?_
  rw[iK];exact mo (sW rfl rfl (lT (by lia))) rfl (Wc hl (by decide)) (ze (Wc hl (by decide)))
 ·have z:i=1:=z;subst z;refine KZ (s:=[.v (eD (n,1)),.v (.str n)]) (aC (aq (aq rfl rfl rfl rfl (aJ (i:=1) rfl)) rfl rfl rfl rfl) rfl) ?_;refine mo (sW rfl rfl (lT (by lia))) rfl (by rw[iK];lia) ?_
  rw[iK];exact mo rfl rfl (Wc hl (by decide)) (ze (Wc hl (by decide)))
def Cr{n:Str}:Txt.startswith (ltS++n) ltS=true:=by
 unfold Txt.startswith
 rw[Ad (show 0+ltS.length<=(ltS++n).length by rw[Ah];lia),Bh,Bw,show ltS.cps.toList=[60] from lS,ll]
 show(((cpl (ltS++n)).drop 0).take 1 == [60])=true;rw[cN,lS];rfl
def Cs{n:Str}(h:Nm n):Txt.startswith (n++gtS) ltS=false:=by
 unfold Txt.startswith
 rw[Ad (show 0+ltS.length<=(n++gtS).length by rw[Ah,ll,mY];lia),Bh,Bw,show ltS.cps.toList=[60] from lS,ll]
 obtain⟨c,r,e,_⟩:=Gf h;have hc:=h.2.2 c (by rw[e];exact Zc)
 show(((cpl (n++gtS)).drop 0).take 1 == [60])=false;rw[cN,show cpl n=c::r from e];show([c] == [60])=false;simp;lia
def GK{n:Str}:Txt.endswith (n++gtS) gtS=true:=by
 have hl:(cpl n).length=n.length:=Zd;unfold Txt.endswith
 rw[Ad (show 0+gtS.length<=(n++gtS).length by rw[Ah];lia),Bh,Bw,show gtS.cps.toList=[62] from qj,mY,Ah,mY]
 show(((cpl (n++gtS)).drop (n.length+1-1)).take 1 == [62])=true;rw[cN,qj,Nat.add_sub_cancel,← hl,List.drop_left];rfl
def J0{n:Str}:Txt.slice (ltS++n) (some 1) none=n:=by
 rw[PyProof.Rows.slice_from_eq (i:=1) (b:=((ltS++n).length:Int)) (by decide) (by rw[Ah,ll];lia) rfl]
 refine nJ ?_;show((List.drop 1 (cpl (ltS++n))).take _).toArray.toList=_;rw[cN,lS,Ah,ll];show List.take _ (cpl n)=_;refine Qj ?_;have hl:(cpl n).length=n.length:=Zd;lia
def J1{n:Str}:Txt.slice (n++gtS) none (some (-1))=n:=by
 have hl:(cpl n).length=n.length:=Zd;show StrLaws.sliceText (n++gtS) none (some (-1))=n;rw[StrLaws.sliceText_to_neg (by decide) (by rw[Ah,mY];lia)]
 refine nJ ?_;show((List.drop 0 (cpl (n++gtS))).take _).toArray.toList=_;rw[cN,List.drop_zero,Ah,mY,show(-1+((n.length+1:Nat):Int) - 0).toNat=(cpl n).length by lia,List.take_left]
def xF{e:End}(h:EOk e):mI [.str (tE e)]=some (eD e,false):=by
 obtain⟨n,i⟩:=e;have h1:n.length<=6:=h.1.2.1;have hl:=(xD h).2;refine ay (o:=.rt (.d (eD (n,i))) [.v (.str (tE (n,i)))]) rfl ?_ rfl;rcases h.2 with z|z
 ·have z:i=0:=z;subst z;have e1:tE (n,0)=ltS++n:=Ag rfl;rw[e1]at hl ⊢;have b:pY (.str (ltS++n)) [.str "<"]=some (.bl true,false):=by
   show some (D.bl (Txt.startswith (ltS++n) ltS),false)=_;rw[Cr]
  have c:bSl (.str (ltS++n)) (some 1) none=some (.str n,false):=by rw[DJ (by lia),J0]
  refine bJ (dm (s:=[.v (.str (ltS++n))]) (aC (cE rfl rfl rfl rfl rfl rfl b) rfl) ?_);exact av (bO (ad (dN rfl rfl rfl rfl c) rfl) rfl (by show 2<=1000000;decide))
 ·have z:i=1:=z;subst z;have e1:tE (n,1)=n++gtS:=Al (show ¬ (1:Int)=0 by decide)
  rw[e1]at hl ⊢;have b:pY (.str (n++gtS)) [.str "<"]=some (.bl false,false):=by
   show some (D.bl (Txt.startswith (n++gtS) ltS),false)=_;rw[Cs h.1]
  have b2:Eb (.str (n++gtS)) [.str ">"]=some (.bl true,false):=by
   show some (D.bl (Txt.endswith (n++gtS) gtS),false)=_;rw[GK]
  have c:bSl (.str (n++gtS)) none (some (-1))=some (.str n,false):=by rw[DJ (by lia),J1]
  refine am (bq (s:=[.v (.str (n++gtS))]) (aC (cE rfl rfl rfl rfl rfl rfl b) rfl) rfl) (bJ (dm (s:=[.v (.str (n++gtS))]) (aC (cE rfl rfl rfl rfl rfl rfl b2) rfl) ?_));exact av (bO (ad (dN rfl rfl rfl rfl c) rfl) rfl (by show 2<=1000000;decide))
abbrev tlS:Str:="~"
abbrev spS:Str:=" "
def EY:tlS=⟨#[126]⟩:=by decide +kernel
def vZ:spS=⟨#[32]⟩:=by decide +kernel
def tJ(j:Jnt):Str:=Txt.join tlS (j.map tE)
def Ly{sep:Str}{ys:List Str}(h:(ys.map (·.length)).sum+ys.length*sep.length<=16777216):dF (.str sep) [.lst (ys.map D.str)]=some (.str (Txt.join sep ys),false):=by
 show(gL (ys.map D.str)).bind (fun ys=>if (ys.map (·.length)).sum+ys.length*sep.length<=16777216 then some (D.str (Txt.join sep ys),false) else none)=_;rw[gM];show(if _ then _ else _)=_;rw[Ag h]
theorem xG{B:Nat}:∀{ys:List Str},(∀y∈ys,y.length<=B)->(ys.map (·.length)).sum<=ys.length*B
 | [],_=>Wh _
 | y::r,h=>by
  have h1:=h y Zc;have h2:=xG (ys:=r) fun z hz=>h z (Vb _ hz);rw[Xf,List.sum_cons,Qa,Nat.succ_mul];lia
def o0{sep:Str}{ys:List Str}(B:Nat)(h1:∀y∈ys,y.length<=B)(h2:ys.length*B+ys.length*sep.length<=16777216):dF (.str sep) [.lst (ys.map D.str)]=some (.str (Txt.join sep ys),false)/\(Txt.join sep ys).length<=ys.length*B+ys.length*sep.length:=by
 have:=xG h1;refine⟨Ly (by lia),?_⟩
 rw[fU];have:=StrLaws.join_length_le sep ys;lia
def rd{j:Jnt}(h:JOk j):j.length<=2/\1<=j.length:=by have:=h.hl;lia
def ke{j:Jnt}(h:JOk j):dF (.str "~") [.lst ((j.map tE).map D.str)]=some (.str (tJ j),false)/\(tJ j).length<=16:=by
 have e:tlS.length=1:=by decide +kernel
 have hl:=(rd h).1
 have:=o0 (sep:=tlS) (ys:=j.map tE) 7 (fun y hy=>by
  obtain⟨e,he,rfl⟩:=Yb.mp hy
  exact(xD (h.ok e he)).2) (by rw[Za,e];lia)
 refine⟨this.1,Wc this.2 ?_⟩;rw[Za,e];lia
theorem zf{c d:Nat}:∀{ws:List (List Nat)},d∈flt c ws->d=c∨∃w∈ws,d∈w
 | [],h=>by cases h
 | w::ws,h=>by
  rcases Va.mp h with z|z
  ·exact .inl z
  ·rcases Ze.mp z with z|z
   ·exact .inr ⟨w,Zc,z⟩
   ·rcases zf z with z|⟨v,hv,z⟩
    ·exact .inl z
    ·exact .inr ⟨v,Vb _ hv,z⟩
theorem re{c d:Nat}{ws:List Str}(h:d∈cpl (Txt.join ⟨#[c]⟩ ws)):d=c∨∃w∈ws,d∈cpl w:=by
 rw[fU]at h;cases ws with
 | nil=>cases h
 | cons w ws =>
  rw[ie]at h;rcases Ze.mp h with z|z
  ·exact .inr ⟨w,Zc,z⟩
  ·rcases zf z with z|⟨v,hv,z⟩
   ·exact .inl z
   ·obtain⟨x,hx,rfl⟩:=Yb.mp hv;exact .inr ⟨x,Vb _ hx,z⟩
def uD{j:Jnt}(h:JOk j):∀c∈cpl (tJ j),60<=c/\c<=126:=by
 intro c hc;unfold tJ at hc;rw[EY]at hc;rcases re hc with z|⟨w,hw,z⟩
 ·lia
 ·obtain⟨e,he,rfl⟩:=Yb.mp hw;have:=EX (h.ok e he) c z;lia
def kf{fe:FE}{st s1 s2:En}{r:Rs}{ds:List D}(h1:fe st=some (r,s1))(h2:esc r s1=some (.lst ds,s2)):fIA fe st=some (ds,s2):=by
 have e1:fIL fe st=some (ds,s2):=by simp only[fIL,h1,h2,Xa,D.its]
 unfold fIA
 first
  | (simp only[e1];done)
  | (unfold orI;simp only[e1];done)
  | (simp[orI,e1])
def Hy{f:End->D}{G:List D->Option Rz}{fe:FE}(hfe:fe=aG G (aa (ae 0) ah)){j:Jnt}{g:End->Str}(h:∀e∈j,G [f e]=some (.str (g e),false)) :
  bB (gN 0) aN fe 1 (j.map f) [.e]=some ((j.map g).map D.str,[.e]):=by
 subst hfe;rw[Vc];exact aK (fg:=gN 0) (fc:=aN) (k:=1) f (D.str ∘ g) [.e] j fun e he=>⟨[.v (f e)],[.v (f e)],.d (.str (g e)),[.v (f e)],[.v (f e)],rfl,rfl,az rfl rfl (h e he) rfl,rfl,rfl⟩
def nL{j:Jnt}(h:JOk j):gr [jD j]=some (.str (tJ j),false):=by
 refine ay (o:=.rt (.d (.str (tJ j))) [.v (jD j)]) rfl ?_ rfl;exact av (cE rfl rfl rfl (ad (aO (s1:=[.v (jD j)]) (ds:=j.map eD) (s2:=[.e]) (cV rfl rfl) (eV (n:=2) (by rw[Za];exact(rd h).1) (by decide) rfl) (Hy rfl fun e he=>xE (h.ok e he))) rfl) rfl rfl (ke h).1)
def uE{j:Jnt}(h:JOk j):jz [.str (tJ j)]=some (jD j,false):=by
 have ne:j.map tE≠[]:=fun z=>by
  have q:=congrArg List.length z;rw[Za,Yg]at q;have:=(rd h).2;lia
 have sj:Txt.split (tJ j) tlS=j.map tE:=by
  unfold tJ;rw[EY];exact q9 ne fun w hw hc=>by
   obtain⟨e,he,rfl⟩:=Yb.mp hw;have:=EX (h.ok e he) 126 hc;lia
 have l16:=(ke h).2;have bs:dX (.str (tJ j)) [.str "~"]=some (.lst ((j.map tE).map D.str),true):=by
  show(if ((tlS.length == 0)=false/\(tJ j).length<=100000) then some (D.lst ((Txt.split (tJ j) tlS).map D.str),true) else none)=_;rw[Ag ⟨by decide +kernel,by lia⟩,sj]
 have ec:bB (gN 0) aN gQ 1 ((j.map tE).map D.str) [.e]=some (j.map eD,[.e]):=by
  rw[Vc];exact aK (fg:=gN 0) (fc:=aN) (k:=1) (D.str ∘ tE) eD [.e] j fun e he=>⟨[.v (.str (tE e))],[.v (.str (tE e))],.d (eD e),[.v (.str (tE e))],[.v (.str (tE e))],rfl,rfl,aW rfl rfl (xF (h.ok e he)),rfl,rfl⟩
 refine ay (o:=.rt (.d (jD j)) [.v (.str (tJ j)),.v (jD j)]) rfl ?_ rfl;refine am (bm (aI (ad (aO (s1:=[.v (.str (tJ j)),.e]) (ds:=(j.map tE).map D.str) (s2:=[.e]) (kf (cE rfl rfl rfl rfl rfl rfl bs) rfl) (eV (n:=2) (by rw[Za,Za];exact(rd h).1) (by decide) rfl) ec) rfl) rfl (br _)) rfl) ?_
 exact am (bq (s:=[.v (.str (tJ j)),.v (jD j)]) (f9 (aC (az rfl rfl (vT h) rfl) rfl)) rfl) rfl
def tJs(js:List Jnt):Str:=Txt.join spS (js.map tJ)
def f6{js:List Jnt}(h:fK js):dF (.str " ") [.lst ((js.map tJ).map D.str)]=some (.str (tJs js),false)/\(tJs js).length<=102:=by
 have e:spS.length=1:=by decide +kernel
 have hl:=h.1
 have:=o0 (sep:=spS) (ys:=js.map tJ) 16 (fun y hy=>by
  obtain⟨j,hj,rfl⟩:=Yb.mp hy
  exact(ke (h.2 j hj)).2) (by rw[Za,e];lia)
 refine⟨this.1,Wc this.2 ?_⟩;rw[Za,e];lia
def mq{js:List Jnt}(h:fK js):fP [jsD js]=some (.str (tJs js),false):=by
 have ec:bB (gN 0) aN gd 1 (js.map jD) [.e]=some ((js.map tJ).map D.str,[.e]):=by
  rw[Vc];exact aK (fg:=gN 0) (fc:=aN) (k:=1) jD (D.str ∘ tJ) [.e] js fun j hj=>⟨[.v (jD j)],[.v (jD j)],.d (.str (tJ j)),[.v (jD j)],[.v (jD j)],rfl,rfl,az rfl rfl (nL (h.2 j hj)) rfl,rfl,rfl⟩
 refine ay (o:=.rt (.d (.str (tJs js))) [.v (jsD js)]) rfl ?_ rfl;exact av (cE rfl rfl rfl (ad (aO (s1:=[.v (jsD js)]) (ds:=js.map jD) (s2:=[.e]) (cV rfl rfl) (eV (n:=6) (by rw[Za];exact h.1) (by decide) rfl) ec) rfl) rfl rfl (f6 h).1)
def dE{js:List Jnt}(h:fK js):bz [jsD js]=some (.str (tJs js),false):=by
 obtain⟨sf,e,s2,rfl,_⟩:=oH (fg:=gN 2) (B:=dI) jD js
  (fun gone st=>∃s2:Sl,st=[.v (jsD js),.o (.lst ((gone.map tJ).map D.str)),s2]/\s2.isIo=false)
  (by
   rintro gone j rest st ha ⟨s2,rfl,q⟩;have hg:=congrArg List.length ha;simp only[Qb,Qa]at hg;have hj:JOk j:=h.2 j (by rw[ha];simp)
   have:=h.1;have ec:bB (gN 0) aN dH 1 (j.map eD) [.e]=some ((j.map tE).map D.str,[.e]):=Hy rfl fun e he=>Cq (hj.ok e he);refine⟨_,[.v (jsD js),.o (.lst (((gone++[j]).map tJ).map D.str)),.v (jD j)],fS rfl q,?_,.v (jD j),rfl,rfl⟩;refine iq (wV rfl rfl rfl (ad (cE rfl rfl rfl (ad (aO (s1:=[.v (jsD js),.o (.lst ((gone.map tJ).map D.str)),.v (jD j)]) (ds:=j.map eD) (s2:=[.e]) (cV rfl rfl) (eV (n:=2) (by rw[Za];exact(rd hj).1) (by decide) rfl) ec) rfl) rfl rfl (ke hj).1) rfl) rfl rfl rfl (oX (xs:=(gone.map tJ).map D.str) (by rw[Za,Za];lia)) ?_)
   rw[Wd,Wd];rfl)
  js [] [.v (jsD js),.o (.lst []),.e] rfl ⟨.e,rfl,rfl⟩
 refine ay (o:=.rt (.d (.str (tJs js))) [.v (jsD js),.o (.lst ((js.map tJ).map D.str)),s2]) rfl ?_ rfl;exact am (cO (cc rfl rfl (by show 0<=1000000;decide)) rfl) (am (oE (cV rfl rfl) e) (av (cE rfl rfl rfl rfl rfl rfl (f6 h).1)))
def iV{js:List Jnt}(h:fK js):dQ [.lst ((js.map tJ).map D.str)]=some (jsD js,false):=by
 have ec:bB (gN 0) aN ge 1 ((js.map tJ).map D.str) [.e]=some (js.map jD,[.e]):=by
  rw[Vc];exact aK (fg:=gN 0) (fc:=aN) (k:=1) (D.str ∘ tJ) jD [.e] js fun j hj=>⟨[.v (.str (tJ j))],[.v (.str (tJ j))],.d (jD j),[.v (.str (tJ j))],[.v (.str (tJ j))],rfl,rfl,aW rfl rfl (uE (h.2 j hj)),rfl,rfl⟩
 refine ay (o:=.rt (.d (jsD js)) [.v (.lst ((js.map tJ).map D.str))]) rfl ?_ rfl;exact av (aI (ad (aO (s1:=[.v (.lst ((js.map tJ).map D.str))]) (ds:=(js.map tJ).map D.str) (s2:=[.e]) (kf rfl rfl) (eV (n:=6) (by rw[Za,Za];exact h.1) (by decide) rfl) ec) rfl) rfl (br _))
def EZ{ys:List Str}{b:Str}:w6 (.lst (ys.map D.str)) [.str b]=some (.int (ys.count b:Nat),false):=by
 show(gL (ys.map D.str)).bind (fun ys=>some (D.int (ys.count b:Nat),false))=_;rw[gM];rfl
def sY{b:Str}{ys:List Str}(h:b∈ys):bIndex (.lst (ys.map D.str)) [.str b]=some (.int (ys.idxOf b:Nat),false):=by
 show(gL (ys.map D.str)).bind (fun ys=>if b∈ys then some (D.int (ys.idxOf b:Nat),false) else none)=_;rw[gM];show(if b∈ys then _ else _)=_;rw[Ag h]
def o3{ds:List D}{lo hi:Option Int}:bSl (.lst ds) lo hi=some (.lst (cutD ds lo hi),true):=rfl
def uF{ds:List D}{lo hi:Option Int}:eu (.lst ds) lo hi=some (.lst (cutD ds lo hi),true):=rfl
def v0{a b:List Str}{m:Str}:cutD ((a++m::b).map D.str) none (some ((a.length:Nat):Int))=a.map D.str/\cutD ((a++m::b).map D.str) (some (((a.length+1:Nat)):Int)) none=b.map D.str:=by
 constructor
 ·rw[DP (by rw[Za,Qb];lia),Wd,BE (by rw[Za];lia),Qj (by rw[Za];lia)]
 ·rw[kK (by rw[Za,Qb,Qa];lia),Wd,Xf]
  have:(a.map D.str++D.str m::b.map D.str)=(a.map D.str++[D.str m])++b.map D.str:=by simp
  rw[this,List.drop_append_of_le_length (by simp),List.drop_of_length_le (by simp),Yh]
def v4{g c:List Jnt}{m:Str}(hg:fK g)(hc:fK c)(h1:m∉g.map tJ)(h2:m∉c.map tJ):gt [.lst ((g.map tJ++m::c.map tJ).map D.str),.str m]=some (.tup [jsD g,jsD c],false):=by
 have ct:(g.map tJ++m::c.map tJ).count m=1:=by
  rw[List.count_append,List.count_cons_self,List.count_eq_zero.mpr h1,List.count_eq_zero.mpr h2]
 have ix:(g.map tJ++m::c.map tJ).idxOf m=(g.map tJ).length:=by
  rw[List.idxOf_append,Al h1,List.idxOf_cons_self,Xl]
 have e1:=EZ (ys:=g.map tJ++m::c.map tJ) (b:=m);rw[ct]at e1;have e2:=sY (ys:=g.map tJ++m::c.map tJ) (b:=m) (by simp)
 rw[ix]at e2;obtain⟨c1,c2⟩:=v0 (a:=g.map tJ) (b:=c.map tJ) (m:=m);have s1:bSl (.lst ((g.map tJ++m::c.map tJ).map D.str)) none (some (((g.map tJ).length:Nat):Int))=some (.lst ((g.map tJ).map D.str),true):=by rw[o3,c1]
 have s2:bSl (.lst ((g.map tJ++m::c.map tJ).map D.str)) (some ((((g.map tJ).length:Nat):Int)+1)) none=some (.lst ((c.map tJ).map D.str),true):=by
  rw[o3,show(((g.map tJ).length:Nat):Int)+1=(((g.map tJ).length+1:Nat):Int) from rfl,c2]
 refine ay (o:=.rt (.d (.tup [jsD g,jsD c])) [.v (.lst ((g.map tJ++m::c.map tJ).map D.str)),.v (.str m),.v (.int (((g.map tJ).length:Nat):Int))]) rfl ?_ rfl;refine am (bq (s:=[.v (.lst ((g.map tJ++m::c.map tJ).map D.str)),.v (.str m),.e]) (aC (aq (cE rfl rfl rfl rfl rfl rfl e1) rfl rfl rfl rfl) rfl) rfl) ?_;refine am (bm (cE rfl rfl rfl rfl rfl rfl e2) rfl) ?_;exact av (bO (ad (aW (ad (dN rfl rfl rfl rfl s1) rfl) rfl (iV hg)) (ad (aW (ad (dN rfl rfl rfl rfl s2) rfl) rfl (iV hc)) rfl)) rfl (by show 2<=1000000;decide))
theorem zg{j:Jnt}(h:JOk j):∃c∈cpl (tJ j),c=60∨c=62:=by
 have hl:=(rd h).2;cases j with
 | nil=>simp at hl
 | cons e r =>
  have me:∃c∈cpl (tE e),c=60∨c=62:=by
   unfold tE;split
   ·exact⟨60,by rw[cN,lS];simp,.inl rfl⟩
   ·exact⟨62,by rw[cN,qj];simp,.inr rfl⟩
  obtain⟨c,hc,z⟩:=me;refine⟨c,?_,z⟩;unfold tJ;rw[EY,fU,Xf,ie];exact Yk _ hc
def E8{j:Jnt}(h:JOk j){x:Str}(hx:60∉cpl x/\62∉cpl x):tJ j≠x:=fun z=>by
 obtain⟨c,hc,q⟩:=zg h;rw[z]at hc;rcases q with rfl|rfl
 ·exact hx.1 hc
 ·exact hx.2 hc
def uG{js:List Jnt}(h:∀j∈js,JOk j){x:Str}(hx:60∉cpl x/\62∉cpl x):x∉js.map tJ:=fun z=>by
 obtain⟨j,hj,q⟩:=Yb.mp z;exact E8 (h j hj) hx q
abbrev toW:Str:="to"
abbrev toS:Str:=" to "
def wDd:Dd->List Str
 | .line w ns=>w::ns.map tI
 | .set g c=>g.map tJ++toW::c.map tJ
def tDd(d:Dd):Str:=Txt.join spS (wDd d)
def HOk.js{g:List Jnt}(h:HOk g):fK g:=⟨by have:=h.hl;lia,h.ok⟩
def HOk.ne{g:List Jnt}(h:HOk g):g≠[]:=fun z=>by have:=h.hl;rw[z]at this;simp at this
def Lz:toS=spS++toW++spS:=by decide +kernel
theorem zh{g c:List Jnt}(hg:g≠[])(hc:c≠[]):tDd (.set g c)=tJs g++toS++tJs c:=by
 unfold tDd wDd tJs;cases g with
 | nil=>exact absurd rfl hg
 | cons j g =>
  cases c with
  | nil=>exact absurd rfl hc
  | cons k c =>
   show Txt.join spS ((tJ j::g.map tJ)++toW::tJ k::c.map tJ)=Txt.join spS (tJ j::g.map tJ)++toS++Txt.join spS (tJ k::c.map tJ);rw[nK,cm,Lz];simp only[oZ]
def lU{d:Dd}(h:nH d):(wDd d).length<=5/\∀w∈wDd d,w.length<=16/\32∉cpl w/\10∉cpl w:=by
 have lw:∀w∈(["turn","change","to"]:List Str),w.length<=16/\32∉cpl w/\10∉cpl w:=by decide +kernel
 cases d with
 | line w ns =>
  obtain⟨h1,h2⟩:=h;refine⟨by show(w::ns.map tI).length<=5;rw[Qa,Za];lia,fun x hx=>?_⟩
  rcases Va.mp hx with z|z
  ·subst z;rcases h1 with⟨z,_⟩|⟨z,_⟩
   ·rw[z];exact lw _ (by simp)
   ·rw[z];exact lw _ (by simp)
  ·obtain⟨n,hn,rfl⟩:=Yb.mp z;have b:=h2 n hn;have:=vY (k:=3) b.1 (by decide) b.2
   exact⟨by lia,fun z=>by have:=kd b.1 _ z;lia,fun z=>by have:=kd b.1 _ z;lia⟩
 | set g c =>
  obtain⟨hg,hc,_⟩:=h;have hg1:=hg.hl;have hc1:=hc.hl;refine⟨by show(g.map tJ++toW::c.map tJ).length<=5;rw[Qb,Qa,Za,Za];lia,fun x hx=>?_⟩
  have jt:∀j:Jnt,JOk j->(tJ j).length<=16/\32∉cpl (tJ j)/\10∉cpl (tJ j):=fun j hj=>⟨(ke hj).2,fun z=>by have:=uD hj _ z;lia,fun z=>by have:=uD hj _ z;lia⟩
  rcases Ze.mp hx with z|z
  ·obtain⟨j,hj,rfl⟩:=Yb.mp z;exact jt j (hg.ok j hj)
  ·rcases Va.mp z with z|z
   ·rw[z];exact lw _ (by simp)
   ·obtain⟨j,hj,rfl⟩:=Yb.mp z;exact jt j (hc.ok j hj)
def nM{d:Dd}(h:nH d):dF (.str " ") [.lst ((wDd d).map D.str)]=some (.str (tDd d),false)/\(tDd d).length<=85:=by
 obtain⟨h1,h2⟩:=lU h;have e:spS.length=1:=by decide +kernel
 have:=o0 (sep:=spS) (ys:=wDd d) 16 (fun y hy=>(h2 y hy).1) (by rw[e];lia)
 refine⟨this.1,Wc this.2 ?_⟩;rw[e];lia
def LP:D->D
 | .int n=>.str (tI n)
 | d=>d
def sZ{fe:FE}(hfe:fe=fCB eW (aa (ae 0) ah)){w:Str}{ns:List Int}(h:∀n∈ns,0<=n/\n<10000):bB (gN 0) aN fe 1 (.str w::ns.map D.int) [.e]=some ((w::ns.map tI).map D.str,[.e]):=by
 subst hfe;have:=lD (fg:=gN 0) (fc:=aN) (fe:=fCB eW (aa (ae 0) ah)) (k:=1) LP (.str w::ns.map D.int) [.e] fun x hx=>by
  rcases Va.mp hx with z|z
  ·subst z;exact⟨[.v (.str w)],[.v (.str w)],.d (.str w),[.v (.str w)],[.v (.str w)],rfl,rfl,aI rfl rfl (GJ w),rfl,rfl⟩
  ·obtain⟨n,hn,rfl⟩:=Yb.mp z;exact⟨[.v (.int n)],[.v (.int n)],.d (.str (tI n)),[.v (.int n)],[.v (.int n)],rfl,rfl,aI rfl rfl (iJ (h n hn).1 (h n hn).2),rfl,rfl⟩
 rw[this,Xf,Vc,Xf,Vc];rfl
theorem xH{d:Dd}(h:nH d):gj [ddD d]=some (.str (tDd d),false):=by
 refine ay (o:=.rt (.d (.str (tDd d))) [.v (ddD d)]) rfl ?_ rfl;cases d with
 | line w ns =>
  have hl:(w::ns.map tI).length<=5:=(lU h).1;rw[Qa,Za]at hl;refine bJ (dm (s:=[.v (ddD (.line w ns))]) (aC (aI (ad (aq rfl rfl rfl rfl (aJ (i:=0) rfl)) rfl) rfl rfl) rfl) ?_);exact av (cE rfl rfl rfl (ad (aO (s1:=[.v (ddD (.line w ns))]) (ds:=.str w::ns.map D.int) (s2:=[.e]) (cV rfl rfl) (eV (n:=5) (by rw[Qa,Za];exact hl) (by decide) rfl) (sZ rfl fun n hn=>⟨(h.2 n hn).1,by have:=(h.2 n hn).2;lia⟩)) rfl) rfl rfl (nM h).1)
 | set g c =>
  have l1:=(f6 h.1.js).2;have l2:=(f6 h.2.1.js).2;have e4:toS.length=4:=by decide +kernel
  rw[zh h.1.ne h.2.1.ne];refine am (bq (s:=[.v (dD g c)]) (aC (aI (ad (aq rfl rfl rfl rfl (aJ (i:=0) rfl)) rfl) rfl rfl) rfl) rfl) ?_;exact av (aq (aq (az (ad (aq rfl rfl rfl rfl (aJ (i:=0) rfl)) rfl) rfl (dE h.1.js) rfl) rfl rfl rfl (gp (a:=tJs g) (b:=toS) (by lia))) (az (ad (aq rfl rfl rfl rfl (aJ (i:=1) rfl)) rfl) rfl (dE h.2.1.js) rfl) rfl rfl (gp (a:=tJs g++toS) (b:=tJs c) (by rw[Ah];lia)))
theorem v5{d:Dd}(h:nH d):kO [ddD d]=some (.str (tDd d),false):=by
 cases d with
 | line w ns =>
  have hl:(w::ns.map tI).length<=5:=(lU h).1;rw[Qa,Za]at hl;refine ay (o:=.rt (.d (.str (tDd (.line w ns)))) [.v (ddD (.line w ns)),.e,.e]) rfl ?_ rfl;refine bJ (dm (s:=[.v (ddD (.line w ns)),.e,.e]) (aC (aI (ad (aq rfl rfl rfl rfl (aJ (i:=0) rfl)) rfl) rfl rfl) rfl) ?_);exact av (cE rfl rfl rfl (ad (aO (s1:=[.v (ddD (.line w ns)),.e,.e]) (ds:=.str w::ns.map D.int) (s2:=[.e]) (cV rfl rfl) (eV (n:=5) (by rw[Qa,Za];exact hl) (by decide) rfl) (sZ rfl fun n hn=>⟨(h.2 n hn).1,by have:=(h.2 n hn).2;lia⟩)) rfl) rfl rfl (nM h).1)
 | set g c =>
  have l1:=(f6 h.1.js).2;have l2:=(f6 h.2.1.js).2;have e4:toS.length=4:=by decide +kernel
  refine ay (o:=.rt (.d (.str (tDd (.set g c)))) [.v (dD g c),.v (.str (tJs g)),.v (.str (tJs c))]) rfl ?_ rfl;rw[zh h.1.ne h.2.1.ne];refine am (bq (s:=[.v (dD g c),.e,.e]) (aC (aI (ad (aq rfl rfl rfl rfl (aJ (i:=0) rfl)) rfl) rfl rfl) rfl) rfl) ?_;refine am (bm (az (ad (aq rfl rfl rfl rfl (aJ (i:=0) rfl)) rfl) rfl (mq h.1.js) rfl) rfl) (am (bm (az (ad (aq rfl rfl rfl rfl (aJ (i:=1) rfl)) rfl) rfl (mq h.2.1.js) rfl) rfl) (av ?_));refine mo (sW rfl rfl (lT (x:=tJs g) (by lia))) rfl (by rw[iK];lia) ?_
  rw[iK];refine mo rfl rfl (by rw[Ah,show(Str.ofString " to ").length=4 from e4];lia) ?_
  exact mo (sW rfl rfl (lT (x:=tJs c) (by lia))) rfl (by rw[Ah,Ah,show(Str.ofString " to ").length=4 from e4];lia) (ze (by rw[Ah,Ah,show(Str.ofString " to ").length=4 from e4];lia))
def uH{c:Nat}{sep:Str}{ws:List Str}(hs:sep=⟨#[c]⟩)(ne:ws≠[])(h:∀w∈ws,c∉cpl w)(hl:(Txt.join sep ws).length<=100000):dX (.str (Txt.join sep ws)) [.str sep]=some (.lst (ws.map D.str),true):=by
 subst hs;show(if (((⟨#[c]⟩:Str).length == 0)=false/\(Txt.join ⟨#[c]⟩ ws).length<=100000) then some (D.lst ((Txt.split (Txt.join ⟨#[c]⟩ ws) ⟨#[c]⟩).map D.str),true) else none)=_;rw[Ag ⟨rfl,hl⟩,q9 ne h]
abbrev rf:List (Str×Int):=[("turn",2),("change",4)]
def E9:dP rf "turn"=some 2:=by decide +kernel
def Fb:dP rf "change"=some 4:=by decide +kernel
def gC:(60∉cpl ("turn":Str)/\62∉cpl ("turn":Str))/\(60∉cpl ("change":Str)/\62∉cpl ("change":Str))/\(60∉cpl toW/\62∉cpl toW)/\60∉cpl ("/":Str)/\62∉cpl ("/":Str):=by decide +kernel
def GL{x:Str}(h1:x≠"turn")(h2:x≠"change"):dP rf x=none:=by
 unfold dP rf;rw[Qh,Ae (fun z=>h1 z.symm),Qh,Ae (fun z=>h2 z.symm)];rfl
def v6{rows:List (Str×Int)}{fe:FE}{st s:En}{r:Rs}{a:Str}{b:Bool}(h1:fe st=some (r,s))(h2:cont s r=some (.str a))(h3:(dP rows a).isSome=b):uf false rows fe st=some (.d (.bl b),s):=by
 simp only[uf,h1,h2,Xa,h3];rfl
def GM{rows:List (Str×Int)}{fe:FE}{st s:En}{r:Rs}{a:Str}{b:Int}(h1:fe st=some (r,s))(h2:cont s r=some (.str a))(h3:dP rows a=some b):yX rows fe st=some (.d (.int b),s):=by
 simp only[yX,h1,h2,Xa,h3]
def LA(i j:Int):b9 (.int i) (.int j)=some (.int (i+j),false):=rfl
def v7{w:Str}{ns:List Int}(h:nH (.line w ns)):fv [.lst ((w::ns.map tI).map D.str)]=some (ddD (.line w ns),false):=by
 obtain⟨h1,h2⟩:=h;have lk:dP rf w=some (ns.length:Int):=by
  rcases h1 with⟨rfl,z⟩|⟨rfl,z⟩
  ·rw[z];exact E9
  ·rw[z];exact Fb
 have hl:ns.length<=4:=by lia
 have ec:bB (gN 0) aN dY 1 ((ns.map tI).map D.str) [.e]=some (ns.map D.int,[.e]):=by
  rw[Vc];exact aK (fg:=gN 0) (fc:=aN) (k:=1) (D.str ∘ tI) D.int [.e] ns fun n hn=>⟨[.v (.str (tI n))],[.v (.str (tI n))],.d (.int n),[.v (.str (tI n))],[.v (.str (tI n))],rfl,rfl,az rfl rfl (rb (h2 n hn).1 (.inl ⟨rfl,(h2 n hn).2⟩)) rfl,rfl,rfl⟩
 have s1:eu (.lst ((w::ns.map tI).map D.str)) none (some 1)=some (.lst [.str w],true):=by
  rw[uF];have:=DP (ds:=(w::ns.map tI).map D.str) (j:=1) (by rw[Za,Qa];lia)
  rw[show(1:Int)=((1:Nat):Int) from rfl,this];rfl
 have s2:eu (.lst ((w::ns.map tI).map D.str)) (some 1) none=some (.lst ((ns.map tI).map D.str),true):=by
  rw[uF];have:=kK (ds:=(w::ns.map tI).map D.str) (i:=1) (by rw[Za,Qa];lia)
  rw[show(1:Int)=((1:Nat):Int) from rfl,this];rfl
 have ix:bIx (.lst ((w::ns.map tI).map D.str)) (.int 0)=some (.str w,false):=bS (cb (j:=0) rfl);have nn:bNe (.int (((w::ns.map tI).map D.str).length:Int)) (.int (1+(ns.length:Int)))=some (.bl false,false):=by
  have e:(((w::ns.map tI).map D.str).length:Int)=1+(ns.length:Int):=by rw[Za,Qa,Za];lia
  rw[e];show some (D.bl (!decide (V.int (1+(ns.length:Int))=V.int (1+(ns.length:Int)))),false)=_;rw[Ad rfl];rfl
 refine ay (o:=.rt (.d (ddD (.line w ns))) [.v (.lst ((w::ns.map tI).map D.str))]) rfl ?_ rfl;refine am (bq (s:=[.v (.lst ((w::ns.map tI).map D.str))]) (aC (aq (aI rfl rfl rfl) (aq rfl (GM (aq rfl rfl rfl rfl ix) rfl lk) rfl rfl (LA _ _)) rfl rfl nn) rfl) rfl) ?_;exact av (aI (ad (aq (dN rfl rfl rfl rfl s1) (aO (s1:=[.v (.lst ((w::ns.map tI).map D.str))]) (ds:=(ns.map tI).map D.str) (s2:=[.e]) (kf (dN rfl rfl rfl rfl s2) rfl) (eV (n:=4) (by rw[Za,Za];exact hl) (by decide) rfl) ec) rfl rfl (dO (a:=[.str w]) (b:=ns.map D.int) (by rw[Za];show 1+ns.length<=1000000;lia))) rfl) rfl (br _))
def xI{g c:List Jnt}(h:nH (.set g c)):gh [.lst ((g.map tJ++toW::c.map tJ).map D.str)]=some (dD g c,false):=by
 obtain⟨hg,hc,hd⟩:=h;have sd:=v4 (m:=toW) hg.js hc.js (uG hg.ok gC.2.2.1) (uG hc.ok gC.2.2.1);refine ay (o:=.rt (.d (dD g c)) [.v (.lst ((g.map tJ++toW::c.map tJ).map D.str)),.v (dD g c)]) rfl ?_ rfl;refine am (bm (aW rfl rfl sd) rfl) ?_;exact am (bq (s:=[.v (.lst ((g.map tJ++toW::c.map tJ).map D.str)),.v (dD g c)]) (f9 (aC (az rfl rfl hd rfl) rfl)) rfl) rfl
def v8{d:Dd}(h:nH d):kQ [.str (tDd d)]=some (ddD d,false):=by
 obtain⟨w1,w2⟩:=lU h;have l85:=(nM h).2;have ne:wDd d≠[]:=by cases d<;>simp[wDd]
 have bs:dX (.str (tDd d)) [.str " "]=some (.lst ((wDd d).map D.str),true):=uH (c:=32) vZ ne (fun w hw=>(w2 w hw).2.1) (Wc l85 (by decide))
 cases d with
 | line w ns =>
  have ix:bIx (.lst ((w::ns.map tI).map D.str)) (.int 0)=some (.str w,false):=bS (cb (j:=0) rfl);have lk:(dP rf w).isSome=true:=by
   rcases h.1 with⟨rfl,z⟩|⟨rfl,z⟩
   ·rw[E9];rfl
   ·rw[Fb];rfl
  refine ay (o:=.rt (.d (ddD (.line w ns))) [.v (.str (tDd (.line w ns))),.v (.lst ((w::ns.map tI).map D.str))]) rfl ?_ rfl;refine am (cO (cE rfl rfl rfl rfl rfl rfl bs) rfl) (bJ (dm (aC (v6 (aq rfl rfl rfl rfl ix) rfl lk) rfl) ?_));exact av (aW rfl rfl (v7 h))
 | set g c =>
  have hgn:=h.1.ne;have hx:∃j r,g=j::r:=by cases g with
   | nil=>exact absurd rfl hgn
   | cons j r=>exact⟨j,r,rfl⟩
  obtain⟨j,r,rfl⟩:=hx;have ix:bIx (.lst (((j::r).map tJ++toW::c.map tJ).map D.str)) (.int 0)=some (.str (tJ j),false):=bS (cb (j:=0) rfl);have hj:=h.1.ok j Zc;have lk:(dP rf (tJ j)).isSome=false:=by rw[GL (E8 hj gC.1) (E8 hj gC.2.1)];rfl
  refine ay (o:=.rt (.d (dD (j::r) c)) [.v (.str (tDd (.set (j::r) c))),.v (.lst (((j::r).map tJ++toW::c.map tJ).map D.str))]) rfl ?_ rfl;refine am (cO (cE rfl rfl rfl rfl rfl rfl bs) rfl) (am (bq (aC (v6 (aq rfl rfl rfl rfl ix) rfl lk) rfl) rfl) ?_);exact av (aW rfl rfl (xI h))
abbrev miS:Str:="-"
def Hz:miS=⟨#[45]⟩:=by decide +kernel
abbrev lm:Str:="cuts"
abbrev ig:Str:="joins"
abbrev mr:Str:="ring"
abbrev cx:Str:="knots"
abbrev cf:Str:="cover"
abbrev slW:Str:="/"
def tSp(k:Int×Int):Str:=Txt.join miS [tI k.1,tI k.2]
def wRg(r:lY):List Str:=mr::r.map tI
def wPa(p:Str×List Jnt×List Jnt):List Str:=p.1::(p.2.1.map tJ++slW::p.2.2.map tJ)
def wPt:Pt->List (List Str)
 | .one a b=>[lm::a.map tJ,ig::b.map tJ]
 | .chg rs=>rs.map wRg
 | .trn rs ks c=>rs.map wRg++[cx::ks.map tSp,[cf,tI c]]
 | .two ps=>ps.map wPa
abbrev aE(ws:List Str):Str:=Txt.join spS ws
def tPt(p:Pt):List Str:=(wPt p).map aE
def fL:spS.length=1:=by decide +kernel
def uI:miS.length=1:=by decide +kernel
def tI4{n:Int}(h:N4 n):1<=(tI n).length/\(tI n).length<=4:=⟨Hx h.1,vY (k:=4) h.1 (by decide) h.2⟩
def Fc(k:Int×Int):tSp k=tI k.1++miS++tI k.2:=by
 unfold tSp;rw[cm,join_one]
def qk{k:Int×Int}(h:N4 k.1/\N4 k.2):1<=(tSp k).length/\(tSp k).length<=9:=by
 have h1:=tI4 h.1;have h2:=tI4 h.2;rw[Fc,Ah,Ah,uI];lia
def J2{j:Jnt}(h:JOk j):1<=(tJ j).length:=by
 obtain⟨c,hc,_⟩:=zg h;have hl:(cpl (tJ j)).length=(tJ j).length:=Zd;rw[← hl];exact BV hc
def nN{ws:List Str}{n:Nat}(hn:ws.length<=n)(h:∀x∈ws,x.length<=16):(aE ws).length<=17*n:=by
 have h1:=xG h;have h2:=StrLaws.join_length_le spS ws;rw[← fU,fL]at h2;show(Txt.join spS ws).length<=_;lia
theorem uJ{w:Str}{ws:List Str}(h1:∀x∈ws,1<=x.length/\x.length<=16)(hw:w.length<=16)(hl:ws.length<=12):hW [.str w,.str (aE ws)]=some (.str (aE (w::ws)),false):=by
 refine ay (o:=.rt (.d (.str (aE (w::ws)))) [.v (.str w),.v (.str (aE ws))]) rfl ?_ rfl;have l2:=nN (n:=12) hl fun x hx=>(h1 x hx).2;cases ws with
 | nil =>
  have e:aE []="":=by decide +kernel
  rw[e,show aE [w]=w from join_one _ _];exact bJ (dm (s:=[.v (.str w),.v (.str "")]) (cM (b:=decide (V.str ""=V.str "")) rfl (Ad rfl)) rfl)
 | cons x r =>
  have hx:=h1 x Zc;have ne:aE (x::r)≠"":=fun z=>by
   have q:=congrArg cpl z;have e0:cpl ("":Str)=[]:=by decide +kernel
   rw[e0,show aE (x::r)=Str.join ⟨#[32]⟩ (x::r) by show Txt.join spS _=_;rw[vZ,fU],ie]at q
   have hl:(cpl x).length=x.length:=Zd;rw[(List.append_eq_nil_iff.mp q).1]at hl;simp at hl;lia
  rw[show aE (w::x::r)=w++spS++aE (x::r) from cm _ _ _ _];refine am (bq (s:=[.v (.str w),.v (.str (aE (x::r)))]) (cM (b:=decide (V.str (aE (x::r))=V.str "")) rfl (Ae fun z=>ne (V.str.inj z))) rfl) ?_;exact av (aq (aq rfl rfl rfl rfl (gp (a:=w) (b:=spS) (by rw[fL];lia))) rfl rfl rfl (gp (a:=w++spS) (b:=aE (x::r)) (by rw[Ah,fL];lia)))
def o7{fe:FE}(hfe:fe=fCB eW (aa (ae 0) ah)){ns:List Int}(h:∀n∈ns,N4 n):bB (gN 0) aN fe 1 (ns.map D.int) [.e]=some ((ns.map tI).map D.str,[.e]):=by
 subst hfe;rw[Vc];exact aK (fg:=gN 0) (fc:=aN) (k:=1) D.int (D.str ∘ tI) [.e] ns fun n hn=>⟨[.v (.int n)],[.v (.int n)],.d (.str (tI n)),[.v (.int n)],[.v (.int n)],rfl,rfl,aI rfl rfl (iJ (h n hn).1 (h n hn).2),rfl,rfl⟩
def Ka{ws:List Str}(hl:ws.length<=100)(h:∀x∈ws,x.length<=16):dF (.str " ") [.lst (ws.map D.str)]=some (.str (aE ws),false):=(o0 (sep:=spS) (ys:=ws) 16 h (by rw[fL];lia)).1
def nO{rs:List lY}(h:xC rs):dr [.tup (rs.map rgD)]=some (.lst (((rs.map wRg).map aE).map D.str),true):=by
 have ec:bB (gN 0) aN d7 1 (rs.map rgD) [.e]=some (((rs.map wRg).map aE).map D.str,[.e]):=by
  rw[Vc,Vc];refine aK (fg:=gN 0) (fc:=aN) (k:=1) rgD (D.str ∘ (aE ∘ wRg)) [.e] rs fun r hr=>?_;have hk:=h.2 r hr
  have b:=Ka (ws:=r.map tI) (by rw[Za];have:=hk.2.1;lia) (fun x hx=>by
   obtain⟨n,hn,rfl⟩:=Yb.mp hx
   have:=(tI4 (hk.2.2 n hn)).2;lia)
  have l:=nN (ws:=r.map tI) (n:=6) (by rw[Za];exact hk.2.1) (fun x hx=>by
   obtain⟨n,hn,rfl⟩:=Yb.mp hx
   have:=(tI4 (hk.2.2 n hn)).2;lia)
  have e5:(Str.ofString "ring ")=mr++spS:=by decide +kernel
  have l5:(Str.ofString "ring ").length=5:=by decide +kernel
  have e:Str.ofString "ring "++aE (r.map tI)=aE (wRg r):=by
   cases r with
   | nil=>have:=hk.1;simp at this
   | cons n r =>
    rw[e5];exact(cm spS mr (tI n) (r.map tI)).symm
  refine⟨[.v (rgD r)],[.v (rgD r)],.d (.str (aE (wRg r))),[.v (rgD r)],[.v (rgD r)],rfl,rfl,?_,rfl,rfl⟩;refine aq (z:=(.str (aE (wRg r)),false)) rfl (cE rfl rfl rfl (ad (aO (s1:=[.v (rgD r)]) (ds:=r.map D.int) (s2:=[.e]) (cV rfl rfl) (eV (n:=6) (by rw[Za];exact hk.2.1) (by decide) rfl) (o7 rfl hk.2.2)) rfl) rfl rfl b) rfl rfl ?_
  rw[← e];exact gp (by rw[l5];lia)
 refine ay (o:=.rt (.f (.lst (((rs.map wRg).map aE).map D.str))) [.v (.tup (rs.map rgD))]) rfl ?_ rfl;exact av (aO (s1:=[.v (.tup (rs.map rgD))]) (ds:=rs.map rgD) (s2:=[.e]) (cV rfl rfl) (eV (n:=12) (by rw[Za];exact h.1) (by decide) rfl) ec)
def nP{a b:Str}(h:a.length+b.length<=1000000):b9 (.str a) (.str b)=some (.str (a++b),false):=by
 unfold b9 orD;rw[gp h]
def jsw{js:List Jnt}(h:fK js):∀x∈js.map tJ,1<=x.length/\x.length<=16:=fun x hx=>by
 obtain⟨j,hj,rfl⟩:=Yb.mp hx;exact⟨J2 (h.2 j hj),(ke (h.2 j hj)).2⟩
abbrev slS:Str:=" / "
def LB:slS=spS++slW++spS:=by decide +kernel
theorem Kb{p:Str×List Jnt×List Jnt}(h1:p.2.1≠[])(h2:p.2.2≠[]):aE (wPa p)=p.1++spS++tJs p.2.1++slS++tJs p.2.2:=by
 obtain⟨k,a,b⟩:=p;have h1:a≠[]:=h1;have h2:b≠[]:=h2;cases a with
 | nil=>exact absurd rfl h1
 | cons j a =>
  cases b with
  | nil=>exact absurd rfl h2
  | cons i b =>
   show Txt.join spS (k::tJ j::(a.map tJ++slW::tJ i::b.map tJ))=k++spS++Txt.join spS (tJ j::a.map tJ)++slS++Txt.join spS (tJ i::b.map tJ);rw[cm,← Vg,nK,cm,LB];simp only[oZ]
def s9:∀k∈kindsS,k.length<=16:=by decide +kernel
def tf2{bk y:Str}{c:Bool}{x s2:Sl}(h:decide (V.str bk=V.str y)=c):ax (fOp bEq (ae 0) (fC (.str y))) [.v (.str bk),x,s2]=some (c,[.v (.str bk),x,s2]):=cM (b:=decide (V.str bk=V.str y)) rfl h
theorem v9{bk:Str}{p:Pt}(h:rZ bk p):dw [.str bk,ptD p]=some (.lst ((tPt p).map D.str),true):=by
 cases p with
 | one a b =>
  obtain⟨rfl,ha,hb⟩:=h;refine ay (o:=.rt (.f (.lst ((tPt (.one a b)).map D.str))) [.v (.str "one"),.v (ptD (.one a b)),.e]) rfl ?_ rfl;refine bJ (dm (tf2 (by decide +kernel)) ?_)
  have w1:=uJ (w:=lm) (jsw ha) (by decide +kernel) (by rw[Za];have:=ha.1;lia)
  have w2:=uJ (w:=ig) (jsw hb) (by decide +kernel) (by rw[Za];have:=hb.1;lia)
  exact av (cc (ad (az (ad rfl (ad (az (ad (aq rfl rfl rfl rfl (aJ (i:=0) rfl)) rfl) rfl (dE ha) rfl) rfl)) rfl w1 rfl) (ad (az (ad rfl (ad (az (ad (aq rfl rfl rfl rfl (aJ (i:=1) rfl)) rfl) rfl (dE hb) rfl) rfl)) rfl w2 rfl) rfl)) rfl (by show 2<=1000000;decide))
 | chg rs =>
  obtain⟨rfl,hr⟩:=h;refine ay (o:=.rt (.f (.lst ((tPt (.chg rs)).map D.str))) [.v (.str "changes"),.v (ptD (.chg rs)),.e]) rfl ?_ rfl;refine am (bq (tf2 (by decide +kernel)) rfl) (bJ (dm (tf2 (by decide +kernel)) ?_))
  exact av (aW (ad (aq rfl rfl rfl rfl (aJ (i:=0) rfl)) rfl) rfl (nO hr))
 | trn rs ks c =>
  obtain⟨rfl,hr,⟨kl,kh⟩,hc⟩:=h;have ec:bB (gT 2 (gsC (gN 0) (gsC (gN 1) gsN))) aN d8 2 (ks.map spD) [.e,.e]=some ((ks.map tSp).map D.str,[.e,.e]):=by
   rw[Vc];refine aK (fg:=gT 2 (gsC (gN 0) (gsC (gN 1) gsN))) (fc:=aN) (k:=2) spD (D.str ∘ tSp) [.e,.e] ks fun k hk=>?_;have n1:=(kh k hk).1;have n2:=(kh k hk).2;have l1:=(tI4 n1).2;have l2:=(tI4 n2).2;refine⟨[.v (.int k.1),.v (.int k.2)],[.v (.int k.1),.v (.int k.2)],.d (.str (tSp k)),[.v (.int k.1),.v (.int k.2)],[.v (.int k.1),.v (.int k.2)],rfl,rfl,?_,rfl,rfl⟩;rw[Fc];exact aq (aq (aI rfl rfl (iJ n1.1 n1.2)) rfl rfl rfl (nP (a:=tI k.1) (b:=miS) (by rw[uI];lia))) (aI rfl rfl (iJ n2.1 n2.2)) rfl rfl (nP (a:=tI k.1++miS) (b:=tI k.2) (by rw[Ah,uI];lia))
  have kw:∀x∈ks.map tSp,1<=x.length/\x.length<=16:=fun x hx=>by
   obtain⟨k,hk,rfl⟩:=Yb.mp hx;have:=qk (kh k hk);lia
  have w1:=uJ (w:=cx) kw (by decide +kernel) (by rw[Za];exact kl)
  have jb:=Ka (ws:=ks.map tSp) (by rw[Za];lia) fun x hx=>(kw x hx).2
  have e6:Str.ofString "cover "=cf++spS:=by decide +kernel
  have l6:(Str.ofString "cover ").length=6:=by decide +kernel
  have ce:aE [cf,tI c]=Str.ofString "cover "++tI c:=by rw[e6];show Txt.join spS _=_;rw[cm,join_one]
  have cv:=nP (a:=Str.ofString "cover ") (b:=tI c) (by rw[l6];have:=(tI4 hc).2;lia)
  rw[← ce]at cv;refine ay (o:=.rt (.f (.lst ((tPt (.trn rs ks c)).map D.str))) [.v (.str "turns"),.v (ptD (.trn rs ks c)),.v (.str (aE (cx::ks.map tSp)))]) rfl ?_ rfl;refine am (bq (tf2 (by decide +kernel)) rfl) (am (bq (tf2 (by decide +kernel)) rfl) (bJ (dm (tf2 (by decide +kernel)) ?_)))
  refine am (bm (az (ad rfl (ad (cE rfl rfl rfl (ad (aO (s1:=[.v (.str "turns"),.v (ptD (.trn rs ks c)),.e]) (ds:=ks.map spD) (s2:=[.e,.e]) (cV (aq rfl rfl rfl rfl (aJ (i:=1) rfl)) rfl) (eV (n:=12) (by rw[Za];exact kl) (by decide) rfl) ec) rfl) rfl rfl jb) rfl)) rfl w1 rfl) rfl) ?_
  refine av (aq (z:=(.lst ((tPt (.trn rs ks c)).map D.str),true)) (aW (ad (aq rfl rfl rfl rfl (aJ (i:=0) rfl)) rfl) rfl (nO hr)) (cc (ad rfl (ad (aq rfl (aI (ad (aq rfl rfl rfl rfl (aJ (i:=2) rfl)) rfl) rfl (iJ hc.1 hc.2)) rfl rfl cv) rfl)) rfl (by show 2<=1000000;decide)) rfl rfl ?_)
  rw[dO (by rw[Za,Za,Za];show rs.length+2<=_;have:=hr.1;lia)]
  unfold tPt wPt;rw[Wd,Wd];rfl
 | two ps =>
  obtain⟨hb,hl,hp⟩:=h;have ec:bB (gT 3 (gsC (gN 0) (gsC (gN 1) (gsC (gN 2) gsN)))) aN d9 3 (ps.map paD) [.e,.e,.e]=some (((ps.map wPa).map aE).map D.str,[.e,.e,.e]):=by
   rw[Vc,Vc];refine aK (fg:=gT 3 (gsC (gN 0) (gsC (gN 1) (gsC (gN 2) gsN)))) (fc:=aN) (k:=3) paD (D.str ∘ (aE ∘ wPa)) [.e,.e,.e] ps fun p hk=>?_;obtain⟨h0,⟨h1,n1⟩,h2,n2⟩:=hp p hk;have l0:=s9 p.1 h0;have l1:=(f6 h1).2;have l2:=(f6 h2).2;have l3:slS.length=3:=by decide +kernel
   refine⟨[.v (.str p.1),.v (jsD p.2.1),.v (jsD p.2.2)],[.v (.str p.1),.v (jsD p.2.1),.v (jsD p.2.2)],.d (.str (aE (wPa p))),[.v (.str p.1),.v (jsD p.2.1),.v (jsD p.2.2)],[.v (.str p.1),.v (jsD p.2.1),.v (jsD p.2.2)],rfl,rfl,?_,rfl,rfl⟩;rw[Kb n1 n2];exact aq (aq (aq (aq rfl rfl rfl rfl (nP (a:=p.1) (b:=spS) (by rw[fL];lia))) (az rfl rfl (dE h1) rfl) rfl rfl (nP (a:=p.1++spS) (b:=tJs p.2.1) (by rw[Ah,fL];lia))) rfl rfl rfl (nP (a:=p.1++spS++tJs p.2.1) (b:=slS) (by rw[Ah,Ah,fL,l3];lia))) (az rfl rfl (dE h2) rfl) rfl rfl (nP (a:=p.1++spS++tJs p.2.1++slS) (b:=tJs p.2.2) (by rw[Ah,Ah,Ah,fL,l3];lia))
  have go:∀bk:Str,decide (V.str bk=V.str "one")=false->decide (V.str bk=V.str "changes")=false->decide (V.str bk=V.str "turns")=false->dw [.str bk,ptD (.two ps)]=some (.lst ((tPt (.two ps)).map D.str),true):=fun bk q1 q2 q3=>by
   refine ay (o:=.rt (.f (.lst ((tPt (.two ps)).map D.str))) [.v (.str bk),.v (ptD (.two ps)),.e]) rfl ?_ rfl;refine am (bq (tf2 q1) rfl) (am (bq (tf2 q2) rfl) (am (bq (tf2 q3) rfl) ?_));exact av (aO (s1:=[.v (.str bk),.v (ptD (.two ps)),.e]) (ds:=ps.map paD) (s2:=[.e,.e,.e]) (cV rfl rfl) (eV (n:=12) (by rw[Za];exact hl) (by decide) rfl) ec)
  rcases hb with rfl|rfl
  ·exact go _ (by decide +kernel) (by decide +kernel) (by decide +kernel)
  ·exact go _ (by decide +kernel) (by decide +kernel) (by decide +kernel)
def Kc{x:Str}{xs:List Str}:bIn (.str x) (.tup (xs.map D.str))=some (.bl (decide (x∈xs)),false):=by
 have e1:wP false (.str x) (.tup (xs.map D.str))=none:=rfl;have e2:zT false (.str x) (.tup (xs.map D.str))=some (.bl (decide (x∈xs)),false):=by
  show(ph (xs.map D.str)).bind (fun ws=>some (D.bl (inV (.str x) ws),false))=_;rw[lE];show some (D.bl (inV (.str x) (xs.map V.str)),false)=_;rw[yZ]
 unfold bIn orD;rw[e1,e2]
def eQ{w:Str}{ws:List Str}(hw:w.length<=16)(hl:ws.length<=50)(h:∀x∈ws,x.length<=16):cK [.str w,.lst (ws.map D.str)]=some (.str (aE (w::ws)),false):=by
 have b:=Ka (ws:=w::ws) (by rw[Qa];lia) (fun x hx=>by
  rcases Va.mp hx with z|z
  ·rw[z];exact hw
  ·exact h x z)
 refine ay (o:=.rt (.d (.str (aE (w::ws)))) [.v (.str w),.v (.lst (ws.map D.str))]) rfl ?_ rfl;exact av (cE rfl rfl rfl (ad (aq (cc rfl rfl (by show 1<=1000000;decide)) rfl rfl rfl (Gu (a:=[.str w]) (b:=ws.map D.str) (by rw[Za];show 1+ws.length<=1000000;lia))) rfl) rfl rfl b)
def gz{w:Str}{js:List Jnt}(hw:w.length<=16)(h:fK js):dq [.str w,jsD js]=some (.str (aE (w::js.map tJ)),false):=by
 have ec:bB (gN 0) aN gR 1 (js.map jD) [.e]=some ((js.map tJ).map D.str,[.e]):=by
  rw[Vc];exact aK (fg:=gN 0) (fc:=aN) (k:=1) jD (D.str ∘ tJ) [.e] js fun j hj=>⟨[.v (jD j)],[.v (jD j)],.d (.str (tJ j)),[.v (jD j)],[.v (jD j)],rfl,rfl,az rfl rfl (nL (h.2 j hj)) rfl,rfl,rfl⟩
 refine ay (o:=.rt (.d (.str (aE (w::js.map tJ)))) [.v (.str w),.v (jsD js)]) rfl ?_ rfl;exact av (az (ad rfl (ad (aO (s1:=[.v (.str w),.v (jsD js)]) (ds:=js.map jD) (s2:=[.e]) (cV rfl rfl) (eV (n:=6) (by rw[Za];exact h.1) (by decide) rfl) ec) rfl)) rfl (eQ hw (by rw[Za];have:=h.1;lia) fun x hx=>(jsw h x hx).2) rfl)
def wa{p:Str×List Jnt×List Jnt}(hk:p.1∈kindsS)(h1:fK p.2.1)(h2:fK p.2.2):kS [paD p]=some (.str (aE (wPa p)),false):=by
 have w0:=s9 p.1 hk;have wl:∀(w:Str)(js:List Jnt),w.length<=16->fK js->(aE (w::js.map tJ)).length<=17*7:=fun w js hw h=>nN (by rw[Qa,Za];have:=h.1;lia) fun x hx=>by
  rcases Va.mp hx with z|z
  ·rw[z];exact hw
  ·exact(jsw h x z).2
 have sl:slW.length<=16:=by decide +kernel
 have l1:=wl p.1 p.2.1 w0 h1;have l2:=wl slW p.2.2 sl h2;have e:aE (wPa p)=aE (p.1::p.2.1.map tJ)++spS++aE (slW::p.2.2.map tJ):=nK spS p.1 (p.2.1.map tJ) slW (p.2.2.map tJ);refine ay (o:=.rt (.d (.str (aE (wPa p)))) [.v (paD p),.v (.str (aE (slW::p.2.2.map tJ))),.v (.str (aE (p.1::p.2.1.map tJ)))]) rfl ?_ rfl;refine am (bm (az (ad rfl (ad (aq rfl rfl rfl rfl (aJ (i:=2) rfl)) rfl)) rfl (gz sl h2) rfl) rfl) (am (bm (az (ad (aq rfl rfl rfl rfl (aJ (i:=0) rfl)) (ad (aq rfl rfl rfl rfl (aJ (i:=1) rfl)) rfl)) rfl (gz w0 h1) rfl) rfl) (av ?_));rw[e];refine mo (sW rfl rfl (lT (by lia))) rfl (by rw[iK];lia) ?_
 rw[iK];refine mo rfl rfl (by rw[Ah,show(Str.ofString " ").length=1 from fL];lia) ?_
 exact mo (sW rfl rfl (lT (by lia))) rfl (by rw[Ah,Ah,show(Str.ofString " ").length=1 from fL];lia) (ze (by rw[Ah,Ah,show(Str.ofString " ").length=1 from fL];lia))
def wc{r:lY}(h:ROk r):kU [rgD r]=some (.str (aE (wRg r)),false):=by
 refine ay (o:=.rt (.d (.str (aE (wRg r)))) [.v (rgD r)]) rfl ?_ rfl
 exact av (az (ad rfl (ad (aO (s1:=[.v (rgD r)]) (ds:=r.map D.int) (s2:=[.e]) (cV rfl rfl) (eV (n:=6) (by rw[Za];exact h.2.1) (by decide) rfl) (o7 rfl h.2.2)) rfl)) rfl (eQ (by decide +kernel) (by rw[Za];have:=h.2.1;lia) fun x hx=>by
  obtain⟨n,hn,rfl⟩:=Yb.mp hx
  have:=(tI4 (h.2.2 n hn)).2;lia) rfl)
def wd{k:Int×Int}(h:N4 k.1/\N4 k.2):kX [spD k]=some (.str (tSp k),false):=by
 have b:=(o0 (sep:=miS) (ys:=[k.1,k.2].map tI) 4 (fun y hy=>by
  obtain⟨n,hn,rfl⟩:=Yb.mp hy;rcases Va.mp hn with z|z
  ·rw[z];exact(tI4 h.1).2
  ·rw[Wa.mp z];exact(tI4 h.2).2) (by rw[uI];show 2*4+2*1<=_;decide)).1
 refine ay (o:=.rt (.d (.str (tSp k))) [.v (spD k)]) rfl ?_ rfl
 exact av (cE rfl rfl rfl (ad (aO (s1:=[.v (spD k)]) (ds:=[k.1,k.2].map D.int) (s2:=[.e]) (cV rfl rfl) rfl (o7 rfl fun n hn=>by
  rcases Va.mp hn with z|z
  ·rw[z];exact h.1
  ·rw[Wa.mp z];exact h.2)) rfl) rfl rfl b)
def tf3{bk y:Str}{c:Bool}{x s2 s3:Sl}(h:decide (V.str bk=V.str y)=c):ax (fOp bEq (ae 0) (fC (.str y))) [.v (.str bk),x,s2,s3]=some (c,[.v (.str bk),x,s2,s3]):=cM (b:=decide (V.str bk=V.str y)) rfl h
def ti3{bk:Str}{c:Bool}{x s2 s3:Sl}(h:decide (bk∈(["two","home"]:List Str))=c):ax (fOp bIn (ae 0) (cr (aa (fC (.str "two")) (aa (fC (.str "home")) ah)))) [.v (.str bk),x,s2,s3]=some (c,[.v (.str bk),x,s2,s3]) :=
 cM (b:=decide (bk∈(["two","home"]:List Str))) (aC (aq rfl (bO rfl rfl (by show 2<=1000000;decide)) rfl rfl (Kc (x:=bk) (xs:=["two","home"]))) rfl) h
def uK{bk:Str}{p:Pt}(h:rZ bk p):gu [.str bk,ptD p]=some (.lst ((tPt p).map D.str),true):=by
 have rg:∀{rs:List lY},xC rs->bB (gN 0) aN gU 1 (rs.map rgD) [.e]=some (((rs.map wRg).map aE).map D.str,[.e]):=fun {rs} h=>by
  rw[Vc,Vc];exact aK (fg:=gN 0) (fc:=aN) (k:=1) rgD (D.str ∘ (aE ∘ wRg)) [.e] rs fun r hr=>⟨[.v (rgD r)],[.v (rgD r)],.d (.str (aE (wRg r))),[.v (rgD r)],[.v (rgD r)],rfl,rfl,az rfl rfl (wc (h.2 r hr)) rfl,rfl,rfl⟩
 cases p with
 | one a b =>
  obtain⟨rfl,ha,hb⟩:=h;refine ay (o:=.rt (.f (.lst ((tPt (.one a b)).map D.str))) [.v (.str "one"),.v (ptD (.one a b)),.e,.e]) rfl ?_ rfl;refine bJ (dm (tf3 (by decide +kernel)) ?_)
  exact av (cc (ad (az (ad rfl (ad (aq rfl rfl rfl rfl (aJ (i:=0) rfl)) rfl)) rfl (gz (w:=lm) (by decide +kernel) ha) rfl) (ad (az (ad rfl (ad (aq rfl rfl rfl rfl (aJ (i:=1) rfl)) rfl)) rfl (gz (w:=ig) (by decide +kernel) hb) rfl) rfl)) rfl (by show 2<=1000000;decide))
 | chg rs =>
  obtain⟨rfl,hr⟩:=h;refine ay (o:=.rt (.s 2) [.v (.str "changes"),.v (ptD (.chg rs)),.o (.lst (((rs.map wRg).map aE).map D.str)),.e]) rfl ?_ rfl;refine am (bq (tf3 (by decide +kernel)) rfl) (am (bq (ti3 (by decide +kernel)) rfl) ?_)
  refine am (cO (aO (s1:=[.v (.str "changes"),.v (ptD (.chg rs)),.e,.e]) (ds:=rs.map rgD) (s2:=[.e]) (cV (aq rfl rfl rfl rfl (aJ (i:=0) rfl)) rfl) (eV (n:=12) (by rw[Za];exact hr.1) (by decide) rfl) (rg hr)) rfl) ?_
  exact bJ (dm (tf3 (by decide +kernel)) rfl)
 | trn rs ks c =>
  obtain⟨rfl,hr,⟨kl,kh⟩,hc⟩:=h;have ec:bB (gN 0) aN gW 1 (ks.map spD) [.e]=some ((ks.map tSp).map D.str,[.e]):=by
   rw[Vc];exact aK (fg:=gN 0) (fc:=aN) (k:=1) spD (D.str ∘ tSp) [.e] ks fun k hk=>⟨[.v (spD k)],[.v (spD k)],.d (.str (tSp k)),[.v (spD k)],[.v (spD k)],rfl,rfl,az rfl rfl (wd (kh k hk)) rfl,rfl,rfl⟩
  have sw:=eQ (w:=cx) (ws:=ks.map tSp) (by decide +kernel) (by rw[Za];lia) (fun x hx=>by
   obtain⟨k,hk,rfl⟩:=Yb.mp hx
   have:=qk (kh k hk);lia)
  have cw:=eQ (w:=cf) (ws:=[tI c]) (by decide +kernel) (by show 1<=50;decide) (fun x hx=>by rw[Wa.mp hx];have:=(tI4 hc).2;lia)
  refine ay (o:=.rt (.f (.lst ((tPt (.trn rs ks c)).map D.str))) [.v (.str "turns"),.v (ptD (.trn rs ks c)),.o (.lst (((rs.map wRg).map aE).map D.str)),.v (.str (aE (cx::ks.map tSp)))]) rfl ?_ rfl;refine am (bq (tf3 (by decide +kernel)) rfl) (am (bq (ti3 (by decide +kernel)) rfl) ?_)
  refine am (cO (aO (s1:=[.v (.str "turns"),.v (ptD (.trn rs ks c)),.e,.e]) (ds:=rs.map rgD) (s2:=[.e]) (cV (aq rfl rfl rfl rfl (aJ (i:=0) rfl)) rfl) (eV (n:=12) (by rw[Za];exact hr.1) (by decide) rfl) (rg hr)) rfl) ?_
  refine am (bq (tf3 (by decide +kernel)) rfl) ?_
  refine am (bm (az (ad rfl (ad (aO (s1:=[.v (.str "turns"),.v (ptD (.trn rs ks c)),.o (.lst (((rs.map wRg).map aE).map D.str)),.e]) (ds:=ks.map spD) (s2:=[.e]) (cV (aq rfl rfl rfl rfl (aJ (i:=1) rfl)) rfl) (eV (n:=12) (by rw[Za];exact kl) (by decide) rfl) ec) rfl)) rfl sw rfl) rfl) ?_
  refine av (aq (z:=(.lst ((tPt (.trn rs ks c)).map D.str),true)) rfl (cc (ad rfl (ad (az (ad rfl (ad (cc (ad (aI (ad (aq rfl rfl rfl rfl (aJ (i:=2) rfl)) rfl) rfl (iJ hc.1 hc.2)) rfl) rfl (by show 1<=1000000;decide)) rfl)) rfl cw rfl) rfl)) rfl (by show 2<=1000000;decide)) rfl rfl ?_)
  rw[dO (by rw[Za,Za,Za];show rs.length+2<=_;have:=hr.1;lia)]
  unfold tPt wPt;rw[Wd,Wd];rfl
 | two ps =>
  obtain⟨hb,hl,hp⟩:=h;have ec:bB (gN 0) aN gS 1 (ps.map paD) [.e]=some (((ps.map wPa).map aE).map D.str,[.e]):=by
   rw[Vc,Vc];exact aK (fg:=gN 0) (fc:=aN) (k:=1) paD (D.str ∘ (aE ∘ wPa)) [.e] ps fun p hk=>⟨[.v (paD p)],[.v (paD p)],.d (.str (aE (wPa p))),[.v (paD p)],[.v (paD p)],rfl,rfl,az rfl rfl (wa (hp p hk).1 (hp p hk).2.1.1 (hp p hk).2.2.1) rfl,rfl,rfl⟩
  have go:∀bk:Str,decide (V.str bk=V.str "one")=false->decide (bk∈(["two","home"]:List Str))=true->gu [.str bk,ptD (.two ps)]=some (.lst ((tPt (.two ps)).map D.str),true):=fun bk q1 q2=>by
   refine ay (o:=.rt (.f (.lst ((tPt (.two ps)).map D.str))) [.v (.str bk),.v (ptD (.two ps)),.e,.e]) rfl ?_ rfl;refine am (bq (tf3 q1) rfl) (bJ (dm (ti3 q2) ?_));exact av (aO (s1:=[.v (.str bk),.v (ptD (.two ps)),.e,.e]) (ds:=ps.map paD) (s2:=[.e]) (cV rfl rfl) (eV (n:=12) (by rw[Za];exact hl) (by decide) rfl) ec)
  rcases hb with rfl|rfl
  ·exact go _ (by decide +kernel) (by decide +kernel)
  ·exact go _ (by decide +kernel) (by decide +kernel)
def WOk(ws:List Str):Prop:=ws.length<=20/\∀x∈ws,x.length<=16/\32∉cpl x/\10∉cpl x
def rj{ws:List Str}(h:WOk ws)(ne:ws≠[]):dX (.str (aE ws)) [.str " "]=some (.lst (ws.map D.str),true):=by
 have:=nN h.1 fun x hx=>(h.2 x hx).1;exact uH (c:=32) vZ ne (fun w hw=>(h.2 w hw).2.1) (Wc this (by decide))
def ql:∀w∈([lm,ig,mr,cx,cf,slW,"odd","ours","theirs"]:List Str),w.length<=16/\32∉cpl w/\10∉cpl w:=by decide +kernel
def rm{w:Str}{js:List Jnt}(hw:w∈([lm,ig,mr,cx,cf,slW,"odd","ours","theirs"]:List Str))(h:fK js):WOk (w::js.map tJ):=by
 refine⟨by rw[Qa,Za];have:=h.1;lia,fun x hx=>?_⟩
 rcases Va.mp hx with z|z
 ·rw[z];exact ql w hw
 ·obtain⟨j,hj,rfl⟩:=Yb.mp z;have hj:=h.2 j hj;exact⟨(ke hj).2,fun z=>by have:=uD hj _ z;lia,fun z=>by have:=uD hj _ z;lia⟩
def uL{n:Int}(h:N4 n):(tI n).length<=16/\32∉cpl (tI n)/\10∉cpl (tI n):=by
 have:=(tI4 h).2;exact⟨by lia,fun z=>by have:=kd h.1 _ z;lia,fun z=>by have:=kd h.1 _ z;lia⟩
def xJ{r:lY}(h:ROk r):WOk (wRg r):=by
 refine⟨by show(mr::r.map tI).length<=20;rw[Qa,Za];have:=h.2.1;lia,fun x hx=>?_⟩
 rcases Va.mp hx with z|z
 ·rw[z];exact ql _ (by simp)
 ·obtain⟨n,hn,rfl⟩:=Yb.mp z;exact uL (h.2.2 n hn)
def Fd{ks:List (Int×Int)}(hl:ks.length<=12)(h:∀k∈ks,N4 k.1/\N4 k.2):WOk (cx::ks.map tSp):=by
 refine⟨by rw[Qa,Za];lia,fun x hx=>?_⟩
 rcases Va.mp hx with z|z
 ·rw[z];exact ql _ (by simp)
 ·obtain⟨k,hk,rfl⟩:=Yb.mp z;have hk:=h k hk;have d:∀c∈cpl (tSp k),45<=c/\c<=57:=fun c hc=>by
   unfold tSp at hc;rw[Hz]at hc;rcases re hc with z|⟨w,hw,z⟩
   ·lia
   ·rcases Va.mp hw with q|q
    ·rw[q]at z;have:=kd hk.1.1 _ z;lia
    ·rw[Wa.mp q]at z;have:=kd hk.2.1 _ z;lia
  have:=qk hk;exact⟨by lia,fun z=>by have:=d _ z;lia,fun z=>by have:=d _ z;lia⟩
def Fe{c:Int}(h:N4 c):WOk [cf,tI c]:=by
 refine⟨by show 2<=20;decide,fun x hx=>?_⟩
 rcases Va.mp hx with z|z
 ·rw[z];exact ql _ (by simp)
 ·rw[Wa.mp z];exact uL h
def we:∀k∈kindsS,k∈([lm,ig,mr,cx,cf,slW,"odd","ours","theirs"]:List Str):=by decide +kernel
def Ff{p:Str×List Jnt×List Jnt}(hk:p.1∈kindsS)(h1:fK p.2.1)(h2:fK p.2.2):WOk (wPa p):=by
 have a:=rm (we p.1 hk) h1;have b:=rm (w:=slW) (by simp) h2
 refine⟨?_,fun x hx=>?_⟩
 ·show(p.1::(p.2.1.map tJ++slW::p.2.2.map tJ)).length<=20;rw[Qa,Qb,Qa,Za,Za];have:=h1.1;have:=h2.1;lia
 ·rcases Va.mp hx with z|z
  ·rw[z];exact a.2 _ Zc
  ·rcases Ze.mp z with z|z
   ·exact a.2 x (Vb _ z)
   ·exact b.2 x z
def GN{w:Str}{ws:List Str}:bSl (.lst ((w::ws).map D.str)) (some 1) none=some (.lst (ws.map D.str),true):=by
 rw[o3];have:=kK (ds:=(w::ws).map D.str) (i:=1) (by rw[Za,Qa];lia)
 rw[show(1:Int)=((1:Nat):Int) from rfl,this];rfl
def lV{w:Str}{ws:List Str}(h:WOk (w::ws)):cG [.str w,.str (aE (w::ws))]=some (.lst (ws.map D.str),true):=by
 have ix:bIx (.lst ((w::ws).map D.str)) (.int 0)=some (.str w,false):=bS (cb (j:=0) rfl);have nn:bNe (.str w) (.str w)=some (.bl false,false):=by
  show some (D.bl (!decide (V.str w=V.str w)),false)=_;rw[Ad rfl];rfl
 refine ay (o:=.rt (.f (.lst (ws.map D.str))) [.v (.str w),.v (.str (aE (w::ws))),.o (.lst ((w::ws).map D.str))]) rfl ?_ rfl;refine am (cO (cE rfl rfl rfl rfl rfl rfl (rj h (by simp))) rfl) (am (bq (s:=[.v (.str w),.v (.str (aE (w::ws))),.o (.lst ((w::ws).map D.str))]) (aC (aq (aq rfl rfl rfl rfl ix) rfl rfl rfl nn) rfl) rfl) ?_)
 exact av (dN rfl rfl rfl rfl GN)
def nQ{w:Str}{js:List Jnt}(hw:w∈([lm,ig,mr,cx,cf,slW,"odd","ours","theirs"]:List Str))(h:fK js):gw [.str w,.str (aE (w::js.map tJ))]=some (jsD js,false):=by
 refine ay (o:=.rt (.d (jsD js)) [.v (.str w),.v (.str (aE (w::js.map tJ)))]) rfl ?_ rfl;exact av (aW (ad (aW rfl rfl (lV (rm hw h))) rfl) rfl (iV h))
def mZ{n:Int}(h:N4 n):cj [.str (tI n)]=some (.int n,false):=by
 refine ay (o:=.rt (.d (.int n)) [.v (.str (tI n))]) rfl ?_ rfl;exact av (az rfl rfl (rb h.1 (.inr ⟨rfl,h.2⟩)) rfl)
def tj{fe:FE}(hfe:fe=aG cj (aa (ae 0) ah)){ns:List Int}(h:∀n∈ns,N4 n):bB (gN 0) aN fe 1 ((ns.map tI).map D.str) [.e]=some (ns.map D.int,[.e]):=by
 subst hfe;rw[Vc];exact aK (fg:=gN 0) (fc:=aN) (k:=1) (D.str ∘ tI) D.int [.e] ns fun n hn=>⟨[.v (.str (tI n))],[.v (.str (tI n))],.d (.int n),[.v (.str (tI n))],[.v (.str (tI n))],rfl,rfl,az rfl rfl (mZ (h n hn)) rfl,rfl,rfl⟩
def uM{ds:List D}:cC [.tup ds]=some (.int (ds.length:Int),false):=rfl
def wf{r:lY}(h:ROk r):lc [.str (aE (wRg r))]=some (rgD r,false):=by
 have q:decide (V.int ((r.map D.int).length:Int)=V.int 0)=false:=Ae fun z=>by
  have z:=V.int.inj z;rw[Za]at z;have:=h.1;lia
 refine ay (o:=.rt (.d (rgD r)) [.v (.str (aE (wRg r))),.v (rgD r)]) rfl ?_ rfl;refine am (bm (aI (ad (aO (s1:=[.v (.str (aE (wRg r))),.e]) (ds:=(r.map tI).map D.str) (s2:=[.e]) (kf (aW rfl rfl (lV (xJ h))) rfl) (eV (n:=6) (by rw[Za,Za];exact h.2.1) (by decide) rfl) (tj rfl h.2.2)) rfl) rfl (br _)) rfl) ?_
 exact am (bq (s:=[.v (.str (aE (wRg r))),.v (rgD r)]) (cM (b:=decide (V.int ((r.map D.int).length:Int)=V.int 0)) (aC (aq (aI rfl rfl uM) rfl rfl rfl rfl) rfl) q) rfl) rfl
def nR{rs:List lY}(h:xC rs):gx [.lst (((rs.map wRg).map aE).map D.str)]=some (.tup (rs.map rgD),false):=by
 have ec:bB (gN 0) aN g6 1 (((rs.map wRg).map aE).map D.str) [.e]=some (rs.map rgD,[.e]):=by
  rw[Vc,Vc];exact aK (fg:=gN 0) (fc:=aN) (k:=1) (D.str ∘ aE ∘ wRg) rgD [.e] rs fun r hr=>⟨[.v (.str (aE (wRg r)))],[.v (.str (aE (wRg r)))],.d (rgD r),[.v (.str (aE (wRg r)))],[.v (.str (aE (wRg r)))],rfl,rfl,aW rfl rfl (wf (h.2 r hr)),rfl,rfl⟩
 refine ay (o:=.rt (.d (.tup (rs.map rgD))) [.v (.lst (((rs.map wRg).map aE).map D.str))]) rfl ?_ rfl;exact av (aI (ad (aO (s1:=[.v (.lst (((rs.map wRg).map aE).map D.str))]) (ds:=((rs.map wRg).map aE).map D.str) (s2:=[.e]) (kf rfl rfl) (eV (n:=12) (by rw[Za,Za,Za];exact h.1) (by decide) rfl) ec) rfl) rfl (br _))
def wg{k:Int×Int}(h:N4 k.1/\N4 k.2):lf [.str (tSp k)]=some (spD k,false):=by
 have bs:dX (.str (tSp k)) [.str "-"]=some (.lst (([k.1,k.2].map tI).map D.str),true):=uH (c:=45) (ws:=[k.1,k.2].map tI) Hz (by simp) (fun w hw hc=>by
  obtain⟨n,hn,rfl⟩:=Yb.mp hw;rcases Va.mp hn with z|z
  ·rw[z]at hc;have:=kd h.1.1 _ hc;lia
  ·rw[Wa.mp z]at hc;have:=kd h.2.1 _ hc;lia) (by have:=(qk h).2;exact Wc this (by decide))
 refine ay (o:=.rt (.d (spD k)) [.v (.str (tSp k)),.v (spD k)]) rfl ?_ rfl
 refine am (bm (aI (ad (aO (s1:=[.v (.str (tSp k)),.e]) (ds:=([k.1,k.2].map tI).map D.str) (s2:=[.e]) (kf (cE rfl rfl rfl rfl rfl rfl bs) rfl) rfl (tj (ns:=[k.1,k.2]) rfl fun n hn=>by
  rcases Va.mp hn with z|z
  ·rw[z];exact h.1
  ·rw[Wa.mp z];exact h.2)) rfl) rfl (br _)) rfl) ?_
 exact am (bq (s:=[.v (.str (tSp k)),.v (spD k)]) (cM (b:=!decide (V.int 2=V.int 2)) (aC (aq (aI rfl rfl (z:=(.int 2,false)) rfl) rfl rfl rfl rfl) rfl) (by rw[Ad rfl];rfl)) rfl) rfl
def uN{c:Int}(h:N4 c):jJ [.str (aE [cf,tI c])]=some (.int c,false):=by
 have ix:bIx (.lst ([tI c].map D.str)) (.int 0)=some (.str (tI c),false):=bS (cb (j:=0) rfl);refine ay (o:=.rt (.d (.int c)) [.v (.str (aE [cf,tI c])),.o (.lst ([tI c].map D.str))]) rfl ?_ rfl;refine am (cO (aW rfl rfl (lV (Fe h))) rfl) ?_;refine am (bq (s:=[.v (.str (aE [cf,tI c])),.o (.lst ([tI c].map D.str))]) (cM (b:=!decide (V.int 1=V.int 1)) (aC (aq (aI rfl rfl (z:=(.int 1,false)) rfl) rfl rfl rfl rfl) rfl) (by rw[Ad rfl];rfl)) rfl) ?_
 exact av (az (ad (aq rfl rfl rfl rfl ix) rfl) rfl (mZ h) rfl)
def Ct{ds:List D}{fe:FE}{st s:En}{r:Rs}{d:D}{b:Bool}(h1:fe st=some (r,s))(h2:cont s r=some d)(h3:Pl 40 d/\∀e∈ds,Pl 40 e)(h4:d∈ds↔b=true):jv ds fe st=some (.d (.bl (!b)),s):=by
 unfold jv;simp only[h1,h2,Xa];have dc:∀i:Decidable (d∈ds),@decide _ i=b:=fun i=>by rw[Ye,decide_eq_true_eq];exact h4
 rw[Ag h3,dc]
def m5{ks:List Str}{k:Str}(h:k∈ks){fe:FE}{st s:En}{r:Rs}(h1:fe st=some (r,s))(h2:cont s r=some (.str k)):jv (ks.map D.str) fe st=some (.d (.bl false),s) :=
 Ct (b:=true) h1 h2 ⟨.str _ _,fun e he=>by obtain⟨x,_,rfl⟩:=Yb.mp he;exact .str _ _⟩ ⟨fun _=>rfl,fun _=>Bb h⟩
def wj{p:Str×List Jnt×List Jnt}(hk:p.1∈kindsS)(h1:fK p.2.1)(n1:p.2.1≠[])(h2:fK p.2.2)(n2:p.2.2≠[]):kZ [.str (aE (wPa p))]=some (paD p,false):=by
 have sd:=v4 (m:=slW) h1 h2 (uG h1.2 gC.2.2.2) (uG h2.2 gC.2.2.2);have tl:eu (.lst ((wPa p).map D.str)) (some 1) none=some (.lst ((p.2.1.map tJ++slW::p.2.2.map tJ).map D.str),true):=by
  rw[uF];have:=kK (ds:=(wPa p).map D.str) (i:=1) (by rw[Za];show 1<=(p.1::_).length;rw[Qa];lia)
  rw[show(1:Int)=((1:Nat):Int) from rfl,this];rfl
 have ix:bIx (.lst ((wPa p).map D.str)) (.int 0)=some (.str p.1,false):=bS (cb (j:=0) rfl);have nz:∀js:List Jnt,js≠[]->decide (V.int ((js.map jD).length:Int)=V.int 0)=false:=fun js hn=>Ae fun z=>by
  have z:=V.int.inj z;rw[Za]at z;have:=List.length_pos_iff.mpr hn;lia
 refine ay (o:=.rt (.d (paD p)) [.v (.str (aE (wPa p))),.o (.lst ((wPa p).map D.str)),.v (.tup [jsD p.2.1,jsD p.2.2])]) rfl ?_ rfl;refine am (cO (cE rfl rfl rfl rfl rfl rfl (rj (Ff hk h1 h2) (by simp[wPa]))) rfl) ?_
 refine am (bm (aW (ad (dN rfl rfl rfl rfl tl) rfl) rfl sd) rfl) ?_;refine am (bq (s:=[.v (.str (aE (wPa p))),.o (.lst ((wPa p).map D.str)),.v (.tup [jsD p.2.1,jsD p.2.2])]) (nC (aC (m5 (ks:=kindsS) hk (aq rfl rfl rfl rfl ix) rfl) rfl) (nC (cM (b:=decide (V.int ((p.2.1.map jD).length:Int)=V.int 0)) (aC (aq (aI (ad (aq rfl rfl rfl rfl (aJ (i:=0) rfl)) rfl) rfl uM) rfl rfl rfl rfl) rfl) (nz _ n1)) (cM (b:=decide (V.int ((p.2.2.map jD).length:Int)=V.int 0)) (aC (aq (aI (ad (aq rfl rfl rfl rfl (aJ (i:=1) rfl)) rfl) rfl uM) rfl rfl rfl rfl) rfl) (nz _ n2)))) rfl) ?_;exact av (aq (bO (ad (aq rfl rfl rfl rfl ix) rfl) rfl (by show 1<=1000000;decide)) rfl rfl rfl (yC (a:=[.str p.1]) (b:=[jsD p.2.1,jsD p.2.2]) (by show 1+2<=100000;decide)))
def Fg{A:List D}{x y:D}:atI (A++[x,y]) (-2)=some x/\atI (A++[x,y]) (-1)=some y:=by
 have hl:(A++[x,y]).length=A.length+2:=by rw[Qb];rfl
 constructor
 ·unfold atI ixN;rw[Al (by decide),Ag (by rw[hl];lia)]
  show(A++[x,y])[(-2+((A++[x,y]).length:Int)).toNat]?=_;rw[hl,show(-2+((A.length+2:Nat):Int)).toNat=A.length by lia]
  simp
 ·unfold atI ixN;rw[Al (by decide),Ag (by rw[hl];lia)]
  show(A++[x,y])[(-1+((A++[x,y]).length:Int)).toNat]?=_;rw[hl,show(-1+((A.length+2:Nat):Int)).toNat=A.length+1 by lia]
  simp
def GO{A:List D}{x y:D}:cutD (A++[x,y]) none (some (-2))=A:=by
 have hl:(A++[x,y]).length=A.length+2:=by rw[Qb];rfl
 have e:HT.sIx (A.length+2) (A.length+2) (some (-2))=A.length:=by
  show(if (-2:Int)<0 then(-2+((A.length+2:Nat):Int)).toNat else min (-2:Int).toNat (A.length+2))=_;rw[Ag (by decide)]
  lia
 unfold cutD;rw[hl,HT.sIx_none,e];simp
def xK{a b:List Jnt}(ha:fK a)(hb:fK b):fz [.lst ((tPt (.one a b)).map D.str)]=some (ptD (.one a b),false):=by
 have i0:bIx (.lst ((tPt (.one a b)).map D.str)) (.int 0)=some (.str (aE (lm::a.map tJ)),false):=bS (cb (j:=0) rfl);have i1:bIx (.lst ((tPt (.one a b)).map D.str)) (.int 1)=some (.str (aE (ig::b.map tJ)),false):=bS (cb (j:=1) rfl);refine ay (o:=.rt (.d (ptD (.one a b))) [.v (.lst ((tPt (.one a b)).map D.str))]) rfl ?_ rfl;refine am (bq (s:=[.v (.lst ((tPt (.one a b)).map D.str))]) (cM (b:=!decide (V.int 2=V.int 2)) (aC (aq (aI rfl rfl (z:=(.int 2,false)) rfl) rfl rfl rfl rfl) rfl) (by rw[Ad rfl];rfl)) rfl) ?_
 exact av (bO (ad (aW (ad rfl (ad (aq rfl rfl rfl rfl i0) rfl)) rfl (nQ (w:=lm) (by simp) ha)) (ad (aW (ad rfl (ad (aq rfl rfl rfl rfl i1) rfl)) rfl (nQ (w:=ig) (by simp) hb)) rfl)) rfl (by show 2<=1000000;decide))
def uO{rs:List lY}{ks:List (Int×Int)}{c:Int}(hr:xC rs)(kl:ks.length<=12)(kh:∀k∈ks,N4 k.1/\N4 k.2)(hc:N4 c):d6 [.lst ((tPt (.trn rs ks c)).map D.str)]=some (ptD (.trn rs ks c),false):=by
 have eR:(tPt (.trn rs ks c)).map D.str=((rs.map wRg).map aE).map D.str++[.str (aE (cx::ks.map tSp)),.str (aE [cf,tI c])]:=by
  unfold tPt wPt;rw[Wd,Wd];rfl
 rw[eR];generalize hA:((rs.map wRg).map aE).map D.str=A;have i2:bIx (.lst (A++[.str (aE (cx::ks.map tSp)),.str (aE [cf,tI c])])) (.int (-2))=some (.str (aE (cx::ks.map tSp)),false):=bS Fg.1;have i1:bIx (.lst (A++[.str (aE (cx::ks.map tSp)),.str (aE [cf,tI c])])) (.int (-1))=some (.str (aE [cf,tI c]),false):=bS Fg.2;have sl:bSl (.lst (A++[.str (aE (cx::ks.map tSp)),.str (aE [cf,tI c])])) none (some (-2))=some (.lst A,true):=by rw[o3,GO]
 have rr:=nR hr;rw[hA]at rr;have ec:bB (gN 0) aN de 1 ((ks.map tSp).map D.str) [.e]=some (ks.map spD,[.e]):=by
  rw[Vc];exact aK (fg:=gN 0) (fc:=aN) (k:=1) (D.str ∘ tSp) spD [.e] ks fun k hk=>⟨[.v (.str (tSp k))],[.v (.str (tSp k))],.d (spD k),[.v (.str (tSp k))],[.v (.str (tSp k))],rfl,rfl,aW rfl rfl (wg (kh k hk)),rfl,rfl⟩
 have lt:decide (((A++[D.str (aE (cx::ks.map tSp)),.str (aE [cf,tI c])]).length:Int)<2)=false:=Ae (by rw[Qb];show ¬ (((A.length+2:Nat):Int)<2);lia)
 refine ay (o:=.rt (.d (ptD (.trn rs ks c))) [.v (.lst (A++[.str (aE (cx::ks.map tSp)),.str (aE [cf,tI c])])),.v (.tup (ks.map spD))]) rfl ?_ rfl;refine am (bq (s:=[.v (.lst (A++[.str (aE (cx::ks.map tSp)),.str (aE [cf,tI c])])),.e]) (cM (b:=decide (((A++[D.str (aE (cx::ks.map tSp)),.str (aE [cf,tI c])]).length:Int)<2)) (aC (aq (aI rfl rfl rfl) rfl rfl rfl rfl) rfl) lt) rfl) ?_;refine am (bm (aI (ad (aO (s1:=[.v (.lst (A++[.str (aE (cx::ks.map tSp)),.str (aE [cf,tI c])])),.e]) (ds:=(ks.map tSp).map D.str) (s2:=[.e]) (kf (aW (ad rfl (ad (aq rfl rfl rfl rfl i2) rfl)) rfl (lV (Fd kl kh))) rfl) (eV (n:=12) (by rw[Za,Za];exact kl) (by decide) rfl) ec) rfl) rfl (br _)) rfl) ?_
 exact av (bO (ad (aW (ad (dN rfl rfl rfl rfl sl) rfl) rfl rr) (ad rfl (ad (az (ad (aq rfl rfl rfl rfl i1) rfl) rfl (uN hc) rfl) rfl))) rfl (by show 3<=1000000;decide))
def tfP{bk y:Str}{c:Bool}{x:Sl}(h:decide (V.str bk=V.str y)=c):ax (fOp bEq (ae 0) (fC (.str y))) [.v (.str bk),x]=some (c,[.v (.str bk),x]):=cM (b:=decide (V.str bk=V.str y)) rfl h
theorem uP{bk:Str}{p:Pt}(h:rZ bk p):jM [.str bk,.lst ((tPt p).map D.str)]=some (ptD p,false):=by
 refine ay (o:=.rt (.d (ptD p)) [.v (.str bk),.v (.lst ((tPt p).map D.str))]) rfl ?_ rfl;cases p with
 | one a b =>
  obtain⟨rfl,ha,hb⟩:=h;exact bJ (dm (tfP (by decide +kernel)) (av (aW rfl rfl (xK ha hb))))
 | chg rs =>
  obtain⟨rfl,hr⟩:=h;refine am (bq (tfP (by decide +kernel)) rfl) (am (bq (tfP (by decide +kernel)) rfl) (bJ (dm (tfP (by decide +kernel)) ?_)))
  exact av (bO (ad (aW rfl rfl (nR hr)) rfl) rfl (by show 1<=1000000;decide))
 | trn rs ks c =>
  obtain⟨rfl,hr,⟨kl,kh⟩,hc⟩:=h;exact am (bq (tfP (by decide +kernel)) rfl) (bJ (dm (tfP (by decide +kernel)) (av (aW rfl rfl (uO hr kl kh hc)))))
 | two ps =>
  obtain⟨hb,hl,hp⟩:=h;have ec:bB (gN 0) aN g9 1 (((ps.map wPa).map aE).map D.str) [.e]=some (ps.map paD,[.e]):=by
   rw[Vc,Vc];exact aK (fg:=gN 0) (fc:=aN) (k:=1) (D.str ∘ aE ∘ wPa) paD [.e] ps fun p hk=>⟨[.v (.str (aE (wPa p)))],[.v (.str (aE (wPa p)))],.d (paD p),[.v (.str (aE (wPa p)))],[.v (.str (aE (wPa p)))],rfl,rfl,aW rfl rfl (wj (hp p hk).1 (hp p hk).2.1.1 (hp p hk).2.1.2 (hp p hk).2.2.1 (hp p hk).2.2.2),rfl,rfl⟩
  have q:decide (V.str bk=V.str "one")=false/\decide (V.str bk=V.str "turns")=false/\decide (V.str bk=V.str "changes")=false:=by
   rcases hb with rfl|rfl<;>decide +kernel
  refine am (bq (tfP q.1) rfl) (am (bq (tfP q.2.1) rfl) (am (bq (tfP q.2.2) rfl) ?_));exact av (aI (ad (aO (s1:=[.v (.str bk),.v (.lst ((tPt (.two ps)).map D.str))]) (ds:=((ps.map wPa).map aE).map D.str) (s2:=[.e]) (kf rfl rfl) (eV (n:=12) (by rw[Za,Za,Za];exact hl) (by decide) rfl) ec) rfl) rfl (br _))
abbrev nlS:Str:="\n"
abbrev nS:Str:="row"
abbrev booksS:List Str:=["one","two","home","turns","changes"]
def LC:nlS=⟨#[10]⟩:=by decide +kernel
def Fh:nlS.length=1:=by decide +kernel
def qm:∀b∈booksS,b.length<=16/\32∉cpl b/\10∉cpl b:=by decide +kernel
def rPp(bk:Str)(p:Pp):List Str:=aE [bk,tI p.tot]::(tPt p.pt++nS::p.ds.map tDd)
def tPp(bk:Str)(p:Pp):Str:=Txt.join nlS (rPp bk p)
theorem nU{bk:Str}{p:Pt}(h:rZ bk p):bk∈booksS:=by
 cases p with
 | one=>rw[h.1];simp
 | chg=>rw[h.1];simp
 | trn=>rw[h.1];simp
 | two=>rcases h.1 with z|z<;>rw[z]<;>simp
theorem xL{bk:Str}{p:Pt}(h:rZ bk p):(wPt p).length<=14/\∀ws∈wPt p,WOk ws:=by
 cases p with
 | one a b =>
  obtain⟨_,ha,hb⟩:=h;refine⟨by show 2<=14;decide,fun ws hw=>?_⟩
  rcases Va.mp hw with z|z
  ·rw[z];exact rm (by simp) ha
  ·rw[Wa.mp z];exact rm (by simp) hb
 | chg rs =>
  obtain⟨_,hr⟩:=h;refine⟨by show(rs.map wRg).length<=14;rw[Za];have:=hr.1;lia,fun ws hw=>?_⟩
  obtain⟨r,hr2,rfl⟩:=Yb.mp hw;exact xJ (hr.2 r hr2)
 | trn rs ks c =>
  obtain⟨_,hr,⟨kl,kh⟩,hc⟩:=h;refine⟨by show(rs.map wRg++[_,_]).length<=14;rw[Qb,Za];have:=hr.1;show rs.length+2<=14;lia,fun ws hw=>?_⟩
  rcases Ze.mp hw with z|z
  ·obtain⟨r,hr2,rfl⟩:=Yb.mp z;exact xJ (hr.2 r hr2)
  ·rcases Va.mp z with z|z
   ·rw[z];exact Fd kl kh
   ·rw[Wa.mp z];exact Fe hc
 | two ps =>
  obtain⟨_,hl,hp⟩:=h;refine⟨by show(ps.map wPa).length<=14;rw[Za];lia,fun ws hw=>?_⟩
  obtain⟨p,hk,rfl⟩:=Yb.mp hw;exact Ff (hp p hk).1 (hp p hk).2.1.1 (hp p hk).2.2.1
def wm{ws:List Str}(h:∀x∈ws,10∉cpl x):10∉cpl (aE ws):=fun z=>by
 have z:10∈cpl (Txt.join spS ws):=z;rw[vZ]at z;rcases re z with q|⟨w,hw,q⟩
 ·lia
 ·exact h w hw q
def zi{bk:Str}{p:Pp}(h:PpOk bk p):(rPp bk p).length<=28/\∀r∈rPp bk p,r.length<=340/\10∉cpl r:=by
 obtain⟨w1,w2⟩:=xL h.pt;have rr:∀ws,WOk ws->(aE ws).length<=340/\10∉cpl (aE ws):=fun ws hw=>⟨nN hw.1 fun x hx=>(hw.2 x hx).1,wm fun x hx=>(hw.2 x hx).2.2⟩;refine⟨?_,fun r hr=>?_⟩
 ·show(_::((wPt p.pt).map aE++nS::p.ds.map tDd)).length<=28;rw[Qa,Qb,Qa,Za,Za];have:=h.dl;lia
 ·rcases Va.mp hr with z|z
  ·rw[z];refine rr _ ⟨by show 2<=20;decide,fun x hx=>?_⟩
   rcases Va.mp hx with q|q
   ·rw[q];exact qm _ (nU h.pt)
   ·rw[Wa.mp q];exact uL h.tot
  ·rcases Ze.mp z with z|z
   ·obtain⟨ws,hw,rfl⟩:=Yb.mp z;exact rr ws (w2 ws hw)
   ·rcases Va.mp z with z|z
    ·rw[z];decide +kernel
    ·obtain⟨d,hd,rfl⟩:=Yb.mp z;obtain⟨q1,q2⟩:=lU (h.ds d hd);exact⟨Wc (nM (h.ds d hd)).2 (by decide),wm fun x hx=>(q2 x hx).2.2⟩
def rp{bk:Str}{p:Pp}(h:PpOk bk p):dF (.str "\n") [.lst ((rPp bk p).map D.str)]=some (.str (tPp bk p),false)/\(tPp bk p).length<=100000:=by
 obtain⟨h1,h2⟩:=zi h;have:=o0 (sep:=nlS) (ys:=rPp bk p) 340 (fun y hy=>(h2 y hy).1) (by rw[Fh];lia)
 refine⟨this.1,Wc this.2 ?_⟩;rw[Fh];lia
def GP(bk:Str)(n:Int):aE [bk,tI n]=bk++spS++tI n:=by
 show Txt.join spS _=_;rw[cm,join_one]
def HA(bk:Str)(p:Pp):(rPp bk p).map D.str=(([D.str (aE [bk,tI p.tot])]++(tPt p.pt).map D.str)++[.str "row"])++(p.ds.map tDd).map D.str:=by
 unfold rPp;simp
def xM{bk:Str}{p:Pp}(h:PpOk bk p):mP [.str bk,ppD p]=some (.str (tPp bk p),false):=by
 have lb:=(qm bk (nU h.pt)).1;have ln:=(tI4 h.tot).2;have pl:(tPt p.pt).length<=14:=by show((wPt p.pt).map aE).length<=14;rw[Za];exact(xL h.pt).1
 have dl:=h.dl;have ec:bB (gN 0) aN jQ 1 (p.ds.map ddD) [.e]=some ((p.ds.map tDd).map D.str,[.e]):=by
  rw[Vc];exact aK (fg:=gN 0) (fc:=aN) (k:=1) ddD (D.str ∘ tDd) [.e] p.ds fun d hd=>⟨[.v (ddD d)],[.v (ddD d)],.d (.str (tDd d)),[.v (ddD d)],[.v (ddD d)],rfl,rfl,az rfl rfl (xH (h.ds d hd)) rfl,rfl,rfl⟩
 have jn:=(rp h).1;rw[HA]at jn;rw[GP]at jn;refine ay (o:=.rt (.d (.str (tPp bk p))) [.v (.str bk),.v (ppD p),.o (.lst (([D.str (bk++spS++tI p.tot)]++(tPt p.pt).map D.str)++[.str "row"]))]) rfl ?_ rfl;refine am (cO (aq (aq (cc (ad (aq (aq rfl rfl rfl rfl (nP (a:=bk) (b:=spS) (by rw[fL];lia))) (aI (ad (aq rfl rfl rfl rfl (aJ (i:=1) rfl)) rfl) rfl (iJ h.tot.1 h.tot.2)) rfl rfl (nP (a:=bk++spS) (b:=tI p.tot) (by rw[Ah,fL];lia))) rfl) rfl (by show 1<=1000000;decide)) (aW (ad rfl (ad (aq rfl rfl rfl rfl (aJ (i:=0) rfl)) rfl)) rfl (v9 h.pt)) rfl rfl (dO (by rw[Za];show 1+(tPt p.pt).length<=1000000;lia))) (cc rfl rfl (by show 1<=1000000;decide)) rfl rfl (dO (by rw[Qb,Za];show 1+(tPt p.pt).length+1<=1000000;lia))) rfl) ?_
 exact av (cE rfl rfl rfl (ad (aq rfl (aO (s1:=[.v (.str bk),.v (ppD p),.o (.lst (([D.str (bk++spS++tI p.tot)]++(tPt p.pt).map D.str)++[.str "row"]))]) (ds:=p.ds.map ddD) (s2:=[.e]) (cV (aq rfl rfl rfl rfl (aJ (i:=2) rfl)) rfl) (eV (n:=12) (by rw[Za];exact dl) (by decide) rfl) ec) rfl rfl (dO (by rw[Qb,Qb,Za,Za,Za];show 1+(tPt p.pt).length+1+p.ds.length<=1000000;lia))) rfl) rfl rfl jn)
def Cu{bk:Str}(h:bk∈booksS):ft [.str bk]=some (.non,false):=by
 refine ay (o:=.nx [.v (.str bk)]) rfl ?_ rfl;exact bq (s:=[.v (.str bk)]) (aC (m5 (ks:=booksS) h rfl rfl) rfl) rfl
def uQ{bk:Str}{p:Pp}(h:PpOk bk p):jG [.str bk,ppD p]=some (.str (tPp bk p),false):=by
 have lb:=(qm bk (nU h.pt)).1;have ln:=(tI4 h.tot).2;have pl:(tPt p.pt).length<=14:=by show((wPt p.pt).map aE).length<=14;rw[Za];exact(xL h.pt).1
 have dl:=h.dl;have ec:bB (gN 0) aN gX 1 (p.ds.map ddD) [.e]=some ((p.ds.map tDd).map D.str,[.e]):=by
  rw[Vc];exact aK (fg:=gN 0) (fc:=aN) (k:=1) ddD (D.str ∘ tDd) [.e] p.ds fun d hd=>⟨[.v (ddD d)],[.v (ddD d)],.d (.str (tDd d)),[.v (ddD d)],[.v (ddD d)],rfl,rfl,az rfl rfl (v5 (h.ds d hd)) rfl,rfl,rfl⟩
 have jn:=(rp h).1;rw[HA]at jn;have hw:=eQ (w:=bk) (ws:=[tI p.tot]) lb (by show 1<=50;decide) (fun x hx=>by rw[Wa.mp hx];lia)
 refine ay (o:=.rt (.d (.str (tPp bk p))) [.v (.str bk),.v (ppD p),.v (.str (aE [bk,tI p.tot])),.o (.lst ((([D.str (aE [bk,tI p.tot])]++(tPt p.pt).map D.str)++[.str "row"])++(p.ds.map tDd).map D.str))]) rfl ?_ rfl;refine am (iq (aW rfl rfl (Cu (nU h.pt)))) ?_;refine am (bm (az (ad rfl (ad (cc (ad (aI (ad (aq rfl rfl rfl rfl (aJ (i:=1) rfl)) rfl) rfl (iJ h.tot.1 h.tot.2)) rfl) rfl (by show 1<=1000000;decide)) rfl)) rfl hw rfl) rfl) ?_
 refine am (cO (aq (aq (aq (cc rfl rfl (by show 1<=1000000;decide)) (aW (ad rfl (ad (aq rfl rfl rfl rfl (aJ (i:=0) rfl)) rfl)) rfl (uK h.pt)) rfl rfl (dO (by rw[Za];show 1+(tPt p.pt).length<=1000000;lia))) (cc rfl rfl (by show 1<=1000000;decide)) rfl rfl (dO (by rw[Qb,Za];show 1+(tPt p.pt).length+1<=1000000;lia))) (aO (s1:=[.v (.str bk),.v (ppD p),.v (.str (aE [bk,tI p.tot])),.e]) (ds:=p.ds.map ddD) (s2:=[.e]) (cV (aq rfl rfl rfl rfl (aJ (i:=2) rfl)) rfl) (eV (n:=12) (by rw[Za];exact dl) (by decide) rfl) ec) rfl rfl (dO (by rw[Qb,Qb,Za,Za,Za];show 1+(tPt p.pt).length+1+p.ds.length<=1000000;lia))) rfl) ?_
 exact av (cE rfl rfl rfl rfl rfl rfl jn)
theorem Fi{w:Str}{ws:List Str}(hw:w≠nS):aE (w::ws)≠nS:=by
 cases ws with
 | nil=>rw[show aE [w]=w from join_one _ _];exact hw
 | cons x r =>
  intro z;have z:=congrArg cpl z;have e:cpl (aE (w::x::r))=cpl w++(32::(cpl x++flt 32 (r.map cpl))):=by
   show cpl (Txt.join spS (w::x::r))=_;rw[vZ,fU,ie];rfl
  have m:32∈cpl nS:=by rw[← z,e];simp
  exact absurd m (by decide +kernel)
def Cv:∀w∈([lm,ig,mr,cx,cf,slW,"odd","ours","theirs"]:List Str),w≠nS:=by decide +kernel
def Cw:∀b∈booksS,b≠nS:=by decide +kernel
def Ke{bk:Str}{p:Pt}(h:rZ bk p):nS∉tPt p:=fun z=>by
 obtain⟨ws,hw,q⟩:=Yb.mp z;have hd:∃w r,ws=w::r/\w∈([lm,ig,mr,cx,cf,slW,"odd","ours","theirs"]:List Str):=by
  cases p with
  | one a b =>
   rcases Va.mp hw with z|z
   ·exact⟨_,_,z,by simp⟩
   ·exact⟨_,_,Wa.mp z,by simp⟩
  | chg rs =>
   obtain⟨r,_,rfl⟩:=Yb.mp hw;exact⟨_,_,rfl,by simp⟩
  | trn rs ks c =>
   rcases Ze.mp hw with z|z
   ·obtain⟨r,_,rfl⟩:=Yb.mp z;exact⟨_,_,rfl,by simp⟩
   ·rcases Va.mp z with z|z
    ·exact⟨_,_,z,by simp⟩
    ·exact⟨_,_,Wa.mp z,by simp⟩
  | two ps =>
   obtain⟨p,hk,rfl⟩:=Yb.mp hw;exact⟨_,_,rfl,we _ (h.2.2 p hk).1⟩
 obtain⟨w,r,rfl,hm⟩:=hd;exact Fi (Cv w hm) q
def Fj{x:Str}{xs:List Str}(h:x∈xs):kH (.str x) (.lst (xs.map D.str))=some (.bl false,false):=by
 have e1:wP true (.str x) (.lst (xs.map D.str))=none:=rfl;have e2:zT true (.str x) (.lst (xs.map D.str))=some (.bl false,false):=by
  show(ph (xs.map D.str)).bind (fun ws=>some (D.bl (!inV (.str x) ws),false))=_;rw[lE];show some (D.bl (!inV (.str x) (xs.map V.str)),false)=_;rw[yZ,Ad h];rfl
 unfold kH orD;rw[e1,e2]
def uR{bk:Str}{p:Pp}(h:PpOk bk p):jO [.str (tPp bk p)]=some (.tup [.str bk,ppD p],false):=by
 have hb:=nU h.pt;obtain⟨r1,r2⟩:=zi h;have bs:dX (.str (tPp bk p)) [.str "\n"]=some (.lst ((rPp bk p).map D.str),true):=uH (c:=10) LC (by simp[rPp]) (fun w hw=>(r2 w hw).2) (rp h).2
 have i0:bIx (.lst ((rPp bk p).map D.str)) (.int 0)=some (.str (aE [bk,tI p.tot]),false):=bS (cb (j:=0) rfl)
 have hs:dX (.str (aE [bk,tI p.tot])) [.str " "]=some (.lst ([bk,tI p.tot].map D.str),true):=rj ⟨by show 2<=20;decide,fun x hx=>by
  rcases Va.mp hx with q|q
  ·rw[q];exact qm _ hb
  ·rw[Wa.mp q];exact uL h.tot⟩ (by simp)
 have h0:bIx (.lst ([bk,tI p.tot].map D.str)) (.int 0)=some (.str bk,false):=bS (cb (j:=0) rfl);have h1:bIx (.lst ([bk,tI p.tot].map D.str)) (.int 1)=some (.str (tI p.tot),false):=bS (cb (j:=1) rfl);have pre:nS∉aE [bk,tI p.tot]::tPt p.pt:=fun z=>by
  rcases Va.mp z with z|z
  ·exact Fi (Cw bk hb) z.symm
  ·exact Ke h.pt z
 have eR:rPp bk p=(aE [bk,tI p.tot]::tPt p.pt)++nS::p.ds.map tDd:=rfl;have ix:(rPp bk p).idxOf nS=(tPt p.pt).length+1:=by
  rw[eR,List.idxOf_append,Al pre,List.idxOf_cons_self,Xl,Qa]
 have me:nS∈rPp bk p:=by rw[eR];simp
 have ni:=Fj me;have bi:=sY me;rw[ix]at bi;have c1:bSl (.lst ((rPp bk p).map D.str)) (some 1) (some (((tPt p.pt).length+1:Nat):Int))=some (.lst ((tPt p.pt).map D.str),true):=by
  rw[o3,eR];have:=F4 (ds:=((aE [bk,tI p.tot]::tPt p.pt)++nS::p.ds.map tDd).map D.str) (i:=1) (j:=(tPt p.pt).length+1) (by simp) (by simp)
  rw[show(1:Int)=((1:Nat):Int) from rfl,this,Wd,Xf,Vg,List.drop_succ_cons,List.drop_zero,Nat.add_sub_cancel,BE (by simp),Qj (by simp)]
 have c2:bSl (.lst ((rPp bk p).map D.str)) (some ((((tPt p.pt).length+1:Nat):Int)+1)) none=some (.lst ((p.ds.map tDd).map D.str),true):=by
  rw[o3,eR];have:=(v0 (a:=aE [bk,tI p.tot]::tPt p.pt) (b:=p.ds.map tDd) (m:=nS)).2;rw[Qa]at this;rw[show(((tPt p.pt).length+1:Nat):Int)+1=(((tPt p.pt).length+1+1:Nat):Int) from rfl,this]
 have ec:bB (gN 0) aN hJ 1 ((p.ds.map tDd).map D.str) [.e]=some (p.ds.map ddD,[.e]):=by
  rw[Vc];exact aK (fg:=gN 0) (fc:=aN) (k:=1) (D.str ∘ tDd) ddD [.e] p.ds fun d hd=>⟨[.v (.str (tDd d))],[.v (.str (tDd d))],.d (ddD d),[.v (.str (tDd d))],[.v (.str (tDd d))],rfl,rfl,aW rfl rfl (v8 (h.ds d hd)),rfl,rfl⟩
 refine ay (o:=.rt (.d (.tup [.str bk,ppD p])) [.v (.str (tPp bk p)),.o (.lst ((rPp bk p).map D.str)),.o (.lst ([bk,tI p.tot].map D.str)),.v (.int (((tPt p.pt).length+1:Nat):Int)),.v (ptD p.pt),.v (.tup (p.ds.map ddD))]) rfl ?_ rfl;refine am (bq (s:=[.v (.str (tPp bk p)),.e,.e,.e,.e,.e]) (f9 (aC (aI rfl rfl (z:=(.bl true,false)) rfl) rfl)) rfl) ?_;refine am (cO (cE rfl rfl rfl rfl rfl rfl bs) rfl) (am (cO (cE (aq rfl rfl rfl rfl i0) rfl rfl rfl rfl rfl hs) rfl) ?_);refine am (bq (s:=[.v (.str (tPp bk p)),.o (.lst ((rPp bk p).map D.str)),.o (.lst ([bk,tI p.tot].map D.str)),.e,.e,.e]) (nC (cM (b:=!decide (V.int 2=V.int 2)) (aC (aq (aI rfl rfl (z:=(.int 2,false)) rfl) rfl rfl rfl rfl) rfl) (by rw[Ad rfl];rfl)) (nC (aC (m5 (ks:=booksS) hb (aq rfl rfl rfl rfl h0) rfl) rfl) (aC (aq rfl rfl rfl rfl ni) rfl))) rfl) ?_
 refine am (bm (cE rfl rfl rfl rfl rfl rfl bi) rfl) ?_;refine am (bm (aW (ad (aq rfl rfl rfl rfl h0) (ad (dN rfl rfl rfl rfl c1) rfl)) rfl (uP h.pt)) rfl) ?_;refine am (bm (aI (ad (aO (s1:=[.v (.str (tPp bk p)),.o (.lst ((rPp bk p).map D.str)),.o (.lst ([bk,tI p.tot].map D.str)),.v (.int (((tPt p.pt).length+1:Nat):Int)),.v (ptD p.pt),.e]) (ds:=(p.ds.map tDd).map D.str) (s2:=[.e]) (kf (dN rfl rfl rfl rfl c2) rfl) (eV (n:=12) (by rw[Za,Za];exact h.dl) (by decide) rfl) ec) rfl) rfl (br _)) rfl) ?_
 exact av (bO (ad (aq rfl rfl rfl rfl h0) (ad (bO (ad rfl (ad (az (ad (aq rfl rfl rfl rfl h1) rfl) rfl (mZ h.tot) rfl) (ad rfl rfl))) rfl (by show 3<=1000000;decide)) rfl)) rfl (by show 2<=1000000;decide))
def LQ(n:Nat)(e:End):Dp (n+2) (eD e):=.tup (by show 2<=1000000;decide) fun d hd=>by
 rcases Va.mp hd with z|z
 ·rw[z];exact .str _ _
 ·rw[Wa.mp z];exact .int _ _
def tm(n:Nat){js:List Jnt}(h:fK js):Dp (n+4) (jsD js):=.tup (by rw[Za];have:=h.1;lia) fun d hd=>by
 obtain⟨j,hj,rfl⟩:=Yb.mp hd;refine .tup (by rw[Za];have:=(rd (h.2 j hj)).1;lia) fun d hd=>?_
 obtain⟨e,_,rfl⟩:=Yb.mp hd;exact LQ n e
def HB(n:Nat){rs:List lY}(h:xC rs):Dp (n+3) (.tup (rs.map rgD)):=.tup (by rw[Za];have:=h.1;lia) fun d hd=>by
 obtain⟨r,hr,rfl⟩:=Yb.mp hd;refine .tup (by rw[Za];have:=(h.2 r hr).2.1;lia) fun d hd=>?_
 obtain⟨e,_,rfl⟩:=Yb.mp hd;exact .int _ _
theorem LD(n:Nat){d:Dd}(h:nH d):Dp (n+5) (ddD d):=by
 cases d with
 | line w ns =>
  have hl:(w::ns.map tI).length<=5:=(lU h).1;rw[Qa,Za]at hl;refine .tup (by rw[Qa,Za];lia) fun d hd=>?_
  rcases Va.mp hd with z|z
  ·rw[z];exact .str _ _
  ·obtain⟨e,_,rfl⟩:=Yb.mp z;exact .int _ _
 | set g c =>
  refine .tup (by show 2<=1000000;decide) fun d hd=>?_
  rcases Va.mp hd with z|z
  ·rw[z];exact tm n h.1.js
  ·rw[Wa.mp z];exact tm n h.2.1.js
theorem LE(n:Nat){bk:Str}{p:Pt}(h:rZ bk p):Dp (n+6) (ptD p):=by
 cases p with
 | one a b =>
  refine .tup (by show 2<=1000000;decide) fun d hd=>?_
  rcases Va.mp hd with z|z
  ·rw[z];exact tm (n+1) h.2.1
  ·rw[Wa.mp z];exact tm (n+1) h.2.2
 | chg rs =>
  refine .tup (by show 1<=1000000;decide) fun d hd=>?_
  rw[Wa.mp hd];exact HB (n+2) h.2
 | trn rs ks c =>
  refine .tup (by show 3<=1000000;decide) fun d hd=>?_
  rcases Va.mp hd with z|z
  ·rw[z];exact HB (n+2) h.2.1
  ·rcases Va.mp z with z|z
   ·rw[z];refine .tup (by rw[Za];have:=h.2.2.1.1;lia) fun d hd=>?_
    obtain⟨k,_,rfl⟩:=Yb.mp hd;refine .tup (by show 2<=1000000;decide) fun d hd=>?_
    rcases Va.mp hd with z|z
    ·rw[z];exact .int _ _
    ·rw[Wa.mp z];exact .int _ _
   ·rw[Wa.mp z];exact .int _ _
 | two ps =>
  refine .tup (by rw[Za];have:=h.2.1;lia) fun d hd=>?_
  obtain⟨p,hp,rfl⟩:=Yb.mp hd;have q:=h.2.2 p hp;refine .tup (by show 3<=1000000;decide) fun d hd=>?_
  rcases Va.mp hd with z|z
  ·rw[z];exact .str _ _
  ·rcases Va.mp z with z|z
   ·rw[z];exact tm n q.2.1.1
   ·rw[Wa.mp z];exact tm n q.2.2.1
def LF{bk:Str}{p:Pp}(h:PpOk bk p):Dp 9 (.tup [.str bk,ppD p]):=by
 refine .tup (by show 2<=1000000;decide) fun d hd=>?_
 rcases Va.mp hd with z|z
 ·rw[z];exact .str _ _
 ·rw[Wa.mp z];refine .tup (by show 3<=1000000;decide) fun d hd=>?_
  rcases Va.mp hd with z|z
  ·rw[z];exact LE 1 h.pt
  ·rcases Va.mp z with z|z
   ·rw[z];exact .int _ _
   ·rw[Wa.mp z];refine .tup (by rw[Za];have:=h.dl;lia) fun d hd=>?_
    obtain⟨e,he,rfl⟩:=Yb.mp hd;exact LD 1 (h.ds e he)
def rq{bk:Str}{p:Pp}(h:PpOk bk p):fX [.str bk,ppD p]=some (.bl true,false):=by
 have al:=qB (LF h);have tt:∀{s4:Sl},cr (aa (ae 0) (aa (ae 1) ah)) [.v (.str bk),.v (ppD p),.v (.str (tPp bk p)),.v (.tup [.str bk,ppD p]),s4]=some (.d (.tup [.str bk,ppD p]),[.v (.str bk),.v (ppD p),.v (.str (tPp bk p)),.v (.tup [.str bk,ppD p]),s4]):=fun {s4}=>bO rfl rfl (by show 2<=1000000;decide)
 have ca:∀{s4:Sl},aG (eJ 9) (aa (ae 3) (aa (cr (aa (ae 0) (aa (ae 1) ah))) ah)) [.v (.str bk),.v (ppD p),.v (.str (tPp bk p)),.v (.tup [.str bk,ppD p]),s4]=some (.d (.bl true),[.v (.str bk),.v (ppD p),.v (.str (tPp bk p)),.v (.tup [.str bk,ppD p]),s4]):=fun {s4}=>az (ad rfl (ad tt rfl)) rfl al rfl;have eq:bEq (.str (tPp bk p)) (.str (tPp bk p))=some (.bl true,false):=by
  show some (D.bl (decide (V.str (tPp bk p)=V.str (tPp bk p))),false)=_;rw[Ad rfl]
 refine ay (o:=.rt (.d (.bl true)) [.v (.str bk),.v (ppD p),.v (.str (tPp bk p)),.v (.tup [.str bk,ppD p]),.v (.str (tPp bk p))]) rfl ?_ rfl;refine am (bm (az rfl rfl (xM h) rfl) rfl) (am (bm (aW rfl rfl (uR h)) rfl) ?_);refine am (bq (f9 (aC ca rfl)) rfl) ?_;refine am (bm (az (ad (aq rfl rfl rfl rfl (aJ (i:=0) rfl)) (ad (aq rfl rfl rfl rfl (aJ (i:=1) rfl)) rfl)) rfl (uQ h) rfl) rfl) ?_;exact av (ga (aI rfl rfl (z:=(.bl true,false)) rfl) rfl (ga (aq rfl rfl rfl rfl eq) rfl ca))
def zj{i:Int}(h0:0<=i)(h1:i<5):∃b∈booksS,atI (booksS.map D.str) i=some (.str b):=by
 obtain⟨v,hv,hm,_⟩:=qw (xs:=booksS.map D.str) h0 h1;obtain⟨k,hk,rfl⟩:=Yb.mp hm;exact⟨k,hk,hv⟩
def GQ(ns:List Int):aS Es 6 1 [.fl (ns.map D.int)]=some (.bl true,false):=by
 have f0:ck (Fl ns 0 0 1 0):=⟨ns,0,0,1,0,rfl,by decide,by decide,by decide,by decide⟩
 obtain⟨i,φ1,e1,i0,i1,f1⟩:=bU (n:=5) f0 (by decide) (by decide)
 obtain⟨b,hb,eb⟩:=zj i0 i1;obtain⟨p,φ2,e2,hp,f2⟩:=nI (bk:=b) f1 hb;obtain⟨j,φ3,e3,j0,j1,f3⟩:=bU (n:=5) f2 (by decide) (by decide)
 obtain⟨c,hc,ec⟩:=zj j0 j1;obtain⟨q,φ4,e4,hq,f4⟩:=nI (bk:=c) f3 hc;refine ay (o:=.rt (.d (.bl true)) [.v (.fl (ns.map D.int)),.o φ4,.o (.lst (booksS.map D.str)),.v (.str b),.v (ppD p),.v (.str c)]) rfl ?_ rfl;refine am (cO (aW rfl rfl (Go ns)) rfl) (am (s:=[.v (.fl (ns.map D.int)),.o (Fl ns 0 0 1 0),.o (.lst (booksS.map D.str)),.e,.e,.e]) rfl ?_);refine am (bm (aq rfl (aX rfl rfl rfl rfl rfl rfl e1) rfl rfl (bS eb)) rfl) (am (bm (aX rfl rfl rfl rfl rfl rfl e2) rfl) ?_);refine am (bq (f9 (aC (az rfl rfl (rq hp) rfl) rfl)) rfl) ?_;refine am (bm (aq rfl (aX rfl rfl rfl rfl rfl rfl e3) rfl rfl (bS ec)) rfl) ?_;exact av (ga (az (ad rfl (ad (aX rfl rfl rfl rfl rfl rfl e4) rfl)) rfl (rq hq) rfl) rfl (az rfl rfl (rq hp) rfl))
end
end K65
namespace K65
open PySem L2 VF VF22
local macro_rules|`(tactic| walk_at "r")=>`(tactic| repeat' first|(with_reducible first|refine yk ?_ ?_|exact Ip _|exact Iw|refine G6 ?_ ?_ ?_|exact Iq _|refine C7 ?_ ?_|refine C8 ?_|refine Hb ?_ ?_|exact KN|exact Ir _|refine C9 ?_|refine Hd ?_ ?_ ?_|refine tV ?_|exact FC|refine vi ?_|refine Hc ?_|exact Iv|refine lA ?_ (cU _) (by decide) ?_ ?_|refine yl ?_|refine DG ?_|refine C3 ?_|exact ro_addA|exact IU|refine C4 ?_|refine Hh ?_ ?_ ?_|exact IZ|exact zZ|exact z9|exact wJ fun _ _=>.ty _|refine G8 ?_|refine vp ?_|exact FZ|refine vq ?_ ?_ ?_ ?_|exact IQ|exact DL|refine yg ?_|refine C2 ?_ ?_|refine yi ?_ ?_|exact yr|exact ro_neA|exact FV|exact DO|exact IE|refine G7 ?_ ?_|refine Ho ?_ ?_|refine yn ?_|exact Kx _|exact yw|exact D5|refine yo ?_|exact Dv|refine Kz ?_ ?_|exact vJ|refine Db ?_ (cU _) ?_|exact I9|exact zV|refine Dc ?_ ?_ ?_|exact FP|exact ID|exact sM|exact ro_inA|exact KH|exact K1|refine K2 ?_|exact IG|exact FN|exact wJ fun _ _=>.int _|exact zW|exact Jd|refine sS ?_|exact IS|refine vk _ ?_ ?_|refine vh ?_ ?_ ?_ ?_ ?_|exact wJ fun _ _=>.str _|refine lA ?_ (tY (dM (cU _) (dM (cU _) pX))) (by decide) ?_ ?_|exact KJ|refine yh ?_ ?_|exact vI|exact IM|exact Iu|refine yj ?_|refine DV ?_|exact Jv|exact sN|refine D8 ?_|refine Ha ?_ ?_ ?_|exact Gc|exact sL|exact yV|refine yY ?_|exact vL|refine vM ?_|exact DE|exact KK|exact IF|refine lA ?_ (tY (dM (cU _) (dM (cU _) (dM (cU _) pX)))) (by decide) ?_ ?_|exact Ji)|walk_at "s")
local macro_rules|`(tactic| walk_at "s")=>`(tactic| first|refine lA ?_ (cU _) (by decide) ?_ ?_|refine Hh ?_ ?_ ?_|refine vq ?_ ?_ ?_ ?_|exact yr|exact Dv|refine Kz ?_ ?_|exact vJ|refine Db ?_ (cU _) ?_|exact sM|refine vk _ ?_ ?_|refine lA ?_ (tY (dM (cU _) (dM (cU _) pX))) (by decide) ?_ ?_|exact vI|exact sN|refine D8 ?_|exact sL|exact yV|exact vL|refine vM ?_|refine lA ?_ (tY (dM (cU _) (dM (cU _) (dM (cU _) pX)))) (by decide) ?_ ?_|refine yk ?_ ?_|refine G6 ?_ ?_ ?_|refine C7 ?_ ?_|refine C8 ?_|refine Hb ?_ ?_|refine C9 ?_|refine Hd ?_ ?_ ?_|refine tV ?_|refine vi ?_|refine Hc ?_|refine yl ?_|refine DG ?_|refine C3 ?_|refine C4 ?_|refine G8 ?_|refine vp ?_|refine yg ?_|refine C2 ?_ ?_|refine yi ?_ ?_|refine G7 ?_ ?_|refine Ho ?_ ?_|refine yn ?_|refine yo ?_|refine Dc ?_ ?_ ?_|refine K2 ?_|refine sS ?_|refine vh ?_ ?_ ?_ ?_ ?_|refine yh ?_ ?_|refine yj ?_|refine DV ?_|refine Ha ?_ ?_ ?_|refine yY ?_)
section
variable (P:Program)(w:World)(K:Aa)(mg:Str->Option Value)(base:Heap)
abbrev tq:=Cal P w K mg base "is_name" 1 nl0 (spV K lJ)
abbrev rz:=Cal P w K mg base "is_whole" 1 nl0 (spV K qM)
abbrev nV:=Cal P w K mg base "rising" 1 ["things"] (spV K cP)
abbrev wn:=Cal P w K mg base "is_end" 2 nl0 (spV K qP)
abbrev m6:=Cal P w K mg base "is_joint" 3 nl0 (spV K fk)
abbrev tu:=Cal P w K mg base "is_half" 4 nl0 (spV K i6)
abbrev zk:=Cal P w K mg base "sizes" 1 nl3 (spV K p8)
abbrev tz:=Cal P w K mg base "ends_of" 1 nl3 (spV K i7)
abbrev tD:=Cal P w K mg base "is_deed" 5 nl0 (spV K lL)
abbrev i8:=Cal P w K mg base "refuse_no_book" 1 ["book"] (spV K ft)
abbrev rA:=Cal P w K mg base "show_end" 1 ["end"] (spV K mG)
abbrev kg:=Cal P w K mg base "show_joint" 2 nl2 (spV K gr)
abbrev ms:=Cal P w K mg base "show_joints" 3 nl3 (spV K fP)
abbrev pq:=Cal P w K mg base "show_deed" 4 ["deed"] (spV K kO)
abbrev iW:=Cal P w K mg base "read_number" 1 Et (spV K fQ)
abbrev rB:=Cal P w K mg base "read_end" 1 nl1 (spV K mI)
abbrev nW:=Cal P w K mg base "read_joint" 4 nl1 (spV K jz)
abbrev i9:=Cal P w K mg base "read_line_deed" 2 nl4 (spV K fv)
abbrev iX:=Cal P w K mg base "read_joints" 5 nl4 (spV K dQ)
abbrev ki:=Cal P w K mg base "read_sides" 6 ["words","middle"] (spV K gt)
abbrev kr:=Cal P w K mg base "read_set_deed" 7 nl4 (spV K gh)
abbrev px:=Cal P w K mg base "read_deed" 8 ["text"] (spV K kQ)
abbrev eS:=Cal P w K mg base "show_words" 1 Gg (spV K cK)
abbrev kj:=Cal P w K mg base "show_pairs" 3 Eu (spV K dq)
abbrev pz:=Cal P w K mg base "show_part" 4 nl8 (spV K kS)
abbrev pA:=Cal P w K mg base "show_ring" 2 ["ring"] (spV K kU)
abbrev pB:=Cal P w K mg base "show_span" 1 ["span"] (spV K kX)
abbrev nX:=Cal P w K mg base "show_parts" 5 ["book","parts"] (spV K gu)
abbrev nY:=Cal P w K mg base "show_paper" 6 ["book","paper"] (spV K jG)
abbrev df:=Cal P w K mg base "read_figures" 2 nl1 (spV K cj)
abbrev di:=Cal P w K mg base "words_behind" 1 Ca (spV K cG)
abbrev nZ:=Cal P w K mg base "read_pairs" 6 Ca (spV K gw)
abbrev pC:=Cal P w K mg base "read_part" 7 nl5 (spV K kZ)
abbrev pD:=Cal P w K mg base "read_ring" 3 nl5 (spV K lc)
abbrev pE:=Cal P w K mg base "read_span" 3 nl1 (spV K lf)
abbrev n5:=Cal P w K mg base "read_cover" 3 nl5 (spV K jJ)
abbrev ja:=Cal P w K mg base "read_parts_one" 7 nl6 (spV K fz)
abbrev km:=Cal P w K mg base "read_rings" 4 nl6 (spV K gx)
abbrev ii:=Cal P w K mg base "read_parts_turns" 5 nl6 (spV K d6)
abbrev n6:=Cal P w K mg base "read_parts" 8 Ew (spV K jM)
abbrev n8:=Cal P w K mg base "read_paper" 9 ["text"] (spV K jO)
abbrev rC:=Cal P w K mg base "_law_flow" 1 Cb (spV K mK)
abbrev bT:=Cal P w K mg base "_law_pick" 1 nl7 (kD K aP)
abbrev iY:=Cal P w K mg base "_law_letters" 2 nl7 (kD K dR)
abbrev rD:=Cal P w K mg base "_law_name" 3 ["_law_flow_here","_law_stem"] (kD K mM)
abbrev pF:=Cal P w K mg base "_law_names" 4 nl7 (kD K lh)
abbrev pG:=Cal P w K mg base "_law_alike" 9 Cc (spV K (eJ 9))
abbrev lq:=Cal P w K mg base "_law_end_text" 1 Cd (spV K hV)
abbrev eT:=Cal P w K mg base "_law_joints_text" 2 ["_law_joints"] (spV K bz)
abbrev kx:=Cal P w K mg base "_law_deed_text" 3 nl9 (spV K gj)
abbrev rE:=Cal P w K mg base "_law_with" 1 Gh (spV K hW)
abbrev jc:=Cal P w K mg base "_law_ring_lines" 1 Ex (spV K dr)
abbrev jd:=Cal P w K mg base "_law_part_lines" 3 ["_law_book","_law_parts"] (spV K dw)
abbrev rF:=Cal P w K mg base "_law_text" 4 Gj (spV K mP)
abbrev eU:=Cal P w K mg base "_law_number" 2 Gk (kD K bC)
abbrev gm:=Cal P w K mg base "_law_some_ends" 2 Lk (kD K cQ)
abbrev iL:=Cal P w K mg base "_law_some_joints" 3 Lm (kD K bZ)
abbrev ky:=Cal P w K mg base "_law_some_deed" 3 Ln (kD K dU)
abbrev kn:=Cal P w K mg base "_law_many" 2 Gm (kD K fD)
abbrev je:=Cal P w K mg base "_law_some_rings" 3 Gm (kD K dA)
abbrev jf:=Cal P w K mg base "_law_some_parts" 4 Lo (kD K dB)
abbrev jg:=Cal P w K mg base "_law_some_paper" 5 ["_law_flow_here","_law_book"] (kD K dC)
abbrev pH:=Cal P w K mg base "_law_holds" 10 Gj (spV K fX)
end
section
variable {P:Program}{w:World}{K:Aa}{mg:Str->Option Value}{base:Heap}
def xN(M:Md P w K mg):Bd' P w K mg base "is_name" p9 nl0 0 oK:=fun hr=>⟨_,(ag (aU (PW.pt (gF (dG (cq (bK K M.n_isinstance (pv 0) (cZ rfl M.n_str bA)))) (gE (dG (u9 xZ xZ af (bG K M.n_len (pv 0)) (tT rfl M.c_LONGEST_NAME)))))) (ao (ar m9)) aB)
   (ao (ar (bR (gJ rfl) rfl M.n_all boot_all (aj (aT (bc (osc:=(ak p9)) (ON:=nl0) (N:=["letter"]) (k:=1) (caps:=[]) (by decide +kernel) rfl rfl) rfl (bv (K:=K) rfl (pv 0)) (fun _ _ _ _=>(bo 0 (by show(["letter"]:List Str).Nodup;decide +kernel))) (fun _ _ _ _=>aR) (fun _ _ _ _=>(nc (oC (K:=K) rfl) (pv 0) (yf rfl M.c_LETTERS) (by with_unfolding_all rfl)))) ac))))),by delta oK;delta pj;walk_at "r"⟩
def wo(M:Md P w K mg):Bd' P w K mg base "is_whole" qQ nl0 0 mD:=fun hr=>⟨_,(ao (ar (eX (bK K M.n_isinstance (pv 0) (cZ rfl M.n_int ls)) (gG (HI (bK K M.n_isinstance (pv 0) (cZ rfl M.n_bool gK))))))),by delta mD;walk_at "r"⟩
def Cy(M:Md P w K mg):Bd' P w K mg base "rising" qa ["things"] 0 qN:=fun hr=>⟨_,(ao (ar (bR (gJ rfl) rfl M.n_all boot_all (aj (aT (bc (osc:=(ak qa)) (ON:=["things"]) (N:=["one","other"]) (k:=2) (caps:=[]) (by decide +kernel) rfl rfl) rfl (Jn (K:=K) rfl rfl rfl rfl M.n_zip (pv 0) (bD (iO (K:=K) rfl) (pv 0) (bP af) cn)) (fun _ _ _ _=>(uc (K:=K) (n:=2) rfl rfl (gH (bo 0 (by show(["one","other"]:List Str).Nodup;decide +kernel)) (gH (bo 1 (by show(["one","other"]:List Str).Nodup;decide +kernel)) tG)))) (fun _ _ _ _=>aR) (fun _ _ _ _=>(iu (Jw (K:=K) rfl hr.units) (pv 0) (pv 1)))) ac)))),by delta qN;delta jw;walk_at "r"⟩
def Cz(M:Md P w K mg)(c0:tq P w K mg base)(c1:rz P w K mg base):Bd' P w K mg base "is_end" w9 nl0 1 qO:=fun hr=>⟨_,(ag (aU (PW.pt (gF (dG (cq (bK K M.n_isinstance (pv 0) (cZ rfl M.n_tuple cX)))) (gF (aH (f8 (K:=K) rfl hr.units) (bG K M.n_len (pv 0)) af) (gE (dG (cq (ap c0 hr rfl (aj (au K (pv 0) af) ac)))))))) (ao (ar m9)) aB)
   (ao (ar (eX (ap c1 hr rfl (aj (au K (pv 0) af) ac)) (gG (nc (oC (K:=K) rfl) (au K (pv 0) af) (bx (aj af (aj af ac))) (by with_unfolding_all rfl))))))),by delta qO;walk_at "r"⟩
def wp(M:Md P w K mg)(c2:nV P w K mg base)(c3:wn P w K mg base):Bd' P w K mg base "is_joint" nE nl0 2 mE:=fun hr=>⟨_,(ag (aU (PW.pt (gF (dG (cq (bK K M.n_isinstance (pv 0) (cZ rfl M.n_tuple cX)))) (gE (eE (oD (K:=K) rfl) (bG K M.n_len (pv 0)) (bx (aj af (aj af ac))) (by with_unfolding_all rfl))))) (ao (ar m9)) aB)
   (ao (ar (eX (bR (gJ rfl) rfl M.n_all boot_all (aj (aT (bc (osc:=(ak nE)) (ON:=nl0) (N:=["end"]) (k:=1) (caps:=[]) (by decide +kernel) rfl rfl) rfl (bv (K:=K) rfl (pv 0)) (fun _ _ _ _=>(bo 0 (by show(["end"]:List Str).Nodup;decide +kernel))) (fun _ _ _ _=>aR) (fun _ _ _ _=>(ap c3 hr rfl (aj (pv 0) ac)))) ac)) (gG (ap c2 hr rfl (aj (pv 0) ac))))))),by delta mE;delta gq;walk_at "r"⟩
def xO(M:Md P w K mg)(c2:nV P w K mg base)(c4:m6 P w K mg base):Bd' P w K mg base "is_half" qb nl0 3 oM:=fun hr=>⟨_,(ag (aU (PW.pt (gF (dG (cq (bK K M.n_isinstance (pv 0) (cZ rfl M.n_tuple cX)))) (gE (eE (oD (K:=K) rfl) (bG K M.n_len (pv 0)) (bx (aj af (aj af ac))) (by with_unfolding_all rfl))))) (ao (ar m9)) aB)
   (ao (ar (eX (bR (gJ rfl) rfl M.n_all boot_all (aj (aT (bc (osc:=(ak qb)) (ON:=nl0) (N:=nl2) (k:=1) (caps:=[]) (by decide +kernel) rfl rfl) rfl (bv (K:=K) rfl (pv 0)) (fun _ _ _ _=>(bo 0 (by show(nl2:List Str).Nodup;decide +kernel))) (fun _ _ _ _=>aR) (fun _ _ _ _=>(ap c4 hr rfl (aj (pv 0) ac)))) ac)) (gG (ap c2 hr rfl (aj (pv 0) ac))))))),by delta oM;delta iw;walk_at "r"⟩
def Fk(M:Md P w K mg):Bd' P w K mg base "sizes" ul nl3 0 uk:=fun hr=>⟨_,(ao (ar (bH K M.n_tuple (bR (cJ (K:=K) rfl hr) rfl M.n_sorted boot_sorted (aj (aT (bc (osc:=(ak ul)) (ON:=nl3) (N:=nl2) (k:=1) (caps:=[]) (by decide +kernel) rfl rfl) rfl (bv (K:=K) rfl (pv 0)) (fun _ _ _ _=>(bo 0 (by show(nl2:List Str).Nodup;decide +kernel))) (fun _ _ _ _=>aR) (fun _ _ _ _=>(bG K M.n_len (pv 0)))) ac))))),by delta uk;delta lK;walk_at "r"⟩
def xP(M:Md P w K mg):Bd' P w K mg base "ends_of" um ["joints","ends","joint"] 0 oN:=fun hr=>⟨_,(ag (aQ 1 sc_sendsof.nd (bW ac))
   (ag (ou AB rfl (bv (K:=K) rfl (pv 0)) (bo 2 sc_sendsof.nd) (ao (ik (cA AH PySem.F.slot_list_extend PySem.F.type_list_extend (wU (K:=K) rfl rfl) (pv 1) (aj (pv 2) ac)))))
   (ao (ar (bR (cJ (K:=K) rfl hr) rfl M.n_sorted boot_sorted (aj (pv 1) ac)))))),by delta oN;delta kL;walk_at "r"⟩
def xQ(M:Md P w K mg)(c2:nV P w K mg base)(c5:tu P w K mg base)(c6:zk P w K mg base)(c7:tz P w K mg base):Bd' P w K mg base "is_deed" qc JE 4 oO:=fun hr=>⟨_,(ag (aU (PW.pt (gF (dG (cq (bK K M.n_isinstance (pv 0) (cZ rfl M.n_tuple cX)))) (gF (aH (wY (K:=K) rfl hr.units) (bG K M.n_len (pv 0)) af) (gE (dG (cq (bR (gJ rfl) rfl M.n_all boot_all (aj (aT (bc (osc:=(ak qc)) (ON:=JE) (N:=["half"]) (k:=1) (caps:=[]) (by decide +kernel) rfl rfl) rfl (bv (K:=K) rfl (pv 0)) (fun _ _ _ _=>(bo 0 (by show(["half"]:List Str).Nodup;decide +kernel))) (fun _ _ _ _=>aR) (fun _ _ _ _=>(ap c5 hr rfl (aj (pv 0) ac)))) ac)))))))) (ao (ar m9)) aB)
   (ag (aQ 1 sc_sisdeed.nd (au K (pv 0) af))
   (ag (aQ 2 sc_sisdeed.nd (au K (pv 0) af))
   (ag (aQ 3 sc_sisdeed.nd (ap c7 hr rfl (aj (pv 1) ac)))
   (ag (aU (PW.pt (gF (dG (cq (ap c2 hr rfl (aj (pv 3) ac)))) (gE (aH (wY (K:=K) rfl hr.units) (pv 3) (ap c7 hr rfl (aj (pv 2) ac)))))) (ao (ar m9)) aB)
   (ao (ar (eX (nc (Jx (K:=K) rfl hr.units) (bx (aj (ap c6 hr rfl (aj (pv 1) ac)) (aj (ap c6 hr rfl (aj (pv 2) ac)) ac))) (yT rfl M.c_FORMS) (by with_unfolding_all rfl)) (gG (iu (wY (K:=K) rfl hr.units) (pv 1) (pv 2))))))))))),by delta oO;delta iy;walk_at "r"⟩
def n9(M:Md P w K mg):Bd' P w K mg base "refuse_no_book" iT ["book"] 0 fq:=fun hr=>⟨_,(ao (aU (eE (oJ (K:=K) rfl hr.units) (pv 0) (yT rfl M.c_BOOKS) (by with_unfolding_all rfl)) (ao bV) aB)),by delta fq;walk_at "r"⟩
def wq(M:Md P w K mg):Bd' P w K mg base "show_end" qR ["end","name"] 0 mF:=fun hr=>⟨_,(ag (aQ 1 sc_sshowend.nd (au K (pv 0) af))
   (ao (ar (CG (aH cg (au K (pv 0) af) af) (pZ (fO aw (fO (oF (pv 1)) ub))) (pZ (fO (oF (pv 1)) (fO aw ub))))))),by delta mF;walk_at "r"⟩
def r6(M:Md P w K mg)(c10:rA P w K mg base):Bd' P w K mg base "show_joint" jS nl2 1 jx:=fun hr=>⟨_,(ao (ar (cA Ai An Am dj aw (aj (aT (bc (osc:=(ak jS)) (ON:=nl2) (N:=["end"]) (k:=1) (caps:=[]) (by decide +kernel) rfl rfl) rfl (bv (K:=K) rfl (pv 0)) (fun _ _ _ _=>(bo 0 (by show(["end"]:List Str).Nodup;decide +kernel))) (fun _ _ _ _=>aR) (fun _ _ _ _=>(ap c10 hr rfl (aj (pv 0) ac)))) ac)))),by delta jx;delta kM;walk_at "r"⟩
def rG(M:Md P w K mg)(c11:kg P w K mg base):Bd' P w K mg base "show_joints" iC nl3 2 iP:=fun hr=>⟨_,(ao (ar (cA Ai An Am dj aw (aj (aT (bc (osc:=(ak iC)) (ON:=nl3) (N:=nl2) (k:=1) (caps:=[]) (by decide +kernel) rfl rfl) rfl (bv (K:=K) rfl (pv 0)) (fun _ _ _ _=>(bo 0 (by show(nl2:List Str).Nodup;decide +kernel))) (fun _ _ _ _=>aR) (fun _ _ _ _=>(ap c11 hr rfl (aj (pv 0) ac)))) ac)))),by delta iP;delta gd;walk_at "r"⟩
def uS(M:Md P w K mg)(c12:ms P w K mg base):Bd' P w K mg base "show_deed" lM JF 3 kN:=fun hr=>⟨_,(ag (aU (cq (bK K M.n_isinstance (au K (pv 0) af) (cZ rfl M.n_str bA))) (ao (ar (cA Ai An Am dj aw (aj (aT (bc (osc:=(ak lM)) (ON:=JF) (N:=nl8) (k:=1) (caps:=[]) (by decide +kernel) rfl rfl) rfl (bv (K:=K) rfl (pv 0)) (fun _ _ _ _=>(bo 0 (by show(nl8:List Str).Nodup;decide +kernel))) (fun _ _ _ _=>aR) (fun _ _ _ _=>(bX cF rfl M.n_str bA (aj (pv 0) ac)))) ac)))) aB)
   (ag (aQ 1 sc_sshowdeed.nd (ap c12 hr rfl (aj (au K (pv 0) af) ac)))
   (ag (aQ 2 sc_sshowdeed.nd (ap c12 hr rfl (aj (au K (pv 0) af) ac)))
   (ao (ar (pZ (fO (oF (pv 1)) (fO aw (fO (oF (pv 2)) ub))))))))),by delta kN;delta mf;walk_at "r"⟩
def rH(M:Md P w K mg):Bd' P w K mg base "read_number" iD Et 0 iQ:=fun hr=>⟨_,(ag (aU (PW.pt (gF (dG (u9 xZ xZ af (bG K M.n_len (pv 0)) (pv 1))) (gE (dG (cq (bR (gJ rfl) rfl M.n_all boot_all (aj (aT (bc (osc:=(ak iD)) (ON:=Et) (N:=["sign"]) (k:=1) (caps:=[]) (by decide +kernel) rfl rfl) rfl (bv (K:=K) rfl (pv 0)) (fun _ _ _ _=>(bo 0 (by show(["sign"]:List Str).Nodup;decide +kernel))) (fun _ _ _ _=>aR) (fun _ _ _ _=>(nc (oC (K:=K) rfl) (pv 0) (yf rfl M.c_FIGURES) (by with_unfolding_all rfl)))) ac))))))) (ao bV) aB)
   (ag (aU (PW.pt (CF (aH GZ (bG K M.n_len (pv 0)) af) (xS (aH cg (au K (pv 0) af) aw)))) (ao bV) aB)
   (ao (ar (bX B7 rfl M.n_int ls (aj (pv 0) ac)))))),by delta iQ;delta dS;walk_at "r"⟩
def wr(M:Md P w K mg):Bd' P w K mg base "read_end" qS nl1 0 mH:=fun hr=>⟨_,(ag (aU (cq (cA Ai PySem.F.slot_str_startswith PySem.F.type_str_startswith rO (pv 0) (aj aw ac))) (ao (ar (bx (aj (bD (iO (K:=K) rfl) (pv 0) (bP af) cn) (aj af ac))))) aB)
   (ag (aU (cq (cA Ai PySem.F.slot_str_endswith PySem.F.type_str_endswith vK (pv 0) (aj aw ac))) (ao (ar (bx (aj (bD (iO (K:=K) rfl) (pv 0) cn (bP (xV tH af))) (aj af ac))))) aB)
   (ao bV))),by delta mH;walk_at "r"⟩
def r9(M:Md P w K mg)(c4:m6 P w K mg base)(c15:rB P w K mg base):Bd' P w K mg base "read_joint" jT ["word","joint"] 3 jy:=fun hr=>⟨_,(ag (aQ 1 sc_sreadjoint.nd (bH K M.n_tuple (aT (bc (osc:=(ak jT)) (ON:=["word","joint"]) (N:=nl8) (k:=1) (caps:=[]) (by decide +kernel) rfl rfl) rfl (bv (K:=K) rfl (cA Ai Aw Av gP (pv 0) (aj aw ac))) (fun _ _ _ _=>(bo 0 (by show(nl8:List Str).Nodup;decide +kernel))) (fun _ _ _ _=>aR) (fun _ _ _ _=>(ap c15 hr rfl (aj (pv 0) ac))))))
   (ag (aU (dG (cq (ap c4 hr rfl (aj (pv 1) ac)))) (ao bV) aB)
   (ao (ar (pv 1))))),by delta jy;delta gQ;walk_at "r"⟩
def oa(M:Md P w K mg)(c14:iW P w K mg base):Bd' P w K mg base "read_line_deed" fR nl4 1 fu:=fun hr=>⟨_,(ag (aU (aH (f8 (K:=K) rfl hr.units) (bG K M.n_len (pv 0)) (bp (bQ (K:=K) rfl) af (B8 (K:=K) rfl rfl M.c_NUMBERS_BEHIND (au K (pv 0) af) (fun _ _=>rfl)))) (ao bV) aB)
   (ao (ar (bH K M.n_tuple (bp (bQ (K:=K) rfl) (bD (eM (K:=K) rfl) (pv 0) cn (bP af)) (aT (bc (osc:=(ak fR)) (ON:=nl4) (N:=nl1) (k:=1) (caps:=[]) (by decide +kernel) rfl rfl) rfl (bv (K:=K) rfl (bD (eM (K:=K) rfl) (pv 0) (bP af) cn)) (fun _ _ _ _=>(bo 0 (by show(nl1:List Str).Nodup;decide +kernel))) (fun _ _ _ _=>aR) (fun _ _ _ _=>(ap c14 hr rfl (aj (pv 0) (aj (tT rfl M.c_DEED_FIGURES) ac)))))))))),by delta fu;delta dY;walk_at "r"⟩
def rJ(M:Md P w K mg)(c16:nW P w K mg base):Bd' P w K mg base "read_joints" iE nl4 4 iR:=fun hr=>⟨_,(ao (ar (bH K M.n_tuple (aT (bc (osc:=(ak iE)) (ON:=nl4) (N:=nl1) (k:=1) (caps:=[]) (by decide +kernel) rfl rfl) rfl (bv (K:=K) rfl (pv 0)) (fun _ _ _ _=>(bo 0 (by show(nl1:List Str).Nodup;decide +kernel))) (fun _ _ _ _=>aR) (fun _ _ _ _=>(ap c16 hr rfl (aj (pv 0) ac))))))),by delta iR;delta ge;walk_at "r"⟩
def se(M:Md P w K mg)(c18:iX P w K mg base):Bd' P w K mg base "read_sides" mR ["words","middle","place"] 5 jA:=fun hr=>⟨_,(ag (aU (aH (f8 (K:=K) rfl hr.units) (cA AH BP PySem.F.type_list_count (Ed (K:=K) rfl) (pv 0) (aj (pv 1) ac)) af) (ao bV) aB)
   (ag (aQ 2 sc_sreadsides.nd (cA AH AZ BO (vH (K:=K) rfl) (pv 0) (aj (pv 1) ac)))
   (ao (ar (bx (aj (ap c18 hr rfl (aj (bD (iO (K:=K) rfl) (pv 0) cn (bP (pv 2))) ac)) (aj (ap c18 hr rfl (aj (bD (iO (K:=K) rfl) (pv 0) (bP (aZ K (pv 2) af)) cn) ac)) ac))))))),by delta jA;walk_at "r"⟩
def o8(M:Md P w K mg)(c8:tD P w K mg base)(c19:ki P w K mg base):Bd' P w K mg base "read_set_deed" jU ["words","deed"] 6 gf:=fun hr=>⟨_,(ag (aQ 1 sc_sreadsetdeed.nd (ap c19 hr rfl (aj (pv 0) (aj aw ac))))
   (ag (aU (dG (cq (ap c8 hr rfl (aj (pv 1) ac)))) (ao bV) aB)
   (ao (ar (pv 1))))),by delta gf;walk_at "r"⟩
def uT(M:Md P w K mg)(c17:i9 P w K mg base)(c20:kr P w K mg base):Bd' P w K mg base "read_deed" oP ["text","words"] 7 kP:=fun hr=>⟨_,(ag (aQ 1 sc_sreaddeed.nd (cA Ai Aw Av gP (pv 0) (aj aw ac)))
   (ag (aU (eE (Ef (K:=K) rfl) (au K (pv 1) af) (JB rfl M.c_NUMBERS_BEHIND) (by with_unfolding_all rfl)) (ao (ar (ap c17 hr rfl (aj (pv 1) ac)))) aB)
   (ao (ar (ap c20 hr rfl (aj (pv 1) ac)))))),by delta kP;walk_at "r"⟩
def sh(M:Md P w K mg):Bd' P w K mg base "show_words" mS Gg 0 jB:=fun hr=>⟨_,(ao (ar (cA Ai An Am dj aw (aj (aZ K (bW (aj (pv 0) ac)) (pv 1)) ac)))),by delta jB;walk_at "r"⟩
def si(M:Md P w K mg)(c11:kg P w K mg base)(c22:eS P w K mg base):Bd' P w K mg base "show_pairs" jV Eu 2 jC:=fun hr=>⟨_,(ao (ar (ap c22 hr rfl (aj (pv 0) (aj (aT (bc (osc:=(ak jV)) (ON:=Eu) (N:=nl2) (k:=1) (caps:=[]) (by decide +kernel) rfl rfl) rfl (bv (K:=K) rfl (pv 1)) (fun _ _ _ _=>(bo 0 (by show(nl2:List Str).Nodup;decide +kernel))) (fun _ _ _ _=>aR) (fun _ _ _ _=>(ap c11 hr rfl (aj (pv 0) ac)))) ac))))),by delta jC;delta gR;walk_at "r"⟩
def uU(M:Md P w K mg)(c23:kj P w K mg base):Bd' P w K mg base "show_part" oQ ["part","theirs","ours"] 3 kR:=fun hr=>⟨_,(ag (aQ 1 sc_sshowpart.nd (ap c23 hr rfl (aj aw (aj (au K (pv 0) af) ac))))
   (ag (aQ 2 sc_sshowpart.nd (ap c23 hr rfl (aj (au K (pv 0) af) (aj (au K (pv 0) af) ac))))
   (ao (ar (pZ (fO (oF (pv 2)) (fO aw (fO (oF (pv 1)) ub)))))))),by delta kR;walk_at "r"⟩
def uV(M:Md P w K mg)(c22:eS P w K mg base):Bd' P w K mg base "show_ring" lN ["ring"] 1 kT:=fun hr=>⟨_,(ao (ar (ap c22 hr rfl (aj aw (aj (aT (bc (osc:=(ak lN)) (ON:=["ring"]) (N:=["point"]) (k:=1) (caps:=[]) (by decide +kernel) rfl rfl) rfl (bv (K:=K) rfl (pv 0)) (fun _ _ _ _=>(bo 0 (by show(["point"]:List Str).Nodup;decide +kernel))) (fun _ _ _ _=>aR) (fun _ _ _ _=>(bX cF rfl M.n_str bA (aj (pv 0) ac)))) ac))))),by delta kT;delta mi;walk_at "r"⟩
def uW(M:Md P w K mg):Bd' P w K mg base "show_span" lO ["span"] 0 kW:=fun hr=>⟨_,(ao (ar (cA Ai An Am dj aw (aj (aT (bc (osc:=(ak lO)) (ON:=["span"]) (N:=["place"]) (k:=1) (caps:=[]) (by decide +kernel) rfl rfl) rfl (bv (K:=K) rfl (pv 0)) (fun _ _ _ _=>(bo 0 (by show(["place"]:List Str).Nodup;decide +kernel))) (fun _ _ _ _=>aR) (fun _ _ _ _=>(bX cF rfl M.n_str bA (aj (pv 0) ac)))) ac)))),by delta kW;delta mj;walk_at "r"⟩
def sk(M:Md P w K mg)(c22:eS P w K mg base)(c23:kj P w K mg base)(c24:pz P w K mg base)(c25:pA P w K mg base)(c26:pB P w K mg base):Bd' P w K mg base "show_parts" fH Ev 4 jE:=fun hr=>⟨_,(ag (aU (aH cg (pv 0) aw) (ao (ar (bW (aj (ap c23 hr rfl (aj aw (aj (au K (pv 1) af) ac))) (aj (ap c23 hr rfl (aj aw (aj (au K (pv 1) af) ac))) ac))))) aB)
   (ag (aU (eE (oC (K:=K) rfl) (pv 0) (bx (aj aw (aj aw ac))) (by with_unfolding_all rfl)) (ao (ar (aT (bc (osc:=(ak fH)) (ON:=Ev) (N:=nl8) (k:=1) (caps:=[]) (by decide +kernel) rfl rfl) rfl (bv (K:=K) rfl (pv 1)) (fun _ _ _ _=>(bo 0 (by show(nl8:List Str).Nodup;decide +kernel))) (fun _ _ _ _=>aR) (fun _ _ _ _=>(ap c24 hr rfl (aj (pv 0) ac)))))) aB)
   (ag (CY 2 (bc (osc:=(ak fH)) (ON:=Ev) (N:=["ring"]) (k:=1) (caps:=[]) (by decide +kernel) rfl rfl) rfl sc_sshowparts.nd (bv (K:=K) rfl (au K (pv 1) af)) (fun _ _ _ _=>(bo 0 (by show(["ring"]:List Str).Nodup;decide +kernel))) (fun _ _ _ _=>aR) (fun _ _ _ _=>(ap c25 hr rfl (aj (pv 0) ac))))
   (ag (aU (aH cg (pv 0) aw) (ao (ar (pv 2))) aB)
   (ag (aQ 3 sc_sshowparts.nd (ap c22 hr rfl (aj aw (aj (aT (bc (osc:=(ak fH)) (ON:=Ev) (N:=["span"]) (k:=1) (caps:=[]) (by decide +kernel) rfl rfl) rfl (bv (K:=K) rfl (au K (pv 1) af)) (fun _ _ _ _=>(bo 0 (by show(["span"]:List Str).Nodup;decide +kernel))) (fun _ _ _ _=>aR) (fun _ _ _ _=>(ap c26 hr rfl (aj (pv 0) ac)))) ac))))
   (ao (ar (bp (bQ (K:=K) rfl) (pv 2) (bW (aj (pv 3) (aj (ap c22 hr rfl (aj aw (aj (bW (aj (bX cF rfl M.n_str bA (aj (au K (pv 1) af) ac)) ac)) ac))) ac))))))))))),by delta jE;delta gW;delta gU;delta gS;walk_at "r"⟩
def sn(M:Md P w K mg)(c9:i8 P w K mg base)(c13:pq P w K mg base)(c22:eS P w K mg base)(c27:nX P w K mg base):Bd' P w K mg base "show_paper" jW JG 5 jF:=fun hr=>⟨_,(ag (ik (ap c9 hr rfl (aj (pv 0) ac)))
   (ag (aQ 2 sc_sshowpaper.nd (ap c22 hr rfl (aj (pv 0) (aj (bW (aj (bX cF rfl M.n_str bA (aj (au K (pv 1) af) ac)) ac)) ac))))
   (ag (aQ 3 sc_sshowpaper.nd (bp (bQ (K:=K) rfl) (bp (bQ (K:=K) rfl) (bp (bQ (K:=K) rfl) (bW (aj (pv 2) ac)) (ap c27 hr rfl (aj (pv 0) (aj (au K (pv 1) af) ac)))) (bW (aj aw ac))) (aT (bc (osc:=(ak jW)) (ON:=JG) (N:=["deed"]) (k:=1) (caps:=[]) (by decide +kernel) rfl rfl) rfl (bv (K:=K) rfl (au K (pv 1) af)) (fun _ _ _ _=>(bo 0 (by show(["deed"]:List Str).Nodup;decide +kernel))) (fun _ _ _ _=>aR) (fun _ _ _ _=>(ap c13 hr rfl (aj (pv 0) ac))))))
   (ao (ar (cA Ai An Am dj aw (aj (pv 3) ac))))))),by delta jF;delta gX;walk_at "r"⟩
def pR(M:Md P w K mg)(c14:iW P w K mg base):Bd' P w K mg base "read_figures" jX nl1 1 gY:=fun hr=>⟨_,(ao (ar (ap c14 hr rfl (aj (pv 0) (aj (tT rfl M.c_PAPER_FIGURES) ac))))),by delta gY;walk_at "r"⟩
def pS(M:Md P w K mg):Bd' P w K mg base "words_behind" jY ["word","row","words"] 0 gZ:=fun hr=>⟨_,(ag (aQ 2 sc_swordsbehind.nd (cA Ai Aw Av gP (pv 1) (aj aw ac)))
   (ag (aU (aH (f8 (K:=K) rfl hr.units) (au K (pv 2) af) (pv 0)) (ao bV) aB)
   (ao (ar (bD (iO (K:=K) rfl) (pv 2) (bP af) cn))))),by delta gZ;walk_at "r"⟩
def sr(M:Md P w K mg)(c18:iX P w K mg base)(c30:di P w K mg base):Bd' P w K mg base "read_pairs" mT Ca 5 jH:=fun hr=>⟨_,(ao (ar (ap c18 hr rfl (aj (ap c30 hr rfl (aj (pv 0) (aj (pv 1) ac))) ac)))),by delta jH;walk_at "r"⟩
def uX(M:Md P w K mg)(c19:ki P w K mg base):Bd' P w K mg base "read_part" oR ["row","words","sides"] 6 kY:=fun hr=>⟨_,(ag (aQ 1 sc_sreadpart.nd (cA Ai Aw Av gP (pv 0) (aj aw ac)))
   (ag (aQ 2 sc_sreadpart.nd (ap c19 hr rfl (aj (bD (eM (K:=K) rfl) (pv 1) (bP af) cn) (aj aw ac))))
   (ag (aU (PW.pt (gF (eE (oJ (K:=K) rfl hr.units) (au K (pv 1) af) (yT rfl M.c_PART_KINDS) (by with_unfolding_all rfl)) (gF (aH cg (bG K M.n_len (au K (pv 2) af)) af) (gE (aH cg (bG K M.n_len (au K (pv 2) af)) af))))) (ao bV) aB)
   (ao (ar (bp (bQ (K:=K) rfl) (bx (aj (au K (pv 1) af) ac)) (pv 2))))))),by delta kY;walk_at "r"⟩
def uY(M:Md P w K mg)(c29:df P w K mg base)(c30:di P w K mg base):Bd' P w K mg base "read_ring" lP ["row","ring"] 2 la:=fun hr=>⟨_,(ag (aQ 1 sc_sreadring.nd (bH K M.n_tuple (aT (bc (osc:=(ak lP)) (ON:=["row","ring"]) (N:=nl1) (k:=1) (caps:=[]) (by decide +kernel) rfl rfl) rfl (bv (K:=K) rfl (ap c30 hr rfl (aj aw (aj (pv 0) ac)))) (fun _ _ _ _=>(bo 0 (by show(nl1:List Str).Nodup;decide +kernel))) (fun _ _ _ _=>aR) (fun _ _ _ _=>(ap c29 hr rfl (aj (pv 0) ac))))))
   (ag (aU (aH cg (bG K M.n_len (pv 1)) af) (ao bV) aB)
   (ao (ar (pv 1))))),by delta la;delta ml;walk_at "r"⟩
def uZ(M:Md P w K mg)(c29:df P w K mg base):Bd' P w K mg base "read_span" lQ ["word","span"] 2 ld:=fun hr=>⟨_,(ag (aQ 1 sc_sreadspan.nd (bH K M.n_tuple (aT (bc (osc:=(ak lQ)) (ON:=["word","span"]) (N:=["figures"]) (k:=1) (caps:=[]) (by decide +kernel) rfl rfl) rfl (bv (K:=K) rfl (cA Ai Aw Av gP (pv 0) (aj aw ac))) (fun _ _ _ _=>(bo 0 (by show(["figures"]:List Str).Nodup;decide +kernel))) (fun _ _ _ _=>aR) (fun _ _ _ _=>(ap c29 hr rfl (aj (pv 0) ac))))))
   (ag (aU (aH (f8 (K:=K) rfl hr.units) (bG K M.n_len (pv 1)) af) (ao bV) aB)
   (ao (ar (pv 1))))),by delta ld;delta mn;walk_at "r"⟩
def ss(M:Md P w K mg)(c29:df P w K mg base)(c30:di P w K mg base):Bd' P w K mg base "read_cover" mU ["row","words"] 2 jI:=fun hr=>⟨_,(ag (aQ 1 sc_sreadcover.nd (ap c30 hr rfl (aj aw (aj (pv 0) ac))))
   (ag (aU (aH (f8 (K:=K) rfl hr.units) (bG K M.n_len (pv 1)) af) (ao bV) aB)
   (ao (ar (ap c29 hr rfl (aj (au K (pv 1) af) ac)))))),by delta jI;walk_at "r"⟩
def og(M:Md P w K mg)(c31:nZ P w K mg base):Bd' P w K mg base "read_parts_one" iU nl6 6 fw:=fun hr=>⟨_,(ag (aU (aH (f8 (K:=K) rfl hr.units) (bG K M.n_len (pv 0)) af) (ao bV) aB)
   (ao (ar (bx (aj (ap c31 hr rfl (aj aw (aj (au K (pv 0) af) ac))) (aj (ap c31 hr rfl (aj aw (aj (au K (pv 0) af) ac))) ac)))))),by delta fw;walk_at "r"⟩
def su(M:Md P w K mg)(c33:pD P w K mg base):Bd' P w K mg base "read_rings" jZ nl6 3 jK:=fun hr=>⟨_,(ao (ar (bH K M.n_tuple (aT (bc (osc:=(ak jZ)) (ON:=nl6) (N:=nl5) (k:=1) (caps:=[]) (by decide +kernel) rfl rfl) rfl (bv (K:=K) rfl (pv 0)) (fun _ _ _ _=>(bo 0 (by show(nl5:List Str).Nodup;decide +kernel))) (fun _ _ _ _=>aR) (fun _ _ _ _=>(ap c33 hr rfl (aj (pv 0) ac))))))),by delta jK;delta g6;walk_at "r"⟩
def lZ(M:Md P w K mg)(c30:di P w K mg base)(c34:pE P w K mg base)(c35:n5 P w K mg base)(c38:km P w K mg base):Bd' P w K mg base "read_parts_turns" dW ["rows","knots"] 4 dZ:=fun hr=>⟨_,(ag (aU (aH wS (bG K M.n_len (pv 0)) af) (ao bV) aB)
   (ag (aQ 1 sc_sreadpartsturns.nd (bH K M.n_tuple (aT (bc (osc:=(ak dW)) (ON:=["rows","knots"]) (N:=nl1) (k:=1) (caps:=[]) (by decide +kernel) rfl rfl) rfl (bv (K:=K) rfl (ap c30 hr rfl (aj aw (aj (au K (pv 0) (xV tH af)) ac)))) (fun _ _ _ _=>(bo 0 (by show(nl1:List Str).Nodup;decide +kernel))) (fun _ _ _ _=>aR) (fun _ _ _ _=>(ap c34 hr rfl (aj (pv 0) ac))))))
   (ao (ar (bx (aj (ap c38 hr rfl (aj (bD (iO (K:=K) rfl) (pv 0) cn (bP (xV tH af))) ac)) (aj (pv 1) (aj (ap c35 hr rfl (aj (au K (pv 0) (xV tH af)) ac)) ac)))))))),by delta dZ;delta de;walk_at "r"⟩
def sv(M:Md P w K mg)(c32:pC P w K mg base)(c36:ja P w K mg base)(c37:ii P w K mg base)(c38:km P w K mg base):Bd' P w K mg base "read_parts" j5 Ew 7 jL:=fun hr=>⟨_,(ag (aU (aH cg (pv 0) aw) (ao (ar (ap c36 hr rfl (aj (pv 1) ac)))) aB)
   (ag (aU (aH cg (pv 0) aw) (ao (ar (ap c37 hr rfl (aj (pv 1) ac)))) aB)
   (ag (aU (aH cg (pv 0) aw) (ao (ar (bx (aj (ap c38 hr rfl (aj (pv 1) ac)) ac)))) aB)
   (ao (ar (bH K M.n_tuple (aT (bc (osc:=(ak j5)) (ON:=Ew) (N:=nl5) (k:=1) (caps:=[]) (by decide +kernel) rfl rfl) rfl (bv (K:=K) rfl (pv 1)) (fun _ _ _ _=>(bo 0 (by show(nl5:List Str).Nodup;decide +kernel))) (fun _ _ _ _=>aR) (fun _ _ _ _=>(ap c32 hr rfl (aj (pv 0) ac)))))))))),by delta jL;delta g9;walk_at "r"⟩
def sx(M:Md P w K mg)(c21:px P w K mg base)(c29:df P w K mg base)(c39:n6 P w K mg base):Bd' P w K mg base "read_paper" j6 JH 8 jN:=fun hr=>⟨_,(ag (aU (dG (cq (bK K M.n_isinstance (pv 0) (cZ rfl M.n_str bA)))) (ao bV) aB)
   (ag (aQ 1 sc_sreadpaper.nd (cA Ai Aw Av gP (pv 0) (aj aw ac)))
   (ag (aQ 2 sc_sreadpaper.nd (cA Ai Aw Av gP (au K (pv 1) af) (aj aw ac)))
   (ag (aU (PW.pt (gF (aH (f8 (K:=K) rfl hr.units) (bG K M.n_len (pv 2)) af) (gF (eE (oJ (K:=K) rfl hr.units) (au K (pv 2) af) (yT rfl M.c_BOOKS) (by with_unfolding_all rfl)) (gE (eE (oD (K:=K) rfl) aw (pv 1) (by with_unfolding_all rfl)))))) (ao bV) aB)
   (ag (aQ 3 sc_sreadpaper.nd (cA AH AZ BO (vH (K:=K) rfl) (pv 1) (aj aw ac)))
   (ag (aQ 4 sc_sreadpaper.nd (ap c39 hr rfl (aj (au K (pv 2) af) (aj (bD (iO (K:=K) rfl) (pv 1) (bP af) (bP (pv 3))) ac))))
   (ag (aQ 5 sc_sreadpaper.nd (bH K M.n_tuple (aT (bc (osc:=(ak j6)) (ON:=JH) (N:=nl5) (k:=1) (caps:=[]) (by decide +kernel) rfl rfl) rfl (bv (K:=K) rfl (bD (iO (K:=K) rfl) (pv 1) (bP (aZ K (pv 3) af)) cn)) (fun _ _ _ _=>(bo 0 (by show(nl5:List Str).Nodup;decide +kernel))) (fun _ _ _ _=>aR) (fun _ _ _ _=>(ap c21 hr rfl (aj (pv 0) ac))))))
   (ao (ar (bx (aj (au K (pv 2) af) (aj (bx (aj (pv 4) (aj (ap c29 hr rfl (aj (au K (pv 2) af) ac)) (aj (pv 5) ac)))) ac)))))))))))),by delta jN;delta hJ;walk_at "r"⟩
def wt(M:Md P w K mg):Bd' P w K mg base "_law_flow" xc Cb 0 mJ:=fun hr=>⟨_,(ao (ar (yR (ir (bX (wT (K:=K) rfl rfl) rfl M.n_list mw (aj (pv 0) ac)) (ir af (ir af (ir af (ir af ue rfl) rfl) rfl) rfl) rfl)))),by delta mJ;walk_at "r"⟩
def wu(M:Md P w K mg):Bd' P w K mg base "_law_pick" xf Lg 0 jP:=fun hr=>⟨_,(ag (aU (PW.pt (CF (aH cg (au K (pv 0) af) af) (xS (aH wS (au K (pv 0) af) (bG K M.n_len (au K (pv 0) af)))))) (ag (aQ 2 sc_sLpick.nd (au K (au K (pv 0) af) (au K (pv 0) af)))
   (ag (mt (aZ K (au K (pv 0) af) af) (ot (pv 0) af set_list))
   (ao (aU (aH Kr (pv 2) (bp HQ af af)) (ao (mt (pv 2) (ot (pv 0) af set_list))) (ao (mt (bp gI (aZ K (aZ K (bp lC (au K (pv 0) af) af) (bp gI (pv 2) af)) af) af) (ot (pv 0) af set_list))))))) aB)
   (ag (aU (aH GZ (au K (pv 0) af) af) (ag (aQ 3 sc_sLpick.nd (bp gI (au K (pv 0) af) (pv 1)))
   (ag (mt (bp lr (au K (pv 0) af) (pv 1)) (ot (pv 0) af set_list))
   (ao (ar (pv 3))))) aB)
   (ag (mt (aZ K (au K (pv 0) af) af) (ot (pv 0) af set_list))
   (ag (mt (bp gI (aZ K (aZ K (bp lC (au K (pv 0) af) af) af) (au K (pv 0) af)) af) (ot (pv 0) af set_list))
   (ao (ar (bp gI (bp lr (bp gI (bp lC (aZ K (bp gI (au K (pv 0) af) af) af) (aZ K (bp lr (au K (pv 0) af) af) af)) af) af) (pv 1)))))))),by delta jP;walk_at "r"⟩
def rK(M:Md P w K mg)(c42:bT P w K mg base):Bd' P w K mg base "_law_letters" lR nl7 1 iS:=fun hr=>⟨_,(ao (ar (cA Ai An Am dj aw (aj (aT (bc (osc:=(ak lR)) (ON:=nl7) (N:=Ce) (k:=1) (caps:=[0]) (by decide +kernel) rfl rfl) rfl (cS rfl M.n_range (aj (pv 1) ac)) (fun _ _ _ _=>(bo 0 (by show(Ce:List Str).Nodup;decide +kernel))) (fun _ _ _ _=>aR) (fun _ _ _ _=>(au K aw (ap c42 hr rfl (aj (pv 1) (aj af ac)))))) ac)))),by delta iS;walk_at "r"⟩
def wv(M:Md P w K mg)(c42:bT P w K mg base)(c43:iY P w K mg base):Bd' P w K mg base "_law_name" xg Lh 2 mL:=fun hr=>⟨_,(ag (aU (aH (f8 (K:=K) rfl hr.units) (pv 1) aw) (ao (ar (aZ K (pv 1) (ap c43 hr rfl (aj (pv 0) (aj (aZ K af (ap c42 hr rfl (aj (pv 0) (aj af ac)))) ac)))))) aB)
   (@ag _ _ _ _ _ (aU (aH cg (ap c42 hr rfl (aj (pv 0) (aj af ac))) af) (@ag _ _ _ _ _ (@aQ _ _ _ _ 2 _ _ sc_sLname.nd (@bW _ _ _ _ (@nj _ _ _ (by rfl))) (by rfl) (by first|exact Or.inl rfl|exact Or.inr rfl) (by first|exact .inl rfl|exact .inr rfl) (by rfl) (by rfl) (by rfl))
   (ag (aQ 2 sc_sLname.nd (aZ K (pv 2) (@bW _ _ _ _ (@nj _ _ _ (by rfl)))))
   (ao (ar (au K (pv 2) (ap c42 hr rfl (aj (pv 0) (aj af ac)))))))) aB)
   (ao (ar (ap c43 hr rfl (aj (pv 0) (aj (aZ K af (ap c42 hr rfl (aj (pv 0) (aj af ac)))) ac))))))),by delta mL;walk_at "r"⟩
def u3(M:Md P w K mg)(c42:bT P w K mg base)(c43:iY P w K mg base)(c44:rD P w K mg base):Bd' P w K mg base "_law_names" uo Li 3 iz:=fun hr=>⟨_,(ag (aQ 2 sc_sLnames.nd aw)
   (ag (aU (aH cg (ap c42 hr rfl (aj (pv 0) (aj af ac))) af) (ao (aQ 2 sc_sLnames.nd (ap c43 hr rfl (aj (pv 0) (aj (aZ K af (ap c42 hr rfl (aj (pv 0) (aj af ac)))) ac))))) aB)
   (ag (aQ 3 sc_sLnames.nd (bW ac))
   (ag (ou AB rfl (cS rfl M.n_range (aj (pv 1) ac)) (bo 4 sc_sLnames.nd) (ag (aQ 5 sc_sLnames.nd (ap c44 hr rfl (aj (pv 0) (aj (pv 2) ac))))
   (ag (aQ 6 sc_sLnames.nd af)
   (ag (qq AB (eE (oC (K:=K) rfl) (pv 5) (pv 3) (by with_unfolding_all rfl)) (ag (aQ 5 sc_sLnames.nd (bp lC (au K aw (bp gI (pv 6) af)) (aZ K af (bp lr (pv 6) af))))
   (ao (aQ 6 sc_sLnames.nd (aZ K (pv 6) af)))))
   (ao (ik (lH (pv 3) (pv 5))))))))
   (ao (ar (pv 3))))))),by delta iz;walk_at "r"⟩
def u4{n:Nat}{gs:List D->Option Rz}(M:Md P w K mg)(c46:Cal P w K mg base "_law_alike" n Cc (spV K gs)):Bd' P w K mg base "_law_alike" qd Cc n (li gs):=fun hr=>⟨_,(ag (aU (aH CN (pv 1) CD) (ao (ar (iu CN (pv 0) CD))) aB)
   (ag (aU (PW.pt (gF (cq (bK K M.n_isinstance (pv 1) (cZ rfl M.n_bool gK))) (gE (cq (bK K M.n_isinstance (pv 0) (cZ rfl M.n_bool gK)))))) (ao (ar (eX (bK K M.n_isinstance (pv 1) (cZ rfl M.n_bool gK)) (eX (bK K M.n_isinstance (pv 0) (cZ rfl M.n_bool gK)) (gG (iu cg (pv 0) (pv 1))))))) aB)
   (ag (aU (cq (bK K M.n_isinstance (pv 1) (cZ rfl M.n_int ls))) (ao (ar (eX (bK K M.n_isinstance (pv 0) (cZ rfl M.n_int ls)) (gG (iu cg (pv 0) (pv 1)))))) aB)
   (ag (aU (cq (bK K M.n_isinstance (pv 1) (cZ rfl M.n_str bA))) (ao (ar (eX (bK K M.n_isinstance (pv 0) (cZ rfl M.n_str bA)) (gG (iu cg (pv 0) (pv 1)))))) aB)
   (ag (aU (PW.pt (gF (aH (f8 (K:=K) rfl hr.units) (bK K M.n_isinstance (pv 1) (cZ rfl M.n_tuple cX)) (bK K M.n_isinstance (pv 0) (cZ rfl M.n_tuple cX))) (gE (aH (f8 (K:=K) rfl hr.units) (bK K M.n_isinstance (pv 1) (cZ rfl M.n_list mw)) (bK K M.n_isinstance (pv 0) (cZ rfl M.n_list mw)))))) (ao (ar m9)) aB)
   (ao (ar (eX (iu cg (bG K M.n_len (pv 0)) (bG K M.n_len (pv 1))) (gG (bR (gJ rfl) rfl M.n_all boot_all (aj (aT (bc (osc:=(ak qd)) (ON:=Cc) (N:=["_law_k","_law_found","_law_due"]) (k:=1) (caps:=[0,1]) (by decide +kernel) rfl rfl) rfl (cS rfl M.n_range (aj (bG K M.n_len (pv 1)) ac)) (fun _ _ _ _=>(bo 0 (by show(["_law_k","_law_found","_law_due"]:List Str).Nodup;decide +kernel))) (fun _ _ _ _=>aR) (fun _ _ _ _=>(ap c46 hr rfl (aj (au K (pv 1) (pv 0)) (aj (au K (pv 2) (pv 0)) ac)) (Xb _)))) ac))))))))))),by delta li;walk_at "r"⟩
def pU(M:Md P w K mg):Bd' P w K mg base "_law_end_text" oS Cd 0 hU:=fun hr=>⟨_,(ag (aU (aH cg (au K (pv 0) af) af) (ao (ar (aZ K aw (au K (pv 0) af)))) aB)
   (ao (ar (aZ K (au K (pv 0) af) aw)))),by delta hU;walk_at "r"⟩
def m7(M:Md P w K mg)(c47:lq P w K mg base):Bd' P w K mg base "_law_joints_text" gy JI 1 eN:=fun hr=>⟨_,(ag (aQ 1 sc_sLjointstext.nd (bW ac))
   (ag (ou AB rfl (bv (K:=K) rfl (pv 0)) (bo 2 sc_sLjointstext.nd) (ao (ik (lH (pv 1) (cA Ai An Am dj aw (aj (aT (bc (osc:=(ak gy)) (ON:=JI) (N:=Cd) (k:=1) (caps:=[]) (by decide +kernel) rfl rfl) rfl (bv (K:=K) rfl (pv 2)) (fun _ _ _ _=>(bo 0 (by show(Cd:List Str).Nodup;decide +kernel))) (fun _ _ _ _=>aR) (fun _ _ _ _=>(ap c47 hr rfl (aj (pv 0) ac)))) ac))))))
   (ao (ar (cA Ai An Am dj aw (aj (pv 1) ac)))))),by delta eN;delta dI;delta dH;walk_at "r"⟩
def o9(M:Md P w K mg)(c48:eT P w K mg base):Bd' P w K mg base "_law_deed_text" j7 nl9 2 gi:=fun hr=>⟨_,(ag (aU (cq (bK K M.n_isinstance (au K (pv 0) af) (cZ rfl M.n_str bA))) (ao (ar (cA Ai An Am dj aw (aj (aT (bc (osc:=(ak j7)) (ON:=nl9) (N:=["_law_part"]) (k:=1) (caps:=[]) (by decide +kernel) rfl rfl) rfl (bv (K:=K) rfl (pv 0)) (fun _ _ _ _=>(bo 0 (by show(["_law_part"]:List Str).Nodup;decide +kernel))) (fun _ _ _ _=>aR) (fun _ _ _ _=>(bX cF rfl M.n_str bA (aj (pv 0) ac)))) ac)))) aB)
   (ao (ar (aZ K (aZ K (ap c48 hr rfl (aj (au K (pv 0) af) ac)) aw) (ap c48 hr rfl (aj (au K (pv 0) af) ac)))))),by delta gi;delta iA;walk_at "r"⟩
def ww(M:Md P w K mg):Bd' P w K mg base "_law_with" xh Gh 0 mN:=fun hr=>⟨_,(ag (aU (aH cg (pv 1) aw) (ao (ar (pv 0))) aB)
   (ao (ar (aZ K (aZ K (pv 0) aw) (pv 1))))),by delta mN;walk_at "r"⟩
def oh(M:Md P w K mg):Bd' P w K mg base "_law_ring_lines" iF Ex 0 fA:=fun hr=>⟨_,(ao (ar (aT (bc (osc:=(ak iF)) (ON:=Ex) (N:=["_law_ring"]) (k:=1) (caps:=[]) (by decide +kernel) rfl rfl) rfl (bv (K:=K) rfl (pv 0)) (fun _ _ _ _=>(bo 0 (by show(["_law_ring"]:List Str).Nodup;decide +kernel))) (fun _ _ _ _=>aR) (fun _ _ _ _=>(aZ K aw (JC (Eq.refl K) (cA Ai An Am (Ei K) aw (aj (aT (Eg (ON:=["_law_ring"]) (N:=["_law_point"]) (k:=1) (caps:=[]) (by exact rfl) (by exact rfl) (by decide +kernel)) rfl (bv (K:=K) rfl (pv 0)) (fun _ _ _ _=>(bo 0 (by show(["_law_point"]:List Str).Nodup;decide +kernel))) (fun _ _ _ _=>aR) (fun _ _ _ _=>(bX cF (by exact rfl) M.n_str bA (aj (pv 0) ac)))) ac)))))))),by delta fA;delta d7;delta hX;walk_at "r"⟩
def oi(M:Md P w K mg)(c48:eT P w K mg base)(c50:rE P w K mg base)(c51:jc P w K mg base):Bd' P w K mg base "_law_part_lines" fY Gi 2 fB:=fun hr=>⟨_,(ag (aU (aH cg (pv 0) aw) (ao (ar (bW (aj (ap c50 hr rfl (aj aw (aj (ap c48 hr rfl (aj (au K (pv 1) af) ac)) ac))) (aj (ap c50 hr rfl (aj aw (aj (ap c48 hr rfl (aj (au K (pv 1) af) ac)) ac))) ac))))) aB)
   (ag (aU (aH cg (pv 0) aw) (ao (ar (ap c51 hr rfl (aj (au K (pv 1) af) ac)))) aB)
   (ag (aU (aH cg (pv 0) aw) (ag (aQ 2 sc_sLpartlines.nd (ap c50 hr rfl (aj aw (aj (cA Ai An Am dj aw (aj (aT (bc (osc:=(ak fY)) (ON:=Gi) (N:=JO) (k:=2) (caps:=[]) (by decide +kernel) rfl rfl) rfl (bv (K:=K) rfl (au K (pv 1) af)) (fun _ _ _ _=>(uc (K:=K) (n:=2) rfl rfl (gH (bo 0 (by show(JO:List Str).Nodup;decide +kernel)) (gH (bo 1 (by show(JO:List Str).Nodup;decide +kernel)) tG)))) (fun _ _ _ _=>aR) (fun _ _ _ _=>(bp (bQ (K:=K) rfl) (bp (bQ (K:=K) rfl) (bX cF rfl M.n_str bA (aj (pv 0) ac)) aw) (bX cF rfl M.n_str bA (aj (pv 1) ac))))) ac)) ac))))
   (ao (ar (bp (bQ (K:=K) rfl) (ap c51 hr rfl (aj (au K (pv 1) af) ac)) (bW (aj (pv 2) (aj (bp (bQ (K:=K) rfl) aw (bX cF rfl M.n_str bA (aj (au K (pv 1) af) ac))) ac))))))) aB)
   (ao (ar (aT (bc (osc:=(ak fY)) (ON:=Gi) (N:=Gn) (k:=3) (caps:=[]) (by decide +kernel) rfl rfl) rfl (bv (K:=K) rfl (pv 1)) (fun _ _ _ _=>(uc (K:=K) (n:=3) rfl rfl (gH (bo 0 (by show(Gn:List Str).Nodup;decide +kernel)) (gH (bo 1 (by show(Gn:List Str).Nodup;decide +kernel)) (gH (bo 2 (by show(Gn:List Str).Nodup;decide +kernel)) tG))))) (fun _ _ _ _=>aR) (fun _ _ _ _=>(bp (bQ (K:=K) rfl) (bp (bQ (K:=K) rfl) (bp (bQ (K:=K) rfl) (bp (bQ (K:=K) rfl) (pv 0) aw) (ap c48 hr rfl (aj (pv 1) ac))) aw) (ap c48 hr rfl (aj (pv 2) ac)))))))))),by delta fB;delta d9;delta d8;walk_at "r"⟩
def wx(M:Md P w K mg)(c49:kx P w K mg base)(c52:jd P w K mg base):Bd' P w K mg base "_law_text" uq JJ 3 mO:=fun hr=>⟨_,(ag (aQ 2 sc_sLtext.nd (bp (bQ (K:=K) rfl) (bp (bQ (K:=K) rfl) (bW (aj (bp (bQ (K:=K) rfl) (bp (bQ (K:=K) rfl) (pv 0) aw) (bX cF rfl M.n_str bA (aj (au K (pv 1) af) ac))) ac)) (ap c52 hr rfl (aj (pv 0) (aj (au K (pv 1) af) ac)))) (bW (aj aw ac))))
   (ao (ar (cA Ai An Am dj aw (aj (bp (bQ (K:=K) rfl) (pv 2) (aT (bc (osc:=(ak uq)) (ON:=JJ) (N:=nl9) (k:=1) (caps:=[]) (by decide +kernel) rfl rfl) rfl (bv (K:=K) rfl (au K (pv 1) af)) (fun _ _ _ _=>(bo 0 (by show(nl9:List Str).Nodup;decide +kernel))) (fun _ _ _ _=>aR) (fun _ _ _ _=>(ap c49 hr rfl (aj (pv 0) ac))))) ac))))),by delta mO;delta jQ;walk_at "r"⟩
def sy(M:Md P w K mg)(c42:bT P w K mg base):Bd' P w K mg base "_law_number" qT Gk 1 jR:=fun hr=>⟨_,(ao (ar (ap c42 hr rfl (aj (pv 0) (aj (Eh (D6 (tU (K:=K) rfl) Ej (ap c42 hr rfl (aj (pv 0) (aj (aZ K (pv 1) af) ac))) (fun _ _=>rfl))) ac))))),by delta jR;walk_at "r"⟩
def pc(M:Md P w K mg)(c42:bT P w K mg base):Bd' P w K mg base "_law_some_ends" mV Lj 1 gk:=fun hr=>⟨_,(ag (aQ 3 sc_sLsomeends.nd (bW ac))
   (ag (qq AB (aH wS (bG K M.n_len (pv 3)) (pv 2)) (ag (aQ 4 sc_sLsomeends.nd (ap c42 hr rfl (aj (pv 0) (aj (bp lC af (bG K M.n_len (pv 1))) ac))))
   (ag (qq AB (eE (Jh (K:=K) rfl hr.units) (bx (aj (au K (pv 1) (bp lr (pv 4) af)) (aj (bp gI (pv 4) af) ac))) (pv 3) (by with_unfolding_all rfl)) (ao (aQ 4 sc_sLsomeends.nd (bp gI (aZ K (pv 4) af) (bp lC af (bG K M.n_len (pv 1)))))))
   (ao (ik (lH (pv 3) (bx (aj (au K (pv 1) (bp lr (pv 4) af)) (aj (bp gI (pv 4) af) ac)))))))))
   (ao (ar (pv 3))))),by delta gk;delta eO;delta cW;walk_at "r"⟩
def m8(M:Md P w K mg)(c42:bT P w K mg base)(c55:gm P w K mg base):Bd' P w K mg base "_law_some_joints" j8 Ll 2 eP:=fun hr=>⟨_,(ag (aQ 3 sc_sLsomejoints.nd (bW ac))
   (ag (ou AB rfl (cS rfl M.n_range (aj (aZ K (pv 2) (ap c42 hr rfl (aj (pv 0) (aj af ac)))) ac)) (bo 4 sc_sLsomejoints.nd) (ao (ik (lH (pv 3) (bH K M.n_tuple (bR (cJ (K:=K) rfl hr) rfl M.n_sorted boot_sorted (aj (ap c55 hr rfl (aj (pv 0) (aj (pv 1) (aj (aZ K af (ap c42 hr rfl (aj (pv 0) (aj af ac)))) ac)))) ac)))))))
   (ao (ar (bH K M.n_tuple (pv 3)))))),by delta eP;delta dJ;walk_at "r"⟩
def pe(M:Md P w K mg)(c42:bT P w K mg base)(c54:eU P w K mg base)(c55:gm P w K mg base):Bd' P w K mg base "_law_some_deed" j9 JK 2 gl:=fun hr=>⟨_,(ag (aQ 2 sc_sLsomedeed.nd (ap c42 hr rfl (aj (pv 0) (aj af ac))))
   (ag (aU (aH cg (pv 2) af) (ao (ar (bx (aj aw (aj (ap c54 hr rfl (aj (pv 0) (aj af ac))) (aj (ap c54 hr rfl (aj (pv 0) (aj af ac))) ac)))))) aB)
   (ag (aU (aH cg (pv 2) af) (ao (ar (bp (bQ (K:=K) rfl) (bx (aj aw ac)) (bH K M.n_tuple (aT (bc (osc:=(ak j9)) (ON:=JK) (N:=Ce) (k:=1) (caps:=[0]) (by decide +kernel) rfl rfl) rfl (cS rfl M.n_range (aj af ac)) (fun _ _ _ _=>(bo 0 (by show(Ce:List Str).Nodup;decide +kernel))) (fun _ _ _ _=>aR) (fun _ _ _ _=>(ap c54 hr rfl (aj (pv 1) (aj af ac))))))))) aB)
   (ag (aQ 3 sc_sLsomedeed.nd (ap c55 hr rfl (aj (pv 0) (aj (pv 1) (aj (Eh (D6 (tU (K:=K) rfl) Gd (pv 2) (fun _ _=>rfl))) ac)))))
   (ag (aQ 4 sc_sLsomedeed.nd (bH K M.n_tuple (bR (cJ (K:=K) rfl hr) rfl M.n_sorted boot_sorted (aj (bD (eM (K:=K) rfl) (pv 3) cn (bP af)) ac))))
   (ag (aU (aH cg (pv 2) af) (ao (ar (bx (aj (bx (aj (pv 4) ac)) (aj (bx (aj (bD (eM (K:=K) rfl) (pv 4) cn (bP af)) (aj (bD (eM (K:=K) rfl) (pv 4) (bP af) cn) ac))) ac))))) aB)
   (ag (aU (aH cg (pv 2) af) (ao (ar (bx (aj (bx (aj (bD (eM (K:=K) rfl) (pv 4) cn (bP af)) (aj (bD (eM (K:=K) rfl) (pv 4) (bP af) cn) ac))) (aj (bx (aj (pv 4) ac)) ac))))) aB)
   (ag (aQ 5 sc_sLsomedeed.nd (bH K M.n_tuple (bR (cJ (K:=K) rfl hr) rfl M.n_sorted boot_sorted (aj (bW (aj (pv 4) (aj (bH K M.n_tuple (bR (cJ (K:=K) rfl hr) rfl M.n_sorted boot_sorted (aj (bD (eM (K:=K) rfl) (pv 3) (bP af) cn) ac))) ac))) ac))))
   (ag (aQ 6 sc_sLsomedeed.nd (bW (aj (bH K M.n_tuple (bR (cJ (K:=K) rfl hr) rfl M.n_sorted boot_sorted (aj (bW (aj (au K (pv 3) af) (aj (au K (pv 3) af) ac))) ac))) (aj (bH K M.n_tuple (bR (cJ (K:=K) rfl hr) rfl M.n_sorted boot_sorted (aj (bp (bQ (K:=K) rfl) (bD (eM (K:=K) rfl) (pv 3) (bP af) (bP af)) (bD (eM (K:=K) rfl) (pv 3) (bP af) cn)) ac))) ac))))
   (ao (ar (bx (aj (pv 5) (aj (bH K M.n_tuple (bR (cJ (K:=K) rfl hr) rfl M.n_sorted boot_sorted (aj (pv 6) ac))) ac)))))))))))))),by delta gl;delta iB;walk_at "r"⟩
def wy(M:Md P w K mg)(c42:bT P w K mg base):Bd' P w K mg base "_law_many" xi nl7 1 mQ:=fun hr=>⟨_,(ag (aQ 1 sc_sLmany.nd (ap c42 hr rfl (aj (pv 0) (aj af ac))))
   (ag (aU (aH cg (ap c42 hr rfl (aj (pv 0) (aj af ac))) af) (ao (aQ 1 sc_sLmany.nd (aZ K af (ap c42 hr rfl (aj (pv 0) (aj af ac)))))) aB)
   (ao (ar (pv 1))))),by delta mQ;walk_at "r"⟩
def ol(M:Md P w K mg)(c42:bT P w K mg base)(c54:eU P w K mg base)(c58:kn P w K mg base):Bd' P w K mg base "_law_some_rings" iG JL 2 fE:=fun hr=>⟨_,(ag (aQ 1 sc_sLsomerings.nd (bW ac))
   (ag (ou AB rfl (cS rfl M.n_range (aj (ap c58 hr rfl (aj (pv 0) ac)) ac)) (bo 2 sc_sLsomerings.nd) (ao (ik (lH (pv 1) (bH K M.n_tuple (aT (bc (osc:=(ak iG)) (ON:=JL) (N:=["_law_at","_law_flow_here"]) (k:=1) (caps:=[0]) (by decide +kernel) rfl rfl) rfl (cS rfl M.n_range (aj (aZ K af (ap c42 hr rfl (aj (pv 0) (aj af ac)))) ac)) (fun _ _ _ _=>(bo 0 (by show(["_law_at","_law_flow_here"]:List Str).Nodup;decide +kernel))) (fun _ _ _ _=>aR) (fun _ _ _ _=>(ap c54 hr rfl (aj (pv 1) (aj af ac))))))))))
   (ao (ar (bH K M.n_tuple (pv 1)))))),by delta fE;delta ee;delta hZ;walk_at "r"⟩
def om(M:Md P w K mg)(c42:bT P w K mg base)(c54:eU P w K mg base)(c56:iL P w K mg base)(c58:kn P w K mg base)(c59:je P w K mg base):Bd' P w K mg base "_law_some_parts" iH JM 3 fF:=fun hr=>⟨_,(ag (aU (aH cg (pv 1) aw) (ao (ar (bx (aj (ap c56 hr rfl (aj (pv 0) (aj (pv 2) (aj af ac)))) (aj (ap c56 hr rfl (aj (pv 0) (aj (pv 2) (aj af ac)))) ac))))) aB)
   (ag (aU (aH cg (pv 1) aw) (ao (ar (bx (aj (ap c59 hr rfl (aj (pv 0) ac)) ac)))) aB)
   (ag (aU (aH cg (pv 1) aw) (ag (CY 3 (bc (osc:=(ak iH)) (ON:=JM) (N:=Ce) (k:=1) (caps:=[0]) (by decide +kernel) rfl rfl) rfl sc_sLsomeparts.nd (cS rfl M.n_range (aj (ap c58 hr rfl (aj (pv 0) ac)) ac)) (fun _ _ _ _=>(bo 0 (by show(Ce:List Str).Nodup;decide +kernel))) (fun _ _ _ _=>aR) (fun _ _ _ _=>(bx (aj (ap c54 hr rfl (aj (pv 1) (aj af ac))) (aj (ap c54 hr rfl (aj (pv 1) (aj af ac))) ac)))))
   (ao (ar (bx (aj (ap c59 hr rfl (aj (pv 0) ac)) (aj (bH K M.n_tuple (pv 3)) (aj (ap c54 hr rfl (aj (pv 0) (aj af ac))) ac))))))) aB)
   (ag (aQ 4 sc_sLsomeparts.nd (bW ac))
   (ag (ou AB rfl (cS rfl M.n_range (aj (ap c58 hr rfl (aj (pv 0) ac)) ac)) (bo 5 sc_sLsomeparts.nd) (ag (aQ 6 sc_sLsomeparts.nd (au K (@bW _ _ _ _ (@nj _ _ _ (by rfl))) (ap c42 hr rfl (aj (pv 0) (aj af ac)))))
   (ao (ik (lH (pv 4) (bx (aj (pv 6) (aj (ap c56 hr rfl (aj (pv 0) (aj (pv 2) (aj af ac)))) (aj (ap c56 hr rfl (aj (pv 0) (aj (pv 2) (aj af ac)))) ac)))))))))
   (ao (ar (bH K M.n_tuple (pv 4))))))))),by delta fF;delta ef;delta cL;walk_at "r"⟩
def on(M:Md P w K mg)(c42:bT P w K mg base)(c45:pF P w K mg base)(c54:eU P w K mg base)(c57:ky P w K mg base)(c58:kn P w K mg base)(c60:jf P w K mg base):Bd' P w K mg base "_law_some_paper" iI JN 4 fG:=fun hr=>⟨_,(ag (aQ 2 sc_sLsomepaper.nd (ap c45 hr rfl (aj (pv 0) (aj (aZ K af (ap c42 hr rfl (aj (pv 0) (aj af ac)))) ac))))
   (ag (aQ 3 sc_sLsomepaper.nd (ap c60 hr rfl (aj (pv 0) (aj (pv 1) (aj (pv 2) ac)))))
   (ag (aQ 4 sc_sLsomepaper.nd (ap c54 hr rfl (aj (pv 0) (aj af ac))))
   (ao (ar (bx (aj (pv 3) (aj (pv 4) (aj (bH K M.n_tuple (aT (bc (osc:=(ak iI)) (ON:=JN) (N:=Lr) (k:=1) (caps:=[0,2]) (by decide +kernel) rfl rfl) rfl (cS rfl M.n_range (aj (ap c58 hr rfl (aj (pv 0) ac)) ac)) (fun _ _ _ _=>(bo 0 (by show(Lr:List Str).Nodup;decide +kernel))) (fun _ _ _ _=>aR) (fun _ _ _ _=>(ap c57 hr rfl (aj (pv 1) (aj (pv 2) ac)))))) ac))))))))),by delta fG;delta et;walk_at "r"⟩
def u5(M:Md P w K mg)(c28:nY P w K mg base)(c40:n8 P w K mg base)(c46:pG P w K mg base)(c53:rF P w K mg base):Bd' P w K mg base "_law_holds" ut Lp 9 lj:=fun hr=>⟨_,(ag (aQ 2 sc_sLholds.nd (ap c53 hr rfl (aj (pv 0) (aj (pv 1) ac))))
   (ag (aQ 3 sc_sLholds.nd (ap c40 hr rfl (aj (pv 2) ac)))
   (ag (aU (dG (cq (ap c46 hr rfl (aj (pv 3) (aj (bx (aj (pv 0) (aj (pv 1) ac))) ac))))) (ao (ar m9)) aB)
   (ag (aQ 4 sc_sLholds.nd (ap c28 hr rfl (aj (au K (pv 3) af) (aj (au K (pv 3) af) ac))))
   (ao (ar (eX (bK K M.n_isinstance (pv 4) (cZ rfl M.n_str bA)) (eX (iu cg (pv 4) (pv 2)) (gG (ap c46 hr rfl (aj (pv 3) (aj (bx (aj (pv 0) (aj (pv 1) ac))) ac)))))))))))),by delta lj;walk_at "r"⟩
def Kf(M:Md P w K mg)(c41:rC P w K mg base)(c42:bT P w K mg base)(c61:jg P w K mg base)(c62:pH P w K mg base):Bd' P w K mg base "law" JP Lq 10 Es:=fun hr=>⟨_,(ag (aQ 1 sc_slaw.nd (ap c41 hr rfl (aj (pv 0) ac)))
   (@ag _ _ _ _ _ (@aQ _ _ _ _ 2 _ _ sc_slaw.nd (@bW _ _ _ _ (@nj _ _ _ (by rfl))) (by rfl) (by first|exact Or.inl rfl|exact Or.inr rfl) (by first|exact .inl rfl|exact .inr rfl) (by rfl) (by rfl) (by rfl))
   (ag (aQ 3 sc_slaw.nd (au K (pv 2) (ap c42 hr rfl (aj (pv 1) (aj af ac)))))
   (ag (aQ 4 sc_slaw.nd (ap c61 hr rfl (aj (pv 1) (aj (pv 3) ac))))
   (ag (aU (dG (cq (ap c62 hr rfl (aj (pv 3) (aj (pv 4) ac))))) (ao (ar m9)) aB)
   (ag (aQ 5 sc_slaw.nd (au K (pv 2) (ap c42 hr rfl (aj (pv 1) (aj af ac)))))
   (ao (ar (eX (ap c62 hr rfl (aj (pv 5) (aj (ap c61 hr rfl (aj (pv 1) (aj (pv 5) ac))) ac))) (gG (ap c62 hr rfl (aj (pv 3) (aj (pv 4) ac))))))))))))),by delta Es;walk_at "r"⟩
end
set_option maxHeartbeats 0 in
def all_mk{l:PySem.W.OpenLaw}{w:World}{K:Aa}{h:Heap}{mg:Str->Option Value}{fa:Addr}(X:K.In h)(G:h.Ns mainGlobals mg)(hfa:mg "law"=some (.ref fa))
  (h1:FH K "is_name" p9)(h2:FH K "is_whole" qQ)(h3:FH K "rising" qa)(h4:FH K "is_end" w9)(h5:FH K "is_joint" nE)(h6:FH K "is_half" qb)(h7:FH K "sizes" ul)(h8:FH K "ends_of" um)(h9:FH K "is_deed" qc)(h10:FH K "refuse_no_book" iT)(h11:FH K "show_end" qR)(h12:FH K "show_joint" jS)(h13:FH K "show_joints" iC)(h14:FH K "show_deed" lM)(h15:FH K "read_number" iD)(h16:FH K "read_end" qS)(h17:FH K "read_joint" jT)(h18:FH K "read_line_deed" fR)(h19:FH K "read_joints" iE)(h20:FH K "read_sides" mR)(h21:FH K "read_set_deed" jU)(h22:FH K "read_deed" oP)(h23:FH K "show_words" mS)(h24:FH K "show_pairs" jV)(h25:FH K "show_part" oQ)(h26:FH K "show_ring" lN)(h27:FH K "show_span" lO)(h28:FH K "show_parts" fH)(h29:FH K "show_paper" jW)(h30:FH K "read_figures" jX)(h31:FH K "words_behind" jY)(h32:FH K "read_pairs" mT)(h33:FH K "read_part" oR)(h34:FH K "read_ring" lP)(h35:FH K "read_span" lQ)(h36:FH K "read_cover" mU)(h37:FH K "read_parts_one" iU)(h38:FH K "read_rings" jZ)(h39:FH K "read_parts_turns" dW)(h40:FH K "read_parts" j5)(h41:FH K "read_paper" j6)(h42:FH K "_law_flow" xc)(h43:FH K "_law_pick" xf)(h44:FH K "_law_letters" lR)(h45:FH K "_law_name" xg)(h46:FH K "_law_names" uo)(h47:FH K "_law_alike" qd)(h48:FH K "_law_end_text" oS)(h49:FH K "_law_joints_text" gy)(h50:FH K "_law_deed_text" j7)(h51:FH K "_law_with" xh)(h52:FH K "_law_ring_lines" iF)(h53:FH K "_law_part_lines" fY)(h54:FH K "_law_text" uq)(h55:FH K "_law_number" qT)(h56:FH K "_law_some_ends" mV)(h57:FH K "_law_some_joints" j8)(h58:FH K "_law_some_deed" j9)(h59:FH K "_law_many" xi)(h60:FH K "_law_some_rings" iG)(h61:FH K "_law_some_parts" iH)(h62:FH K "_law_some_paper" iI)(h63:FH K "_law_holds" ut)(h64:FH K "law" JP){ct_LETTERS:Tok}(cv_LETTERS:PySem.W.nsIn K mainGlobals "LETTERS"=some (some (.str "abcdefghijklmnopqrstuvwxyz" ct_LETTERS))){ct_LONGEST_NAME:Tok}(cv_LONGEST_NAME:PySem.W.nsIn K mainGlobals "LONGEST_NAME"=some (some (.int 6 ct_LONGEST_NAME))){ct_FIGURES:Tok}(cv_FIGURES:PySem.W.nsIn K mainGlobals "FIGURES"=some (some (.str "0123456789" ct_FIGURES))){ct_DEED_FIGURES:Tok}(cv_DEED_FIGURES:PySem.W.nsIn K mainGlobals "DEED_FIGURES"=some (some (.int 3 ct_DEED_FIGURES))){ct_PAPER_FIGURES:Tok}(cv_PAPER_FIGURES:PySem.W.nsIn K mainGlobals "PAPER_FIGURES"=some (some (.int 4 ct_PAPER_FIGURES))){cA_FORMS:Addr}(ca_FORMS:PySem.W.nsIn K mainGlobals "FORMS"=some (some (.ref cA_FORMS)))(cg_FORMS:GV K (.ref cA_FORMS) (.tup [.tup [.tup [.int 2],.tup [.int 1,.int 1]],.tup [.tup [.int 1,.int 1],.tup [.int 2]],.tup [.tup [.int 2,.int 2],.tup [.int 2,.int 2]],.tup [.tup [.int 1,.int 2],.tup [.int 1,.int 2]]])){cA_BOOKS:Addr}(ca_BOOKS:PySem.W.nsIn K mainGlobals "BOOKS"=some (some (.ref cA_BOOKS)))(cg_BOOKS:GV K (.ref cA_BOOKS) (.tup [.str "one",.str "two",.str "home",.str "turns",.str "changes"])){cA_PART_KINDS:Addr}(ca_PART_KINDS:PySem.W.nsIn K mainGlobals "PART_KINDS"=some (some (.ref cA_PART_KINDS)))(cg_PART_KINDS:GV K (.ref cA_PART_KINDS) (.tup [.str "ring",.str "odd",.str "ours",.str "theirs"])){cA_NUMBERS_BEHIND:Addr}(ca_NUMBERS_BEHIND:PySem.W.nsIn K mainGlobals "NUMBERS_BEHIND"=some (some (.ref cA_NUMBERS_BEHIND)))(cg_NUMBERS_BEHIND:GDI l.prog w K cA_NUMBERS_BEHIND [("turn",2),("change",4)])
  (z_all:PySem.W.nsIn K mainGlobals "all"=some none) (z_bool:PySem.W.nsIn K mainGlobals "bool"=some none) (z_int:PySem.W.nsIn K mainGlobals "int"=some none) (z_isinstance:PySem.W.nsIn K mainGlobals "isinstance"=some none) (z_len:PySem.W.nsIn K mainGlobals "len"=some none) (z_list:PySem.W.nsIn K mainGlobals "list"=some none) (z_range:PySem.W.nsIn K mainGlobals "range"=some none) (z_sorted:PySem.W.nsIn K mainGlobals "sorted"=some none) (z_str:PySem.W.nsIn K mainGlobals "str"=some none) (z_tuple:PySem.W.nsIn K mainGlobals "tuple"=some none) (z_zip:PySem.W.nsIn K mainGlobals "zip"=some none) :
  ∃fd:FuncData,(∀(s:Shared)(v:Value),BindsTo s fd ⟨[v],[]⟩ [("_law_script",v)])/\∀base:Heap,K.In base->base.Ns mainGlobals mg->FnOk l.prog w K mg base CX0 11 fa fd Cb (yA K):=by
 have M:Md l.prog w K mg:=⟨Aq X G z_all,Aq X G z_bool,Aq X G z_int,Aq X G z_isinstance,Aq X G z_len,Aq X G z_list,Aq X G z_range,Aq X G z_sorted,Aq X G z_str,Aq X G z_tuple,Aq X G z_zip,⟨_,As X G cv_LETTERS⟩,⟨_,As X G cv_LONGEST_NAME⟩,⟨_,As X G cv_FIGURES⟩,⟨_,As X G cv_DEED_FIGURES⟩,⟨_,As X G cv_PAPER_FIGURES⟩,cg_FORMS.glt (As X G ca_FORMS),cg_BOOKS.glt (As X G ca_BOOKS),cg_PART_KINDS.glt (As X G ca_PART_KINDS),⟨_,As X G ca_NUMBERS_BEHIND,cg_NUMBERS_BEHIND⟩⟩;refine h64.law X G hfa sc_slaw (fun _ _ _ _ _ _=>ar1 fun _=>rfl) GQ fun base=>?_;have c0:tq l.prog w K mg base:=h1.cal X G xj (fun _ _ _ _ _ _=>ar1 fun _=>rfl) (xN M);have c1:rz l.prog w K mg base:=h2.cal X G vO (fun _ _ _ _ _ _=>ar1 fun _=>rfl) (wo M);have c2:nV l.prog w K mg base:=h3.cal X G xk (fun _ _ _ _ _ _=>ar1 fun _=>rfl) (Cy M);have c3:wn l.prog w K mg base:=h4.cal X G Cf (fun _ _ _ _ _ _=>ar1 fun _=>rfl) (Cz M c0 c1);have c4:m6 l.prog w K mg base:=h5.cal X G vP (fun _ _ _ _ _ _=>ar1 fun _=>rfl) (wp M c2 c3);have c5:tu l.prog w K mg base:=h6.cal X G xp (fun _ _ _ _ _ _=>ar1 fun _=>rfl) (xO M c2 c4);have c6:zk l.prog w K mg base:=h7.cal X G Cg (fun _ _ _ _ _ _=>ar1 fun _=>rfl) (Fk M);have c7:tz l.prog w K mg base:=h8.cal X G sc_sendsof (fun _ _ _ _ _ _=>ar1 fun _=>rfl) (xP M);have c8:tD l.prog w K mg base:=h9.cal X G sc_sisdeed (fun _ _ _ _ _ _=>ar1 fun _=>rfl) (xQ M c2 c5 c6 c7);have c9:i8 l.prog w K mg base:=h10.cal X G oU (fun _ _ _ _ _ _=>ar1 fun _=>rfl) (n9 M);have c10:rA l.prog w K mg base:=h11.cal X G sc_sshowend (fun _ _ _ _ _ _=>ar1 fun _=>rfl) (wq M);have c11:kg l.prog w K mg base:=h12.cal X G rR (fun _ _ _ _ _ _=>ar1 fun _=>rfl) (r6 M c10);have c12:ms l.prog w K mg base:=h13.cal X G qU (fun _ _ _ _ _ _=>ar1 fun _=>rfl) (rG M c11);have c13:pq l.prog w K mg base:=h14.cal X G sc_sshowdeed (fun _ _ _ _ _ _=>ar1 fun _=>rfl) (uS M c12);have c14:iW l.prog w K mg base:=h15.cal X G qV (fun _ _ _ _ _ _=>ar2 fun _ _=>rfl) (rH M);have c15:rB l.prog w K mg base:=h16.cal X G vQ (fun _ _ _ _ _ _=>ar1 fun _=>rfl) (wr M);have c16:nW l.prog w K mg base:=h17.cal X G sc_sreadjoint (fun _ _ _ _ _ _=>ar1 fun _=>rfl) (r9 M c4 c15);have c17:i9 l.prog w K mg base:=h18.cal X G oV (fun _ _ _ _ _ _=>ar1 fun _=>rfl) (oa M c14);have c18:iX l.prog w K mg base:=h19.cal X G qW (fun _ _ _ _ _ _=>ar1 fun _=>rfl) (rJ M c16)
 have c19:ki l.prog w K mg base:=h20.cal X G sc_sreadsides (fun _ _ _ _ _ _=>ar2 fun _ _=>rfl) (se M c18);have c20:kr l.prog w K mg base:=h21.cal X G sc_sreadsetdeed (fun _ _ _ _ _ _=>ar1 fun _=>rfl) (o8 M c8 c19);have c21:px l.prog w K mg base:=h22.cal X G sc_sreaddeed (fun _ _ _ _ _ _=>ar1 fun _=>rfl) (uT M c17 c20);have c22:eS l.prog w K mg base:=h23.cal X G rS (fun _ _ _ _ _ _=>ar2 fun _ _=>rfl) (sh M);have c23:kj l.prog w K mg base:=h24.cal X G rT (fun _ _ _ _ _ _=>ar2 fun _ _=>rfl) (si M c11 c22);have c24:pz l.prog w K mg base:=h25.cal X G sc_sshowpart (fun _ _ _ _ _ _=>ar1 fun _=>rfl) (uU M c23);have c25:pA l.prog w K mg base:=h26.cal X G uu (fun _ _ _ _ _ _=>ar1 fun _=>rfl) (uV M c22);have c26:pB l.prog w K mg base:=h27.cal X G uv (fun _ _ _ _ _ _=>ar1 fun _=>rfl) (uW M);have c27:nX l.prog w K mg base:=h28.cal X G sc_sshowparts (fun _ _ _ _ _ _=>ar2 fun _ _=>rfl) (sk M c22 c23 c24 c25 c26);have c28:nY l.prog w K mg base:=h29.cal X G sc_sshowpaper (fun _ _ _ _ _ _=>ar2 fun _ _=>rfl) (sn M c9 c13 c22 c27);have c29:df l.prog w K mg base:=h30.cal X G pQ (fun _ _ _ _ _ _=>ar1 fun _=>rfl) (pR M c14);have c30:di l.prog w K mg base:=h31.cal X G sc_swordsbehind (fun _ _ _ _ _ _=>ar2 fun _ _=>rfl) (pS M);have c31:nZ l.prog w K mg base:=h32.cal X G rV (fun _ _ _ _ _ _=>ar2 fun _ _=>rfl) (sr M c18 c30);have c32:pC l.prog w K mg base:=h33.cal X G sc_sreadpart (fun _ _ _ _ _ _=>ar1 fun _=>rfl) (uX M c19);have c33:pD l.prog w K mg base:=h34.cal X G sc_sreadring (fun _ _ _ _ _ _=>ar1 fun _=>rfl) (uY M c29 c30);have c34:pE l.prog w K mg base:=h35.cal X G sc_sreadspan (fun _ _ _ _ _ _=>ar1 fun _=>rfl) (uZ M c29);have c35:n5 l.prog w K mg base:=h36.cal X G sc_sreadcover (fun _ _ _ _ _ _=>ar1 fun _=>rfl) (ss M c29 c30);have c36:ja l.prog w K mg base:=h37.cal X G oW (fun _ _ _ _ _ _=>ar1 fun _=>rfl) (og M c31);have c38:km l.prog w K mg base:=h38.cal X G rW (fun _ _ _ _ _ _=>ar1 fun _=>rfl) (su M c33);have c37:ii l.prog w K mg base:=h39.cal X G sc_sreadpartsturns (fun _ _ _ _ _ _=>ar1 fun _=>rfl) (lZ M c30 c34 c35 c38);have c39:n6 l.prog w K mg base:=h40.cal X G rX (fun _ _ _ _ _ _=>ar2 fun _ _=>rfl) (sv M c32 c36 c37 c38);have c40:n8 l.prog w K mg base:=h41.cal X G sc_sreadpaper (fun _ _ _ _ _ _=>ar1 fun _=>rfl) (sx M c21 c29 c39);have c41:rC l.prog w K mg base:=h42.cal X G Ch (fun _ _ _ _ _ _=>ar1 fun _=>rfl) (wt M);have c42:bT l.prog w K mg base:=h43.calI X G sc_sLpick (fun _ _ _ _ _ _=>ar2 fun _ _=>rfl) (wu M)
 have c43:iY l.prog w K mg base:=h44.calI X G uw (fun _ _ _ _ _ _=>ar2 fun _ _=>rfl) (rK M c42);have c44:rD l.prog w K mg base:=h45.calI X G sc_sLname (fun _ _ _ _ _ _=>ar2 fun _ _=>rfl) (wv M c42 c43);have c45:pF l.prog w K mg base:=h46.calI X G sc_sLnames (fun _ _ _ _ _ _=>ar2 fun _ _=>rfl) (u3 M c42 c43 c44);have c46:pG l.prog w K mg base:=h47.alike X G xq (fun _ _ _ _ _ _=>ar2 fun _ _=>rfl) 20 (fun n u h=>Cj h) (fun n gs hn=>u4 M) 9 (by decide)
 have c47:lq l.prog w K mg base:=h48.cal X G ux (fun _ _ _ _ _ _=>ar1 fun _=>rfl) (pU M);have c48:eT l.prog w K mg base:=h49.cal X G sc_sLjointstext (fun _ _ _ _ _ _=>ar1 fun _=>rfl) (m7 M c47);have c49:kx l.prog w K mg base:=h50.cal X G rY (fun _ _ _ _ _ _=>ar1 fun _=>rfl) (o9 M c48);have c50:rE l.prog w K mg base:=h51.cal X G Ci (fun _ _ _ _ _ _=>ar2 fun _ _=>rfl) (ww M);have c51:jc l.prog w K mg base:=h52.cal X G qX (fun _ _ _ _ _ _=>ar1 fun _=>rfl) (oh M);have c52:jd l.prog w K mg base:=h53.cal X G sc_sLpartlines (fun _ _ _ _ _ _=>ar2 fun _ _=>rfl) (oi M c48 c50 c51);have c53:rF l.prog w K mg base:=h54.cal X G sc_sLtext (fun _ _ _ _ _ _=>ar2 fun _ _=>rfl) (wx M c49 c52);have c54:eU l.prog w K mg base:=h55.calI X G vR (fun _ _ _ _ _ _=>ar2 fun _ _=>rfl) (sy M c42);have c55:gm l.prog w K mg base:=h56.calI X G sc_sLsomeends (fun _ _ _ _ _ _=>ar3 fun _ _ _=>rfl) (pc M c42);have c56:iL l.prog w K mg base:=h57.calI X G sc_sLsomejoints (fun _ _ _ _ _ _=>ar3 fun _ _ _=>rfl) (m8 M c42 c55);have c57:ky l.prog w K mg base:=h58.calI X G sc_sLsomedeed (fun _ _ _ _ _ _=>ar2 fun _ _=>rfl) (pe M c42 c54 c55);have c58:kn l.prog w K mg base:=h59.calI X G sc_sLmany (fun _ _ _ _ _ _=>ar1 fun _=>rfl) (wy M c42);have c59:je l.prog w K mg base:=h60.calI X G sc_sLsomerings (fun _ _ _ _ _ _=>ar1 fun _=>rfl) (ol M c42 c54 c58);have c60:jf l.prog w K mg base:=h61.calI X G sc_sLsomeparts (fun _ _ _ _ _ _=>ar3 fun _ _ _=>rfl) (om M c42 c54 c56 c58 c59);have c61:jg l.prog w K mg base:=h62.calI X G sc_sLsomepaper (fun _ _ _ _ _ _=>ar2 fun _ _=>rfl) (on M c42 c45 c54 c57 c58 c60);have c62:pH l.prog w K mg base:=h63.cal X G sc_sLholds (fun _ _ _ _ _ _=>ar2 fun _ _=>rfl) (u5 M c28 c40 c46 c53);intro _ _ _ _ _ _ _;exact Kf M c41 c42 c61 c62
end K65
open PySem PySem.W PyProof.Rows
set_option tactic.hygienic true
set_option maxRecDepth 100000 in
set_option maxHeartbeats 0 in
theorem PySem.Challenge.cw_strandwright_k65_papers_written_and_read_holds : PySem.Challenge.rw_strandwright_k65_papers_written_and_read.Holds := by
 w_on;o_law;k_head;(case hw=>w_witness2)
 k_fill
 refine VF.walkL (l:=PySem.Challenge.rw_strandwright_k65_papers_written_and_read) (k:=11) rfl rfl ⟨rfl,by decide,by decide⟩ (fun w h Y=>PySem.W.kIn_of Y) ?F
 case F =>
  intro w mg fa h KX G hmg;refine' K65.all_mk KX G hmg (VF.fh ?a1 ?l1 ?c1 ?k1) (VF.fh ?a2 ?l2 ?c2 ?k2) (VF.fh ?a3 ?l3 ?c3 ?k3) (VF.fh ?a4 ?l4 ?c4 ?k4) (VF.fh ?a5 ?l5 ?c5 ?k5) (VF.fh ?a6 ?l6 ?c6 ?k6) (VF.fh ?a7 ?l7 ?c7 ?k7) (VF.fh ?a8 ?l8 ?c8 ?k8) (VF.fh ?a9 ?l9 ?c9 ?k9) (VF.fh ?a10 ?l10 ?c10 ?k10) (VF.fh ?a11 ?l11 ?c11 ?k11) (VF.fh ?a12 ?l12 ?c12 ?k12) (VF.fh ?a13 ?l13 ?c13 ?k13) (VF.fh ?a14 ?l14 ?c14 ?k14) (VF.fh ?a15 ?l15 ?c15 ?k15) (VF.fh ?a16 ?l16 ?c16 ?k16) (VF.fh ?a17 ?l17 ?c17 ?k17) (VF.fh ?a18 ?l18 ?c18 ?k18) (VF.fh ?a19 ?l19 ?c19 ?k19) (VF.fh ?a20 ?l20 ?c20 ?k20) (VF.fh ?a21 ?l21 ?c21 ?k21) (VF.fh ?a22 ?l22 ?c22 ?k22) (VF.fh ?a23 ?l23 ?c23 ?k23) (VF.fh ?a24 ?l24 ?c24 ?k24) (VF.fh ?a25 ?l25 ?c25 ?k25) (VF.fh ?a26 ?l26 ?c26 ?k26) (VF.fh ?a27 ?l27 ?c27 ?k27) (VF.fh ?a28 ?l28 ?c28 ?k28) (VF.fh ?a29 ?l29 ?c29 ?k29) (VF.fh ?a30 ?l30 ?c30 ?k30) (VF.fh ?a31 ?l31 ?c31 ?k31) (VF.fh ?a32 ?l32 ?c32 ?k32) (VF.fh ?a33 ?l33 ?c33 ?k33) (VF.fh ?a34 ?l34 ?c34 ?k34) (VF.fh ?a35 ?l35 ?c35 ?k35) (VF.fh ?a36 ?l36 ?c36 ?k36) (VF.fh ?a37 ?l37 ?c37 ?k37) (VF.fh ?a38 ?l38 ?c38 ?k38) (VF.fh ?a39 ?l39 ?c39 ?k39) (VF.fh ?a40 ?l40 ?c40 ?k40) (VF.fh ?a41 ?l41 ?c41 ?k41) (VF.fh ?a42 ?l42 ?c42 ?k42) (VF.fh ?a43 ?l43 ?c43 ?k43) (VF.fh ?a44 ?l44 ?c44 ?k44) (VF.fh ?a45 ?l45 ?c45 ?k45) (VF.fh ?a46 ?l46 ?c46 ?k46) (VF.fh ?a47 ?l47 ?c47 ?k47) (VF.fh ?a48 ?l48 ?c48 ?k48) (VF.fh ?a49 ?l49 ?c49 ?k49) (VF.fh ?a50 ?l50 ?c50 ?k50) (VF.fh ?a51 ?l51 ?c51 ?k51) (VF.fh ?a52 ?l52 ?c52 ?k52) (VF.fh ?a53 ?l53 ?c53 ?k53) (VF.fh ?a54 ?l54 ?c54 ?k54) (VF.fh ?a55 ?l55 ?c55 ?k55) (VF.fh ?a56 ?l56 ?c56 ?k56) (VF.fh ?a57 ?l57 ?c57 ?k57) (VF.fh ?a58 ?l58 ?c58 ?k58) (VF.fh ?a59 ?l59 ?c59 ?k59) (VF.fh ?a60 ?l60 ?c60 ?k60) (VF.fh ?a61 ?l61 ?c61 ?k61) (VF.fh ?a62 ?l62 ?c62 ?k62) (VF.fh ?a63 ?l63 ?c63 ?k63) (VF.fh ?a64 ?l64 ?c64 ?k64) ?cv_LETTERS ?cv_LONGEST_NAME ?cv_FIGURES ?cv_DEED_FIGURES ?cv_PAPER_FIGURES ?ca_FORMS (VF22.gv_tup ?cqf (.cons (VF22.gv_tup ?cqf0 (.cons (VF22.gv_tup ?cqf00 (.cons VF22.gv_int .nil)) (.cons (VF22.gv_tup ?cqf01 (.cons VF22.gv_int (.cons VF22.gv_int .nil))) .nil))) (.cons (VF22.gv_tup ?cqf1 (.cons (VF22.gv_tup ?cqf10 (.cons VF22.gv_int (.cons VF22.gv_int .nil))) (.cons (VF22.gv_tup ?cqf11 (.cons VF22.gv_int .nil)) .nil))) (.cons (VF22.gv_tup ?cqf2 (.cons (VF22.gv_tup ?cqf20 (.cons VF22.gv_int (.cons VF22.gv_int .nil))) (.cons (VF22.gv_tup ?cqf21 (.cons VF22.gv_int (.cons VF22.gv_int .nil))) .nil))) (.cons (VF22.gv_tup ?cqf3 (.cons (VF22.gv_tup ?cqf30 (.cons VF22.gv_int (.cons VF22.gv_int .nil))) (.cons (VF22.gv_tup ?cqf31 (.cons VF22.gv_int (.cons VF22.gv_int .nil))) .nil))) .nil))))) ?ca_BOOKS (VF22.gv_tup ?cqb (.cons VF22.gv_str (.cons VF22.gv_str (.cons VF22.gv_str (.cons VF22.gv_str (.cons VF22.gv_str .nil)))))) ?ca_PART_KINDS (VF22.gv_tup ?cqp (.cons VF22.gv_str (.cons VF22.gv_str (.cons VF22.gv_str (.cons VF22.gv_str .nil))))) ?ca_NUMBERS_BEHIND (VF22.gdi_mk2 ?cb_NUMBERS_BEHIND ?cc_NUMBERS_BEHIND ?cd_NUMBERS_BEHIND) ?z_all ?z_bool ?z_int ?z_isinstance ?z_len ?z_list ?z_range ?z_sorted ?z_str ?z_tuple ?z_zip
  all_goals try k_is
  (case cc_NUMBERS_BEHIND=>decide)
  (case cd_NUMBERS_BEHIND=>decide)

import PyProof.Rows.All
import Wide.All
import OpenK.AllK
import Wide.FinOn
import Lean
import PyProof.EqAt
import PyProof.EqKinds
import PyProof.TupleCall
import KE.KRevIter
import KE.KUnpack
import KE.KIntText
import PyProof.ExcInit
import PyProof.ExcClass2
import PyProof.ExcBaseAll.ValueError
import PyProof.InstStore
import PyProof.NsDelKeeps
import PyProof.ExcAttrAll.ValueError
import PyProof.InstStoreFacts
import KE.KTryMore
import PyProof.StrLawsReplace
import PySem.Challenge.RW_strandwright_k06_a_name_twice
set_option maxHeartbeats 2000000
set_option Elab.async false
set_option linter.all false
set_option maxRecDepth 100000
set_option genSizeOfSpec false
namespace PySem.W.Fast
def tw931063488827680941:=0
def tw9238001267663232177:=0
def tw11785021651542294053:=0
def tw10681871431756574378:=0
def tw8337224234166028735:=0
def tw12618548752386837830:=0
def tw9169580299684965700:=0
def tw16442473845030270637:=0
def tw1904654258991246195:=0
def tw3931199187574904509:=0
def tw5706393062367483611:=0
def tw17990557586694466081:=0
def tw8906307655664919830:=0
def tw5005478511392970875:=0
def tw359677612350907403:=0
def tw10259193553296532269:=0
def tw13850223869630453767:=0
def tw7367529570766805378:=0
def tw2741573677480574878:=0
def tw17519609812885657531:=0
def tw17044193190139003866:=0
def tw17643819013159661431:=0
def tw58556471246539523:=0
def tw5325805046792065427:=0
def tw1025143705080350433:=0
def tw4588162057453170965:=0
def tw5999944574450727269:=0
def tw10886302062860306291:=0
def tw2994479440110111521:=0
def tw12934156497562899784:=0
end PySem.W.Fast
abbrev Aa:=@PySem.wpAny_bind
abbrev Ab:=@PySem.Heap.get?_push_of_some
abbrev Ac:=@PySem.Heap.lt_size
abbrev Ad:=@if_pos
abbrev Ae:=@decide_eq_false
abbrev Af:=@decide_eq_true
abbrev Ag:=@if_neg
abbrev Ah:=@PySem.wpAny_pure
abbrev Ai:=@PySem.Heap.get?_update_other
abbrev Aj:=@PySem.Heap.get?_push_size
abbrev Ak:=@PySem.wpAny_mono
abbrev Al:=@Ne.symm
abbrev Am:=@PySem.wpAny_loadPart_at
abbrev An:=@PySem.Str.length_append
abbrev Ao:=@PySem.wpAny_passesOwn
abbrev Ap:=@of_decide_eq_true
abbrev Aq:=@PySem.Heap.get?_update_self
abbrev Ar:=@PySem.PassesOwn.never
abbrev As:=@PySem.wpAny_Call_Name_kw
abbrev At:=@PySem.wpAny_field
abbrev Au:=@PySem.Str.cps_append
abbrev Av:=@PySem.wpAny_execs_nil
abbrev Aw:=@PySem.wpAny_newObj_type
abbrev Ax:=@PyProof.Rows.slot_tuple_getitem
abbrev Ay:=@PySem.wpAny_isSubtype_exc
abbrev Az:=@PySem.wpAny_truthy_bool
abbrev AA:=@PySem.call_meets
abbrev AB:=@PySem.wpAny_standAt
abbrev AC:=@PySem.Calls.spliced_cons
abbrev AD:=@PySem.Calls.Constant_str
abbrev AE:=@PySem.wpAny_getItem_str_slice
abbrev AF:=@PySem.sizeLine_eq
abbrev AG:=@PySem.codeAny_mono
abbrev AH:=@PySem.Calls.callWith_builtin
abbrev AI:=@PySem.Obj.isFreed_of_fields
abbrev AJ:=@PySem.typeIs_str
abbrev AK:=@PySem.Heap.size_update
abbrev AL:=@PySem.codeAny_call_builtin
abbrev AM:=@List.getElem?_set_ne
abbrev AN:=@PySem.Heap.get?_none_of_le
abbrev AO:=@PySem.Calls.evalArgs_plain
abbrev AQ:=@Int.emod_nonneg
abbrev AR:=@PySem.wpAny_setField
abbrev AT:=@or_false
abbrev AU:=@PySem.Obj.data_mapFields
abbrev AV:=@List.getElem?_append_left
abbrev AW:=@PySem.wpAny_holding
abbrev AX:=@PySem.wpAny_execs_cons
abbrev AY:=@decide_eq_decide
abbrev AZ:=@Nat.lt_succ_self
abbrev A0:=@PySem.wpAny_Name
abbrev A1:=@PySem.wpAny_Call_method_late
abbrev A2:=@PySem.post_val_or_str
abbrev A3:=@Nat.le_of_ble_eq_true
abbrev A4:=@List.mem_append_right
abbrev A5:=@Nat.le_succ
abbrev A6:=@List.length_dropLast
abbrev A7:=@List.getLastD_concat
abbrev A8:=@PySem.Heap.size_push
abbrev A9:=@ne_true_of_eq_false
abbrev Ba:=@List.filterMap_cons
abbrev Bb:=@PySem.tupleKind_room_in1
abbrev Bc:=@PySem.SeqAt.EqAt.str_int
abbrev Bd:=@PySem.SeqAt.EqAt.int_str
abbrev Be:=@Nat.lt_of_lt_of_le
abbrev Bf:=@Int.natCast_nonneg
abbrev Bg:=@Int.emod_lt_of_pos
abbrev Bh:=@PySem.arm_evalEach_cons
abbrev Bi:=@PySem.Txt.slice_le
abbrev Bj:=@List.map_nil
abbrev Bk:=@List.map_id'
abbrev Bl:=@List.length_range
abbrev Bm:=@List.getElem?_map
abbrev Bo:=@List.ext_getElem?
abbrev Bp:=@PySem.Calls.spliced_nil
abbrev Bq:=@PySem.noFill_tuple_add
abbrev Br:=@List.length_tail
abbrev Bt:=@List.filter_cons
abbrev Bu:=@List.getLast?_eq_some_getLast
abbrev Bv:=@List.of_mem_zip
abbrev Bw:=@List.dropLast_concat_getLast
abbrev Bx:=@PyProof.Rows.callWith_type1
abbrev By:=@PySem.wpAny_Expr_any
abbrev Bz:=@PySem.SeqAt.RcNeAt.lists_lengths
abbrev BB:=@List.getElem?_append_right
abbrev BC:=@List.drop_zero
abbrev BD:=@PySem.Calls.Name_function_global
abbrev BE:=@Classical.byContradiction
abbrev BF:=@List.map_take
abbrev BG:=@List.map_drop
abbrev BH:=@List.length_erase_of_mem
abbrev BI:=@List.eq_of_mem_replicate
abbrev BJ:=@List.getElem?_replicate
abbrev BK:=@Nat.sub_self
abbrev BL:=@Nat.lt_of_succ_lt_succ
abbrev BM:=@Nat.le_of_lt
abbrev BN:=@List.length_pos_of_mem
abbrev BO:=@List.getElem?_set_self
abbrev BP:=@List.any_map
abbrev BQ:=@List.getElem?_eq_none
abbrev BR:=@List.dropLast_eq_take
abbrev Za:=@Option.bind_some
abbrev Ya:=@List.length_map
abbrev Xa:=@List.length_append
abbrev Wa:=@Nat.le_refl
abbrev Va:=@Be
abbrev Qa:=@List.mem_cons_self
abbrev Yb:=@List.mem_cons_of_mem
abbrev Wb:=@List.mem_singleton
abbrev Vb:=@List.size_toArray
abbrev Qb:=@Nat.le_trans
abbrev Zc:=@List.getElem?_eq_getElem
abbrev Yc:=@List.length_cons
abbrev Xc:=@List.append_nil
abbrev Wc:=@List.mem_map
abbrev Vc:=@List.mem_cons
abbrev Qc:=@List.map_cons
abbrev Zd:=@Bool.false_ne_true
abbrev Yd:=@List.getElem?_eq_some_iff
abbrev Xd:=@A4
abbrev Wd:=@List.append_assoc
abbrev Vd:=@List.mem_append
abbrev Qd:=@List.flatMap_cons
abbrev Ze:=@List.map_append
abbrev Ye:=@Nat.lt_irrefl
abbrev Xe:=@Array.getElem?_eq_some_iff
abbrev We:=@Bool.and_eq_true
abbrev Ve:=@Bool.false_eq_true
abbrev Qe:=@List.getElem?_drop
abbrev Zf:=@Nat.ne_of_lt
abbrev Yf:=@BB
abbrev Xf:=@List.mem_of_getElem?
abbrev Wf:=@List.contains_cons
abbrev Vf:=@Bool.eq_iff_iff
abbrev Qf:=@Array.length_toList
abbrev Zg:=@Array.toList_append
abbrev Yg:=@Option.map_eq_some_iff
abbrev Xg:=@List.all_eq_true
abbrev Wg:=@Bm
abbrev Vg:=@Nat.succ_pos
abbrev Qg:=@List.length_singleton
abbrev Zh:=@List.nodup_cons
abbrev Yh:=@List.find?_cons
abbrev Xh:=@List.length_replicate
abbrev Wh:=@List.not_mem_nil
abbrev Vh:=@List.dropLast_concat
abbrev Qh:=@List.flatMap_append
abbrev Zi:=@Bool.or_true
abbrev Yi:=@List.lookup_cons_self
abbrev Xi:=@AV
abbrev Wi:=@List.mem_append_left
abbrev Vi:=@List.map_map
abbrev Qi:=@List.nil_append
abbrev Zj:=@BJ
abbrev Yj:=@List.length_pos_iff
abbrev Xj:=@List.length_drop
abbrev Wj:=@List.cons_append
abbrev Vj:=@Nat.zero_le
abbrev Qj:=@Nat.ne_of_gt
abbrev Zk:=@AM
abbrev Yk:=@List.drop_eq_getElem_cons
abbrev Wk:=@List.getElem?_of_mem
abbrev Vk:=@List.lookup_cons
abbrev Qk:=@Nat.not_lt_of_le
abbrev Zl:=@List.map_congr_left
abbrev Yl:=@Option.bind_eq_some_iff
abbrev Xl:=@List.length_nil
abbrev Wl:=@BO
abbrev Vl:=@List.drop_eq_nil_of_le
abbrev Ql:=@List.take_of_length_le
abbrev Zm:=@List.eq_nil_of_length_eq_zero
abbrev Ym:=@Nat.le_succ_of_le
abbrev Xm:=@Option.isSome_map
abbrev Wm:=@List.getElem?_set
abbrev Vm:=@List.length_take
abbrev Qm:=@Nat.le_add_right
abbrev Zn:=@List.any_cons
abbrev Yn:=@List.exists_cons_of_ne_nil
abbrev Xn:=@Nat.lt_of_le_of_lt
abbrev Wn:=@List.tail_cons
abbrev Vn:=@List.all_cons
namespace PySem
theorem Runs.toks {M:Model} {Γ:Ctx} {p:Pos} {t:Sem Fin} {fs:List Frame} {s s':Shared} {e:End} (h:Runs M Γ p t fs s e s'):s.toks<=s'.toks:=by
 induction h with
 | done=>exact Wa _
 | raise=>exact Wa _
 | yield=>exact Wa _
 | fresh _ ih=>exact Nat.le_of_succ_le ih
 | call _ _ ih1 ih2=>exact Qb ih1 ih2
 | resumeFresh _ _ _ _ ih1 ih2=>exact Qb ih1 ih2
 | resumeSuspended _ _ _ _ ih1 ih2=>exact Qb ih1 ih2
 | segRet _ _ ih1 ih2=>exact Qb ih1 ih2
 | segGen _ _ ih1 ih2=>exact Qb ih1 ih2
 | segSuspGen _ _ _ _ ih1 ih2=>exact Qb ih1 ih2
 | _=>assumption
theorem Wakes.toks {M:Model} {Γ:Ctx} {p:Pos} {g:Nat} {r:Resume} {s s':Shared} {res:GenResult} (h:Wakes M Γ p g r s res s'):s.toks<=s'.toks:=by
 unfold Wakes at h;split at h
 ·exact h.elim
 ·split at h
  ·obtain⟨e,s1,h1,_,_,rfl⟩:=h;exact h1.toks
  ·rw[h.2];exact Wa _
  ·rw[h.2];exact Wa _
 ·obtain⟨e,s1,h1,_,_,rfl⟩:=h;exact h1.toks
 ·rw[h.2];exact Wa _
 ·rw[h.2];exact Wa _
open Sem in
theorem Hb {α:Type} {M:Model} {Γ:Ctx} {Q:α->Pos->Shared->Prop} {E:Value->Pos->Shared->Prop} {n:Nat} (t:Sem α):∀{p:Pos} {s:Shared},n<=s.toks->wp M Γ t (fun a p' s'=>n<=s'.toks->Q a p' s') (fun e p' s'=>n<=s'.toks->E e p' s') p s->wp M Γ t Q E p s:=by
 induction t with
 | pure a=>intro p s hs h;rw[wp]at h ⊢;exact h hs
 | raise e=>intro p s hs h;rw[wp]at h ⊢;exact h hs
 | unsupported w=>intro p s hs h;rw[wp]at h;exact h.elim
 | finish e=>intro p s hs h;rw[wp]at h;exact h.elim
 | rule tag k ih=>intro p s hs h;rw[wp]at h ⊢;exact ih _ hs h
 | «at» pos k ih=>intro p s hs h;rw[wp]at h ⊢;exact ih _ hs h
 | load a part k ih=>intro p s hs h;rw[wp]at h ⊢;obtain⟨o,e,h⟩:=h;exact⟨o,e,ih _ hs h⟩
 | update a part f k ih=>intro p s hs h;rw[wp]at h ⊢;exact⟨h.1,ih _ hs h.2⟩
 | alloc o k ih=>intro p s hs h;rw[wp]at h ⊢;exact ih _ hs h
 | loadIfAlive a k ih=>intro p s hs h;rw[wp]at h ⊢;exact ih _ hs h
 | point l k ih=>intro p s hs h;rw[wp]at h ⊢;exact ih _ hs h
 | register a k ih=>intro p s hs h;rw[wp]at h;exact h.elim
 | fresh k ih=>intro p s hs h;rw[wp]at h ⊢;exact ih _ (Ym hs) h
 | ask k ih=>intro p s hs h;rw[wp]at h ⊢;exact ih _ hs h
 | choose src n k ih=>intro p s hs h;rw[wp]at h ⊢;exact⟨h.1,ih _ hs h.2⟩
 | os q l k ih=>intro p s hs h;rw[wp]at h ⊢;exact ih _ hs h
 | call c hd g l k ih=>intro p s hs h;rw[wp]at h ⊢;obtain⟨r,s',h1,h2⟩:=h;exact⟨r,s',h1,ih _ (Qb hs h1.toks) h2⟩
 | handled own k ih=>intro p s hs h;rw[wp]at h ⊢;exact ih _ hs h
 | newGen c k ih=>intro p s hs h;rw[wp]at h ⊢;exact ih _ hs h
 | genState g k ih=>intro p s hs h;rw[wp]at h ⊢;obtain⟨st,e,h⟩:=h;exact⟨st,e,ih _ hs h⟩
 | resume g r l k ih=>intro p s hs h;rw[wp]at h ⊢;obtain⟨res,s',h1,h2⟩:=h;exact⟨res,s',h1,ih _ (Qb hs h1.toks) h2⟩
 | yield v g l k ih=>intro p s hs h;rw[wp]at h;exact h.elim
 | stack k ih=>intro p s hs h;rw[wp]at h ⊢;exact ih _ hs h
 | fork c k ih=>intro p s hs h;rw[wp]at h;exact h.elim
 | thread k ih=>intro p s hs h;rw[wp]at h ⊢;exact ih _ hs h
 | await a t b l k ih=>intro p s hs h;rw[wp]at h;exact h.elim
theorem bu {α:Type} {M:Model} {A:Around} {t:Sem α} {Q:α->Shared->Prop} {E:Value->Shared->Prop} {s:Shared} (h:wpAny M A t (fun a s'=>s.toks<=s'.toks->Q a s') (fun e s'=>s.toks<=s'.toks->E e s') s):wpAny M A t Q E s :=
 fun Γ p hi=>Hb t (Wa _) (h Γ p hi)
theorem jm {M:Model} {A:Around} {c:Code} {R:Result->Shared->Prop} {s:Shared} (h:codeAny M A c (fun r s'=>s.toks<=s'.toks->R r s') s):codeAny M A c R s:=fun Γ p hc hb=>by
 obtain⟨r,s',h1,h2⟩:=h Γ p hc hb;exact⟨r,s',h1,h2 h1.toks⟩
end PySem
namespace L2
open PySem PySem.Spec PyProof.Rows
abbrev Key:=Sum Int Str
def oE:Key->Value->Bool
 | .inl k,v=>Value.isInt k v
 | .inr x,v=>Value.isStrOf x v
def Je (w:World):Key->Int
 | .inl k=>hashInt k
 | .inr x=>hashStr w x
theorem b6:∀{k:Key} {v:Value},oE k v=true->(∃i t,k=Sum.inl i/\v=Value.int i t)∨(∃x t,k=Sum.inr x/\v=Value.str x t)
 | .inl i,v,h=>by
  obtain⟨t,e⟩:=Value.isInt_shape (k:=i) (v:=v) h;exact .inl ⟨i,t,rfl,e⟩
 | .inr x,v,h=>by
  obtain⟨t,e⟩:=Value.isStrOf_shape (x:=x) (v:=v) h;exact .inr ⟨x,t,rfl,e⟩
theorem vY (i:Int) (t:Tok):oE (.inl i) (.int i t)=true:=by simp[oE,Value.isInt]
theorem vZ (x:Str) (t:Tok):oE (.inr x) (.str x t)=true:=by simp[oE,Value.isStrOf]
theorem Ej (a b:Int):decide ((Sum.inl a:Key)=Sum.inl b)=(a == b):=by
 by_cases e:a=b
 ·subst e;simp
 ·have h:¬ (Sum.inl a:Key)=Sum.inl b:=fun q=>e (Sum.inl.inj q);rw[Ae h];exact(beq_eq_false_iff_ne.mpr e).symm
theorem Ek (a b:Str):decide ((Sum.inr a:Key)=Sum.inr b)=decide (a=b):=by
 by_cases e:a=b
 ·subst e;simp
 ·have h:¬ (Sum.inr a:Key)=Sum.inr b:=fun q=>e (Sum.inr.inj q);rw[Ae h,Ae e]
theorem Em (a:Int) (b:Str):decide ((Sum.inl a:Key)=Sum.inr b)=false:=Ae (fun q=>nomatch q)
theorem Ep (a:Str) (b:Int):decide ((Sum.inr a:Key)=Sum.inl b)=false:=Ae (fun q=>nomatch q)
def bO (prog:Program) (w:World):PySem.KeyKind prog w Key where
 is:=oE
 hash:=Je w
 inj:=fun v a b ha hb=>by
  rcases b6 ha with⟨i,t,rfl,rfl⟩|⟨x,t,rfl,rfl⟩
  ·rcases b6 hb with⟨j,u,rfl,e⟩|⟨y,u,rfl,e⟩
   ·injection e with e1 _;rw[e1]
   ·exact nomatch e
  ·rcases b6 hb with⟨j,u,rfl,e⟩|⟨y,u,rfl,e⟩
   ·exact nomatch e
   ·injection e with e1 _;rw[e1]
 byValue:=fun k v h=>by
  rcases b6 h with⟨i,t,rfl,rfl⟩|⟨x,t,rfl,rfl⟩<;>rfl
 pyHash:=fun hv h=>by
  rcases b6 hv with⟨i,t,rfl,rfl⟩|⟨x,t,rfl,rfl⟩
  ·exact wpAny_pyHash_int h
  ·exact wpAny_pyHash_str h
 eqBool:=fun hu hv h=>by
  rcases b6 hu with⟨i,t,rfl,rfl⟩|⟨x,t,rfl,rfl⟩
  ·rcases b6 hv with⟨j,u,rfl,rfl⟩|⟨y,u,rfl,rfl⟩
   ·rw[Ej]at h;exact wpAny_eqBool_int h
   ·rw[Em]at h;exact Bd i t y u _ _ _ _ h
  ·rcases b6 hv with⟨j,u,rfl,rfl⟩|⟨y,u,rfl,rfl⟩
   ·rw[Ep]at h;exact Bc x t j u _ _ _ _ h
   ·rw[Ek]at h;exact wpAny_eqBool_str h
 «strs»:=fun k x t v h=>by
  rcases b6 h with⟨i,u,rfl,e⟩|⟨y,u,rfl,e⟩
  ·exact nomatch e
  ·injection e with e1 _
   subst e1;cases v<;>rfl
theorem rz (prog:Program) (w:World) (i:Int) (t:Tok):(bO prog w).is (.inl i) (.int i t)=true:=vY i t
theorem d5 (prog:Program) (w:World) (x:Str) (t:Tok):(bO prog w).is (.inr x) (.str x t)=true:=vZ x t
end L2
namespace L2
open PySem PySem.Spec PyProof.Rows
inductive V where
 | non|bl (b:Bool)|int (i:Int)|str (x:Str)|byt (b:Array UInt8)|flt (b:UInt64)|ref (a:Addr)|ty (n:String)
 deriving DecidableEq
def RelV:V->Value->Prop
 | .non,u=>u=Value.none
 | .bl b,u=>u=Value.bool b
 | .int i,u=>∃t,u=Value.int i t
 | .str x,u=>∃t,u=Value.str x t
 | .byt b,u=>∃t,u=Value.bytes b t
 | .flt b,u=>∃t,u=Value.float b t
 | .ref a,u=>u=Value.ref a
 | .ty n,u=>u=Value.type n
abbrev Vals:List V->List Value->Prop:=Paired RelV
theorem Vals.length {xs:List V} {us:List Value} (r:Vals xs us):xs.length=us.length:=Paired.length r
theorem Vals.get:∀{xs:List V} {us:List Value} {i:Nat} {x:V},Vals xs us->xs[i]?=some x->∃u,us[i]?=some u/\RelV x u
 | _,_,_,_,.nil,e=>by simp at e
 | _,_,0,_,.cons r _,e=>by simp at e;subst e;exact⟨_,rfl,r⟩
 | _,_,i+1,x,.cons _ t,e=>by
  obtain⟨u,h1,h2⟩:=Vals.get (i:=i) (x:=x) t (by simpa using e)
  exact⟨u,by simpa using h1,h2⟩
theorem Vals.set {x:V} {u:Value} (r:RelV x u):∀{xs:List V} {us:List Value} (i:Nat),Vals xs us->Vals (xs.set i x) (us.set i u)
 | _,_,_,.nil=>.nil
 | _,_,0,.cons _ t=>.cons r t
 | _,_,i+1,.cons q t=>.cons q (Vals.set r i t)
theorem Vals.append:∀{xs ys:List V} {us ws:List Value},Vals xs us->Vals ys ws->Vals (xs++ys) (us++ws)
 | _,_,_,_,.nil,s=>s
 | _,_,_,_,.cons r t,s=>.cons r (Vals.append t s)
theorem Vals.take:∀{xs:List V} {us:List Value} (n:Nat),Vals xs us->Vals (xs.take n) (us.take n)
 | _,_,0,_=>.nil
 | _,_,_+1,.nil=>.nil
 | _,_,n+1,.cons r t=>.cons r (Vals.take n t)
theorem Vals.drop:∀{xs:List V} {us:List Value} (n:Nat),Vals xs us->Vals (xs.drop n) (us.drop n)
 | _,_,0,r=>r
 | _,_,_+1,.nil=>.nil
 | _,_,n+1,.cons _ t=>Vals.drop n t
def RelO:Option V->Option Value->Prop
 | some v,some u=>RelV v u
 | none,none=>True
 | _,_=>False
def KV {κ:Type}:List (κ×V)->List (κ×Value)->Prop:=Paired fun(p:κ×V) (q:κ×Value)=>p.1=q.1/\RelV p.2 q.2
def kV:Key->V
 | .inl i=>.int i
 | .inr x=>.str x
inductive HO where
  | lst (xs:List V)
  | tup (xs:List V)
  | dK (kvs:List (Key×V))|dT (ep:Nat×List Addr) (kvs:List (List Key×V))
  | set (S:Int->Bool) (n:Nat)
  | ins (C dx:Addr) (fs:List (Str×V))
  | own (x:Addr)
  | xd (fs:List (Str×V))
  | met (f x:Addr)
  | rng (lo hi:Int)
  | frz (o:Obj) (u:HO)
  | tbl (ps:Array Value)
  | ext (φ:Heap->Prop)
abbrev Hp:=Addr->Option HO
def upd (H:Hp) (a:Addr) (o:HO):Hp:=fun b=>if b=a then some o else H b
theorem aq {H:Hp} {a:Addr} {o:HO}:upd H a o a=some o:=by unfold upd;rw[Ad rfl]
theorem ag {H:Hp} {a b:Addr} {o:HO} (h:b≠a):upd H a o b=H b:=by unfold upd;rw[Ag h]
theorem zX {H:Hp} {a:Addr} {o u:HO}:upd (upd H a o) a u=upd H a u:=by
 funext b;unfold upd;split<;>rfl
theorem Hc {H:Hp} {a b:Addr} {o u:HO} (h:H a=some o) (h':H b=some u) (d:o≠u):a≠b:=by
 intro e;subst e;rw[h]at h';exact d (Option.some.inj h')
theorem aN {H:Hp} {a b:Addr} {o:HO} (h:H a=some o) (h':H b=none):a≠b:=by
 intro e;subst e;rw[h]at h';cases h'
section
variable (P:Program) (w:World)
def ObjOk (H:Hp) (h:Heap) (a:Addr):HO->Prop
 | .lst xs=>xs.length<=sizeLine/\∃(its:List Value) (n:Nat),Vals xs its/\h.get? a=some { cls:=.type "list",data:=.seq its.toArray n }
 | .tup xs=>xs.length<=sizeLine/\∃its:List Value,Vals xs its/\IsTup h a its.toArray
 | .dK kvs=>kvs.length<=sizeLine/\(a == sysModules)=false/\∃vs,KV kvs vs/\h.DictOf (bO P w) a vs
 | .dT ep kvs=>kvs.length<=sizeLine/\(a == sysModules)=false/\∃xs:List (List Key×Addr×Value),
   Paired (fun(p:List Key×V) (q:List Key×Addr×Value)=>p.1=q.1/\H q.2.1=some (.tup (p.1.map kV))/\RelV p.2 q.2.2) kvs xs /\
   xs.map (·.2.1)=ep.2/\∃o es,h.get? a=some o/\o.ExactDict/\o.data=.dict es ep.1/\es.toList=xs.map (entryOfKey (tupleKind (bO P w)))/\(xs.map (·.1)).Nodup
 | .set S n=>h.SetOf (intKind P w) a S n
 | .ins C dx fs=>H dx=some (.own a)/\fs.length<=1000/\dx≠a/\h.get? a=some (PySem.W.instObj C dx) /\
   ∃mA,h.Ns1 dx mA/\(∀f,RelO (fs.lookup f) (mA f))/\PySem.Within mA (fs.map (·.1))
 | .own _=>∃o,h.get? a=some o
 | .xd fs=>∃mA,h.Ns1 a mA/\∀f,RelO (fs.lookup f) (mA f)
 | .rng lo hi=>∃t u v,h.get? a=some { cls:=.type "range",data:=.fields #[.int lo t,.int hi u,.int 1 v] }
 | .frz o u=>h.get? a=some o/\ObjOk H h a u
 | .tbl ps=>h.get? a=some { cls:=.none,data:=.fields ps }
 | .met f x=>h.get? a=some (PySem.W.methodObj (.ref f) (.ref x))
 | .ext φ=>φ h/\(∃o,h.get? a=some o)/\∀h1 h2:Heap,φ h1->(∀o,h1.get? a=some o->h2.get? a=some o)->φ h2
def HOk (H:Hp) (h:Heap):Prop:=∀a o,H a=some o->ObjOk P w H h a o
end
section
variable {P:Program} {w:World} {H H':Hp} {h h':Heap} {a:Addr} {o:HO}
theorem ObjOk.lt (x:ObjOk P w H h a o):a<h.objs.size:=by
 cases o with
 | lst xs=>obtain⟨_,_,_,_,e⟩:=x;exact Ac e
 | tup xs=>obtain⟨_,_,_,p⟩:=x;exact p.lt
 | dK kvs=>obtain⟨_,_,_,_,o,_,_,e,_⟩:=x;exact Ac e
 | dT ep kvs=>obtain⟨_,_,_,_,_,o,_,e,_⟩:=x;exact Ac e
 | set S n=>obtain⟨o,_,_,_,e,_⟩:=x;exact Ac e
 | ins C dx fs=>obtain⟨_,_,_,e,_⟩:=x;exact Ac e
 | own y=>obtain⟨_,e⟩:=x;exact Ac e
 | xd fs=>obtain⟨_,⟨_,_,_,e,_⟩,_⟩:=x;exact Ac e
 | rng lo hi=>obtain⟨_,_,_,e⟩:=x;exact Ac e
 | frz ob u=>obtain⟨e,_⟩:=x;exact Ac e
 | tbl ps=>exact Ac (show h.get? a=some _ from x)
 | met f y=>exact Ac (show h.get? a=some _ from x)
 | ext φ=>obtain⟨_,⟨_,e⟩,_⟩:=x;exact Ac e
theorem Paired.mapP {α β:Type} {F G:α->β->Prop}:∀{l₁:List α} {l₂:List β},Paired F l₁ l₂->(∀a b,F a b->G a b)->Paired G l₁ l₂
 | _,_,.nil,_=>.nil
 | _,_,.cons r t,f=>.cons (f _ _ r) (Paired.mapP t f)
theorem ObjOk.stay (x:ObjOk P w H h a o) (k:∀b u,(b=a∨H b=some (.own a))->h.get? b=some u->h'.get? b=some u)
  (ho:∀b,H b=some (.own a)->H' b=some (.own a)) (ht:∀b xs,H b=some (.tup xs)->H' b=some (.tup xs)):ObjOk P w H' h' a o:=by
 induction o with
 | lst xs=>obtain⟨z,its,n,r,e⟩:=x;exact⟨z,its,n,r,k _ _ (.inl rfl) e⟩
 | tup xs=>obtain⟨z,its,r,ob,e,c⟩:=x;exact⟨z,its,r,ob,k _ _ (.inl rfl) e,c⟩
 | dK kvs=>obtain⟨z,y,vs,r,ob,es,ep,e,c⟩:=x;exact⟨z,y,vs,r,ob,es,ep,k _ _ (.inl rfl) e,c⟩
 | dT ep kvs =>
  obtain⟨z,y,xs,r,ra,ob,es,e,c⟩:=x;exact⟨z,y,xs,Paired.mapP r fun p q z=>⟨z.1,ht _ _ z.2.1,z.2.2⟩,ra,ob,es,k _ _ (.inl rfl) e,c⟩
 | set S n=>obtain⟨ob,es,ep,t,e,c⟩:=x;exact⟨ob,es,ep,t,k _ _ (.inl rfl) e,c⟩
 | ins C dx fs =>
  obtain⟨d,z,ne,e,mA,⟨od,es,ep,e2,c⟩,r⟩:=x;exact⟨ho _ d,z,ne,k _ _ (.inl rfl) e,mA,⟨od,es,ep,k _ _ (.inr d) e2,c⟩,r⟩
 | own y=>obtain⟨ob,e⟩:=x;exact⟨ob,k _ _ (.inl rfl) e⟩
 | xd fs=>obtain⟨mA,⟨od,es,ep,e,c⟩,r⟩:=x;exact⟨mA,⟨od,es,ep,k _ _ (.inl rfl) e,c⟩,r⟩
 | rng lo hi=>obtain⟨t,u,v,e⟩:=x;exact⟨t,u,v,k _ _ (.inl rfl) e⟩
 | frz ob u ih=>obtain⟨e,q⟩:=x;exact⟨k _ _ (.inl rfl) e,ih q⟩
 | tbl ps =>
  have e:h.get? a=some { cls:=.none,data:=.fields ps }:=x;show h'.get? a=some { cls:=.none,data:=.fields ps };exact k a _ (.inl rfl) e
 | met f y =>
  have e:h.get? a=some (PySem.W.methodObj (.ref f) (.ref y)):=x;show h'.get? a=some (PySem.W.methodObj (.ref f) (.ref y));exact k a _ (.inl rfl) e
 | ext φ=>obtain⟨p,⟨o,e⟩,st⟩:=x;exact⟨st _ _ p fun o q=>k _ _ (.inl rfl) q,⟨o,k _ _ (.inl rfl) e⟩,st⟩
theorem HOk.lt (x:HOk P w H h) (e:H a=some o):a<h.objs.size:=(x a o e).lt
theorem HOk.fresh (x:HOk P w H h) (e:h.objs.size<=a):H a=none:=by
 cases q:H a with
 | none=>rfl
 | some u=>exact absurd (Va (x.lt q) e) (Ye _)
theorem HOk.kept (x:HOk P w H h) (k:∀b u,h.get? b=some u->h'.get? b=some u):HOk P w H h':=fun a o e =>
 (x a o e).stay (fun b u _ q=>k b u q) (fun _ q=>q) fun _ _ q=>q
theorem HOk.laid (x:HOk P w H h) (k:∀b u,h.get? b=some u->h'.get? b=some u) (hp:h.objs.size<=a) (new:ObjOk P w (upd H a o) h' a o):HOk P w (upd H a o) h':=fun b u e=>by
 have hn:=x.fresh hp;by_cases hb:b=a
 ·subst hb;rw[aq]at e;cases e;exact new
 ·rw[ag hb]at e;exact(x b u e).stay (fun c v _ q=>k c v q) (fun c q=>by rw[ag (aN q hn)];exact q) fun c xs q=>by rw[ag (aN q hn)];exact q
end
def Rd (H:Hp) (a:Addr) (u:HO):Prop:=H a=some u∨∃o,H a=some (.frz o u)
theorem Rd.ok {P:Program} {w:World} {H:Hp} {h:Heap} {a:Addr} {u:HO} (r:Rd H a u) (x:HOk P w H h):ObjOk P w H h a u:=by
 rcases r with r|⟨o,r⟩
 ·exact x a u r
 ·obtain⟨_,q⟩:=x a _ r;exact q
def Hd:Option HO->Prop
 | some (.lst _)=>True
 | some (.dK _)=>True
 | some (.dT _ _)=>True
 | some (.set _ _)=>True
 | some (.ins _ _ _)=>True
 | some (.ext _)=>True
 | _=>False
section
variable {P:Program} {w:World} {H:Hp} {h h':Heap} {x e:Addr} {o':HO}
theorem HOk.write (ok:HOk P w H h) (mu:Hd (H x)) (he:e=x∨H e=some (.own x)) (k:∀b u,b≠e->h.get? b=some u->h'.get? b=some u) (heo:∃u,h'.get? e=some u)
  (new:ObjOk P w (upd H x o') h' x o'):HOk P w (upd H x o') h':=fun b u q=>by
 have nown:∀c y,H c=some (.own y)->c≠x:=fun c y r z=>by subst z;rw[r]at mu;exact mu
 have ntup:∀c xs,H c=some (.tup xs)->c≠x:=fun c xs r z=>by subst z;rw[r]at mu;exact mu
 by_cases hb:b=x
 ·subst hb;rw[aq]at q;cases q;exact new
 ·rw[ag hb]at q;by_cases hbe:b=e
  ·have q':H b=some (.own x):=by
    rcases he with z|z
    ·exact absurd (hbe.trans z) hb
    ·rw[hbe];exact z
   rw[q]at q';cases q';obtain⟨v,hv⟩:=heo;exact⟨v,by rw[hbe];exact hv⟩
  ·refine(ok b u q).stay (fun c v hc r=>k c v ?_ r) (fun c r=>by rw[ag (nown c b r)];exact r) fun c xs r=>by rw[ag (ntup c xs r)];exact r
   rcases hc with rfl|hc
   ·exact hbe
   ·rintro rfl;rcases he with z|z
    ·exact nown c b hc z
    ·rw[hc]at z;cases z;exact hb rfl
end
structure Un (fs ex:List Addr) (H H':Hp) (h h':Heap):Prop where
 keep:∀b o,h.get? b=some o->H b=none->b∉fs->b∉ex->h'.get? b=some o
 slot:∀b o,h.get? b=some o->H b=none->b∈fs->b∉ex->∃sl,h'.get? b=some { o with slots:=sl }
 free:∀b o,h.get? b=some o->H b=none->b∉ex->H' b=none
 there:∀b o,h.get? b=some o->b∉ex->∃o',h'.get? b=some o'
 tups:∀b xs,H b=some (.tup xs)->H' b=some (.tup xs)
 frzs:∀b o u,H b=some (.frz o u)->H' b=some (.frz o u)
 tbls:∀b ps,H b=some (.tbl ps)->∃more,H' b=some (.tbl (ps++more))
section
variable {fs fs' ex ex':List Addr} {H H1 H2:Hp} {h h1 h2 h':Heap} {a x e:Addr} {o:HO}
theorem Un.any (u:Un fs ex H H1 h h1) {b:Addr} {ob:Obj} (q:h.get? b=some ob) (n:H b=none) (hx:b∉ex):∃sl,h1.get? b=some { ob with slots:=sl }:=by
 by_cases hb:b∈fs
 ·exact u.slot b ob q n hb hx
 ·exact⟨ob.slots,u.keep b ob q n hb hx⟩
theorem Un.kept (k:∀b u,h.get? b=some u->h'.get? b=some u):Un fs ex H H h h' :=
 ⟨fun b ob q _ _ _=>k b ob q,fun b ob q _ _ _=>⟨ob.slots,k b ob q⟩,fun _ _ _ n _=>n,fun b ob q _=>⟨ob,k b ob q⟩,fun _ _ q=>q,fun _ _ _ q=>q,fun _ ps q=>⟨#[],by rw[q];simp⟩⟩
theorem Un.refl:Un fs ex H H h h:=Un.kept fun _ _ q=>q
theorem Un.laid (k:∀b u,h.get? b=some u->h'.get? b=some u) (hp:h.objs.size<=a) (hn:H a=none):Un fs ex H (upd H a o) h h' where
 keep:=fun b u q _ _ _=>k b u q
 slot:=fun b u q _ _ _=>⟨u.slots,k b u q⟩
 free:=fun b u q n _=>by rw[ag (Zf (Va (Ac q) hp))];exact n
 there:=fun b u q _=>⟨u,k b u q⟩
 tups:=fun b xs q=>by rw[ag (aN q hn)];exact q
 frzs:=fun b u xs q=>by rw[ag (aN q hn)];exact q
 tbls:=fun b ps q=>⟨#[],by rw[ag (aN q hn),q];simp⟩
theorem Un.write (mu:Hd (H x)) (he:e=x∨H e=some (.own x)) (k:∀b u,b≠e->h.get? b=some u->h'.get? b=some u) (heo:∃u,h'.get? e=some u):Un fs ex H (upd H x o) h h':=by
 have hx:∀b,H b=none->b≠x:=fun b n z=>by subst z;rw[n]at mu;exact mu
 have hb:∀b,H b=none->b≠e:=fun b n z=>by
  subst z;rcases he with r|r
  ·exact hx b n r
  ·rw[n]at r;cases r
 have hm:∀b u,H b=some u->¬ Hd (some u)->b≠x:=fun b u q nm z=>by subst z;rw[q]at mu;exact nm mu
 refine⟨fun b u q n _ _=>k b u (hb b n) q,fun b u q n _ _=>⟨u.slots,k b u (hb b n) q⟩,fun b u q n _=>by rw[ag (hx b n)];exact n,fun b u q _=>?_,
  fun b xs q=>by rw[ag (hm b _ q fun z=>z)];exact q,fun b u xs q=>by rw[ag (hm b _ q fun z=>z)];exact q,fun b ps q=>⟨#[],by rw[ag (hm b _ q fun z=>z),q];simp⟩⟩
 by_cases hbe:b=e
 ·subst hbe;exact heo
 ·exact⟨u,k b u hbe q⟩
end
def IQ (h:Heap) (H:Hp):List Addr:=(List.range h.objs.size).filter fun a=>(H a).isSome
def pO (h:Heap) (H:Hp):Heap:=PySem.W.hideAll h (IQ h H)
theorem v0 (h:Heap) (H:Hp):(pO h H).objs.size=h.objs.size:=PySem.W.hideAll_size _ _
theorem xb {h:Heap} {H:Hp} {b:Addr} {o:Obj} (e:h.get? b=some o) (n:H b=none):(pO h H).get? b=some o :=
 PySem.W.hideAll_get _ e fun hm=>by
  have q:(H b).isSome=true:=(List.mem_filter.mp hm).2;rw[n]at q;simp at q
theorem zY {h:Heap} {H:Hp} {b:Addr} {o:Obj} (e:(pO h H).get? b=some o):h.get? b=some o/\H b=none:=by
 have e':h.get? b=some o:=PySem.W.of_hideAll (IQ h H) e;refine⟨e',?_⟩;cases q:H b with
 | none=>rfl
 | some x =>
  have hm:b∈IQ h H:=List.mem_filter.mpr ⟨List.mem_range.mpr (Ac e'),by simp[q]⟩
  have z:(pO h H).get? b=none:=PySem.W.hideAll_none (IQ h H) hm;rw[z]at e;cases e
end L2
namespace L2
open PySem PySem.Spec PyProof.Rows
structure Mod (K:PySem.W.Frag) (mg:Str->Option Value) (base:Heap):Prop where
 kin:K.In base
 glob:base.Ns mainGlobals mg
 blt:∃mb,base.Ns builtinsNs mb/\∀x:Str,x≠"__name__"->mb x=bootBuiltins x
 nolimit:base.NoLimit
structure Cx where
 prog:Program
 w:World
 K:PySem.W.Frag
 mg:Str->Option Value
 base:Heap
 A:Around
 N:List Str
 s₀:Shared
 H₀:Hp
 env:Env
 outer:List Env
 stack:List Env
 ex:List Addr
 fn:Str->Bool
 calm:Bool
 pn:List (Addr×Obj)
 xe:Value->Shared->Prop
def fA (l:List Env):List Addr:=l.filterMap (·.frame)
abbrev Cx.fs (X:Cx):List Addr:=fA X.outer
def Jf (sc:Scope) (x:Str):Prop:=sc.names.lookup x=some .local∨sc.names.lookup x=some .cell∨sc.names.lookup x=some .free
def Loc (sc:Scope) (x:Str):Prop:=sc.names.lookup x=some .local∨sc.names.lookup x=some .cell
def Look (env:Env) (h:Heap) (m:Str->Option Value) (x:Str) (u:Value):Prop :=
 (env.kindOf x=some .local/\m x=some u)∨((env.kindOf x=some .cell∨env.kindOf x=some .free)/\∃c,env.cells.lookup x=some c/\h.IsCell c (some u))
structure Cx.Ok (X:Cx):Prop where
 mod:Mod X.K X.mg X.base
 kind:X.env.scope.kind=.function
 glob:X.env.globals=mainGlobals
 blt:X.env.builtins=builtinsNs
 above:X.s₀.heap.objs.size<=X.env.locals
 inj:∀x y c,X.env.cells.lookup x=some c->X.env.cells.lookup y=some c->x=y
 has:∀x,(X.env.kindOf x=some .cell∨X.env.kindOf x=some .free)->∃c,X.env.cells.lookup x=some c
 cab:∀x c,X.fn x=true->X.env.cells.lookup x=some c->X.s₀.heap.objs.size<=c
 hd:X.calm=true->X.A.handled=none
 frames:X.A.frames=some X.stack
 stk:X.stack=X.outer∨(X.stack=X.env::X.outer/\X.env.frame=some X.env.locals)
 exf:∀b∈X.ex,b≠X.env.locals/\∀x c,X.env.cells.lookup x=some c->c≠b
 bs:∀b o,X.base.get? b=some o->X.s₀.heap.get? b=some o/\X.H₀ b=none
 bsz:X.base.objs.size<=X.s₀.heap.objs.size
 noex:∀b o,X.base.get? b=some o->b∉X.ex
 exfs:∀b∈X.ex,b∉X.fs
 funs:X.s₀.heap.FunFrames X.base X.outer
 frf:∀b∈X.fs,X.H₀ b=none
structure Inv (X:Cx) (pins:List (Addr×Obj)) (σ:List (Option V)) (H:Hp) (s:Shared):Prop where
 ok:X.Ok
 os:s.os=X.s₀.os
 bare:AllBare s.gens
 base:Un X.fs X.ex X.H₀ H X.s₀.heap s.heap
 loc:∃m,s.heap.Ns X.env.locals m/\∀(i:Nat) (x:Str) (v:V),X.N[i]?=some x->σ[i]?=some (some v)->Jf X.env.scope x->∃u,RelV v u/\Look X.env s.heap m x u
 cell:∀x c,X.env.cells.lookup x=some c->∃v,s.heap.IsCell c v
 free:H X.env.locals=none
 freeC:∀x c,X.env.cells.lookup x=some c->H c=none
 pin:∀p∈X.pn++pins,s.heap.get? p.1=some p.2/\H p.1=none/\p.1≠X.env.locals/\p.1∉X.fs/\∀v,p.2.data≠.cell v
 hok:HOk X.prog X.w H s.heap
 len:σ.length=X.N.length
 tk:0<s.toks
theorem Inv.tkl' {X:Cx} {pins:List (Addr×Obj)} {σ:List (Option V)} {H:Hp} {s:Shared} {n:Nat} (I:Inv X pins σ H s) (h:s.toks<=n):0<n:=Va I.tk h
theorem Inv.tkl {X:Cx} {pins:List (Addr×Obj)} {σ:List (Option V)} {H:Hp} {s:Shared} {n:Nat} (h:s.toks<=n) (I:Inv X pins σ H s):0<n:=Va I.tk h
section
variable {X:Cx} {pins:List (Addr×Obj)} {σ:List (Option V)} {H H':Hp} {s:Shared} {h':Heap}
theorem Cx.Ok.nofr (ok:X.Ok) {b:Addr} {o:Obj} (e:X.base.get? b=some o):b∉X.fs:=fun hb=>by
 have:=(ok.funs.mem hb).1;rw[e]at this;cases this
theorem Inv.bs (I:Inv X pins σ H s):∀b o,X.base.get? b=some o->s.heap.get? b=some o/\H b=none:=fun b o e =>
 ⟨I.base.keep b o (I.ok.bs b o e).1 (I.ok.bs b o e).2 (I.ok.nofr e) (I.ok.noex b o e),I.base.free b o (I.ok.bs b o e).1 (I.ok.bs b o e).2 (I.ok.noex b o e)⟩
theorem Inv.bk (I:Inv X pins σ H s):∀b o,X.base.get? b=some o->s.heap.get? b=some o:=fun b o e=>(I.bs b o e).1
theorem Inv.mod (I:Inv X pins σ H s):Mod X.K X.mg X.base:=I.ok.mod
theorem Inv.kIn (I:Inv X pins σ H s):X.K.In s.heap:=I.ok.mod.kin.keeps I.bk
theorem Inv.lt (I:Inv X pins σ H s):X.env.locals<s.heap.objs.size:=let ⟨_,hn,_⟩:=I.loc;hn.lt
theorem Inv.sz (I:Inv X pins σ H s):X.s₀.heap.objs.size<=s.heap.objs.size:=Qb I.ok.above (BM I.lt)
theorem Inv.nofs (I:Inv X pins σ H s) {a:Addr} (h:s.heap.objs.size<=a):a∉X.fs:=fun hb=>by
 obtain⟨_,o,ho,_⟩:=I.ok.funs.mem hb;exact absurd (Va (Ac ho) (Qb I.sz h)) (Ye _)
theorem Inv.cne (I:Inv X pins σ H s):∀x c,X.env.cells.lookup x=some c->c≠X.env.locals:=fun x c e z=>by
 obtain⟨v,o,ho,hd⟩:=I.cell x c e;obtain⟨m,⟨o',es,ep,ho',hd',_⟩,_⟩:=I.loc;rw[z,ho']at ho;cases ho;rw[hd']at hd;cases hd
theorem Inv.funs (I:Inv X pins σ H s):s.heap.FunFrames X.base X.outer:=by
 have all:∀(l:List Env),(∀b∈fA l,b∈X.fs)->X.s₀.heap.FunFrames X.base l->s.heap.FunFrames X.base l:=by
  intro l;induction l with
  | nil=>intro _ _;trivial
  | cons env r ih =>
   intro hs hl;obtain⟨hk,⟨L,o,hf,hn,ho,hd⟩,hr⟩:=hl;have hL:L∈X.fs:=hs L (by unfold fA;rw[Ba,hf];exact Qa)
   obtain⟨sl,e⟩:=I.base.slot L o ho (I.ok.frf L hL) hL fun z=>I.ok.exfs L z hL;exact⟨hk,⟨L,_,hf,hn,e,hd⟩,ih (fun b hb=>hs b (by unfold fA;rw[Ba,hf];exact Yb _ hb)) hr⟩
 exact all X.outer (fun _ hb=>hb) I.ok.funs
theorem Inv.stack (I:Inv X pins σ H s):s.heap.FunFrames X.base X.stack:=by
 rcases I.ok.stk with e|⟨e,hf⟩
 ·rw[e];exact I.funs
 ·rw[e];obtain⟨m,hn,_⟩:=I.loc;refine .cons (by rw[I.ok.kind];decide) hf hn ?_ I.funs
  exact AN (Qb I.ok.bsz I.ok.above)
theorem Inv.stkSub (I:Inv X pins σ H s):∀b∈fA X.stack,b∈X.env.locals::X.fs:=fun b hb=>by
 rcases I.ok.stk with e|⟨e,hf⟩
 ·rw[e]at hb;exact Yb _ hb
 ·rw[e]at hb;unfold fA at hb;rw[Ba,hf]at hb;exact hb
theorem Inv.stkFree (I:Inv X pins σ H s):∀b∈fA X.stack,H b=none:=fun b hb=>by
 rcases Vc.mp (I.stkSub b hb) with e|hb
 ·rw[e];exact I.free
 ·obtain⟨_,o,ho,_⟩:=I.ok.funs.mem hb;exact I.base.free b o ho (I.ok.frf b hb) fun z=>I.ok.exfs b z hb
theorem Inv.step {g':Array GenState} {t':Nat} {d':Drawn} {ch:List Addr} (I:Inv X pins σ H s)
  (hch:∀b∈ch,(b∈X.ex∨X.s₀.heap.objs.size<=b)/\b≠X.env.locals/\(∀x c,X.env.cells.lookup x=some c->c≠b)/\∀p∈X.pn++pins,p.1≠b)
  (keep:∀b o,b≠X.env.locals->b∉X.fs->b∉ch->s.heap.get? b=some o->H b=none->h'.get? b=some o)
  (slot:∀b o,b≠X.env.locals->b∈X.fs->b∉ch->s.heap.get? b=some o->H b=none->∃sl,h'.get? b=some { o with slots:=sl }) (free:∀b o,b∉ch->s.heap.get? b=some o->H b=none->H' b=none)
  (there:∀b o,b∉ch->s.heap.get? b=some o->∃o',h'.get? b=some o')
  (tups:∀b xs,H b=some (.tup xs)->H' b=some (.tup xs)) (frzs:∀b o u,H b=some (.frz o u)->H' b=some (.frz o u)) (tbls:∀b ps,H b=some (.tbl ps)->∃more,H' b=some (.tbl (ps++more)))
  (ns:∀m,s.heap.Ns X.env.locals m->h'.Ns X.env.locals m) (hok:HOk X.prog X.w H' h') (hg:AllBare g') (ht:0<t':=by first|assumption|exact Vg _|exact Inv.tk (by assumption)|exact Inv.tkl (by assumption) (by assumption)|lia) :
  Inv X pins σ H' { s with heap:=h',gens:=g',drawn:=d',toks:=t' }:=by
 have neL:∀b o,X.s₀.heap.get? b=some o->b≠X.env.locals:=fun b o e=>Zf (Va (Ac e) I.ok.above);have neC:∀b o,X.s₀.heap.get? b=some o->b∉X.ex->b∉ch:=fun b o e hx hb=>by
  rcases(hch b hb).1 with z|z
  ·exact hx z
  ·exact absurd (Va (Ac e) z) (Ye _)
 have cellK:∀x c,X.env.cells.lookup x=some c->∀v,s.heap.IsCell c v->h'.IsCell c v:=fun x c e v ⟨o,ho,hd⟩=>by
  have nch:c∉ch:=fun z=>(hch c z).2.2.1 x c e rfl;by_cases hc:c∈X.fs
  ·obtain⟨sl,q⟩:=slot c o (I.cne x c e) hc nch ho (I.freeC x c e);exact⟨_,q,hd⟩
  ·exact⟨o,keep c o (I.cne x c e) hc nch ho (I.freeC x c e),hd⟩
 refine⟨I.ok,I.os,hg,⟨fun b o e n hb hx=>?_,fun b o e n hb hx=>?_,fun b o e n hx=>?_,fun b o e hx=>?_,fun b xs e=>tups b xs (I.base.tups b xs e),fun b o xs e=>frzs b o xs (I.base.frzs b o xs e),fun b ps e=>?_⟩,?_,fun x c e=>?_,?_,fun x c e=>?_,fun p hp=>?_,hok,I.len,ht⟩
 ·exact keep b o (neL b o e) hb (neC b o e hx) (I.base.keep b o e n hb hx) (I.base.free b o e n hx)
 ·obtain⟨sl,e1⟩:=I.base.slot b o e n hb hx;obtain⟨sl',e2⟩:=slot b _ (neL b o e) hb (neC b o e hx) e1 (I.base.free b o e n hx);exact⟨sl',e2⟩
 ·obtain⟨o',e1⟩:=I.base.there b o e hx;exact free b o' (neC b o e hx) e1 (I.base.free b o e n hx)
 ·obtain⟨o',e1⟩:=I.base.there b o e hx;exact there b o' (neC b o e hx) e1
 ·obtain⟨m1,e1⟩:=I.base.tbls b ps e;obtain⟨m2,e2⟩:=tbls b _ e1;exact⟨m1++m2,by rw[e2,Array.append_assoc]⟩
 ·obtain⟨m,hn,hl⟩:=I.loc;refine⟨m,ns m hn,fun i x v e1 e2 e3=>?_⟩;obtain⟨u,r,l⟩:=hl i x v e1 e2 e3;refine⟨u,r,?_⟩;rcases l with l|⟨k,c,e,z⟩
  ·exact .inl l
  ·exact .inr ⟨k,c,e,cellK x c e _ z⟩
 ·obtain⟨v,z⟩:=I.cell x c e;exact⟨v,cellK x c e v z⟩
 ·obtain⟨m,⟨o,_,_,ho,_⟩,_⟩:=I.loc;exact free _ o (fun z=>(hch _ z).2.1 rfl) ho I.free
 ·obtain⟨v,o,ho,hd⟩:=I.cell x c e;exact free c o (fun z=>(hch c z).2.2.1 x c e rfl) ho (I.freeC x c e)
 ·obtain⟨e,n,ne,nf,d⟩:=I.pin p hp;have nch:p.1∉ch:=fun z=>(hch p.1 z).2.2.2 p hp rfl;exact⟨keep p.1 p.2 ne nf nch e n,free p.1 p.2 nch e n,ne,nf,d⟩
theorem Inv.un {t':Nat} (I:Inv X pins σ H s) (u:Un X.fs [] H H' s.heap h') (hok:HOk X.prog X.w H' h') (ht:0<t':=by first|assumption|exact Vg _|exact Inv.tk (by assumption)|exact Inv.tkl (by assumption) (by assumption)|lia):Inv X pins σ H' { s with heap:=h',toks:=t' }:=by
 obtain⟨m,⟨o,es,ep,ho,r⟩,_⟩:=id I.loc;obtain⟨sl,hL⟩:=u.any ho I.free (by simp)
 exact I.step (g':=s.gens) (d':=s.drawn) (ch:=[]) (fun _ z=>nomatch z) (fun b o _ hb _ e n=>u.keep b o e n hb (by simp)) (fun b o _ hb _ e n=>u.slot b o e n hb (by simp)) (fun b o _ e n=>u.free b o e n (by simp)) (fun b o _ e=>u.there b o e (by simp)) u.tups u.frzs u.tbls (fun m' hm=>by
  obtain⟨o',es',ep',ho',r'⟩:=hm;rw[ho]at ho';cases ho'
  exact⟨_,es',ep',hL,r'⟩) hok I.bare
theorem Inv.call {g':Array GenState} {t':Nat} {d':Drawn} {ch:List Addr} (I:Inv X pins σ H s) (u:Un (fA X.stack) ch H H' s.heap h') (hok:HOk X.prog X.w H' h') (hg:AllBare g')
  (hch:∀b∈ch,(b∈X.ex∨X.s₀.heap.objs.size<=b)/\b≠X.env.locals/\(∀x c,X.env.cells.lookup x=some c->c≠b)/\∀p∈X.pn++pins,p.1≠b) (ht:0<t':=by first|assumption|exact Vg _|exact Inv.tk (by assumption)|exact Inv.tkl (by assumption) (by assumption)|lia) :
  Inv X pins σ H' { s with heap:=h',gens:=g',drawn:=d',toks:=t' }:=by
 obtain⟨m,⟨o,es,ep,ho,r⟩,_⟩:=id I.loc;obtain⟨sl,hL⟩:=u.any ho I.free fun z=>(hch _ z).2.1 rfl
 exact I.step (ch:=ch) hch (fun b o hL hb hc e n=>u.keep b o e n (fun z=>(Vc.mp (I.stkSub b z)).elim hL hb) hc) (fun b o _ _ hc e n=>u.any e n hc) (fun b o hc e n=>u.free b o e n hc) (fun b o hc e=>u.there b o e hc) u.tups u.frzs u.tbls (fun m' hm=>by
  obtain⟨o',es',ep',ho',r'⟩:=hm;rw[ho]at ho';cases ho'
  exact⟨_,es',ep',hL,r'⟩) hok hg
theorem Inv.turned {t':Nat} {it:Addr} (I:Inv X pins σ H s) (k:∀b o,b≠it->s.heap.get? b=some o->h'.get? b=some o) (hn:H it=none) (hL:it≠X.env.locals)
  (h1:it∈X.ex∨X.s₀.heap.objs.size<=it) (h2:∀x c,X.env.cells.lookup x=some c->c≠it) (h3:∀p∈X.pn++pins,p.1≠it) (ht:0<t':=by first|assumption|exact Vg _|exact Inv.tk (by assumption)|exact Inv.tkl (by assumption) (by assumption)|lia):Inv X pins σ H { s with heap:=h',toks:=t' }:=by
 have nit:∀b u,H b=some u->b≠it:=fun b u e z=>by rw[z,hn]at e;cases e
 refine I.step (g':=s.gens) (d':=s.drawn) (ch:=[it]) (fun b hb=>?_) (fun b o _ _ hc e _=>k b o (fun z=>hc (by simp[z])) e) (fun b o _ _ hc e _=>⟨o.slots,k b o (fun z=>hc (by simp[z])) e⟩) (fun _ _ _ _ n=>n)
  (fun b o hc e=>⟨o,k b o (fun z=>hc (by simp[z])) e⟩) (fun _ _ e=>e) (fun _ _ _ e=>e) (fun b ps e=>⟨#[],by rw[e];simp⟩) (fun m hm=>?_) (fun b u e=>?_) I.bare
 ·have e:b=it:=by simpa using hb
  subst e;exact⟨h1,hL,h2,h3⟩
 ·obtain⟨o,es,ep,ho,r⟩:=hm;exact⟨o,es,ep,k _ o (Al hL) ho,r⟩
 ·refine(I.hok b u e).stay (fun c v hc q=>k c v ?_ q) (fun _ q=>q) fun _ _ q=>q;rcases hc with z|z
  ·rw[z];exact nit b u e
  ·exact nit c _ z
theorem Inv.tok (I:Inv X pins σ H s) (t':Nat) (ht:0<t':=by first|assumption|exact Vg _|exact Inv.tk (by assumption)|exact Inv.tkl (by assumption) (by assumption)|lia):Inv X pins σ H { s with toks:=t' }:=I.un (h':=s.heap) (t':=t') Un.refl I.hok
theorem Inv.kept {t':Nat} (I:Inv X pins σ H s) (k:∀b u,s.heap.get? b=some u->h'.get? b=some u) (ht:0<t':=by first|assumption|exact Vg _|exact Inv.tk (by assumption)|exact Inv.tkl (by assumption) (by assumption)|lia):Inv X pins σ H { s with heap:=h',toks:=t' }:=I.un (Un.kept k) (I.hok.kept k)
theorem Inv.laid {a:Addr} {o:HO} {t':Nat} (I:Inv X pins σ H s) (k:∀b u,s.heap.get? b=some u->h'.get? b=some u) (hp:s.heap.objs.size<=a) (new:ObjOk X.prog X.w (upd H a o) h' a o) (ht:0<t':=by first|assumption|exact Vg _|exact Inv.tk (by assumption)|exact Inv.tkl (by assumption) (by assumption)|lia) :
  Inv X pins σ (upd H a o) { s with heap:=h',toks:=t' }:=I.un (Un.laid k hp (I.hok.fresh hp)) (I.hok.laid k hp new)
theorem Inv.write {x e:Addr} {o:HO} {t':Nat} (I:Inv X pins σ H s) (mu:Hd (H x)) (he:e=x∨H e=some (.own x)) (k:∀b u,b≠e->s.heap.get? b=some u->h'.get? b=some u) (heo:∃u,h'.get? e=some u)
  (new:ObjOk X.prog X.w (upd H x o) h' x o) (ht:0<t':=by first|assumption|exact Vg _|exact Inv.tk (by assumption)|exact Inv.tkl (by assumption) (by assumption)|lia):Inv X pins σ (upd H x o) { s with heap:=h',toks:=t' }:=I.un (Un.write mu he k heo) (I.hok.write mu he k heo new)
theorem Inv.weak {σ':List (Option V)} (I:Inv X pins σ H s) (hl:σ'.length=σ.length) (w:∀(i:Nat) v,σ'[i]?=some (some v)->σ[i]?=some (some v)):Inv X pins σ' H s :=
 ⟨I.ok,I.os,I.bare,I.base,let ⟨m,hn,hl'⟩:=I.loc;⟨m,hn,fun i x v e1 e2 e3=>hl' i x v e1 (w i v e2) e3⟩,I.cell,I.free,I.freeC,I.pin,I.hok,hl.trans I.len,I.tk⟩
theorem Inv.pins_of {pins':List (Addr×Obj)} (I:Inv X pins σ H s) (h:∀p∈pins',s.heap.get? p.1=some p.2/\H p.1=none/\p.1≠X.env.locals/\p.1∉X.fs/\∀v,p.2.data≠.cell v):Inv X pins' σ H s :=
 ⟨I.ok,I.os,I.bare,I.base,I.loc,I.cell,I.free,I.freeC,fun p hp=>(Vd.mp hp).elim (fun z=>I.pin p (Wi _ z)) (h p),I.hok,I.len,I.tk⟩
theorem mT {N:List Str} (hN:N.Nodup) {i j:Nat} {x:Str} (a:N[i]?=some x) (b:N[j]?=some x):i=j:=by
 obtain⟨h1,e1⟩:=Yd.mp a;obtain⟨h2,e2⟩:=Yd.mp b;exact(List.getElem_inj hN).mp (e1.trans e2.symm)
theorem oF {M:Model} {A:Around} {E:Value->Shared->Prop} {i:Nat} {x:Str} {v:V} {u:Value} {Q:Unit->Shared->Prop} (I:Inv X pins σ H s) (hN:X.N.Nodup) (hi:X.N[i]?=some x) (hx:Loc X.env.scope x) (r:RelV v u)
  (h:∀s',Inv X pins (σ.set i (some v)) H s'->(∃a,Heap.SameBut a s.heap s'.heap/\(a=X.env.locals∨X.env.cells.lookup x=some a))->(∃m,s'.heap.Ns X.env.locals m/\Look X.env s'.heap m x u)->Q () s') (hf:X.fn x=true∨X.env.scope.names.lookup x=some .local:=by first|exact .inl rfl|exact .inr rfl|assumption):wpAny M A (storeName X.env x u) Q E s:=by
 obtain⟨m,hn,hl⟩:=id I.loc;have hcls:(X.env.scope.kind == .class||(X.env.scope.kind == .module&&X.env.locals != X.env.globals))=false:=by rw[I.ok.kind];rfl
 have hiσ:i<σ.length:=by rw[I.len];exact(Yd.mp hi).1
 have cne:=I.cne;have tracked:∀{a:Addr} {h':Heap},(∃o,s.heap.get? a=some o/\H a=none)->Heap.SameBut a s.heap h'->HOk X.prog X.w H h':=fun {a h'} ha hs b ob e=>by
  obtain⟨_,_,hfree⟩:=ha;refine(I.hok b ob e).stay (fun c w' hc q=>(hs.2 c ?_).trans q) (fun _ q=>q) fun _ _ q=>q;rintro rfl;rcases hc with rfl|hc
  ·rw[hfree]at e;cases e
  ·rw[hfree]at hc;cases hc
 rcases hx with hk|hk
 ·refine wpAny_storeName_local hk hn (fun h' hn' hs=>?_) hcls;obtain⟨oL,_,_,hoL,_⟩:=id hn;refine h _ ⟨I.ok,I.os,I.bare,⟨fun b o e n hb hx=>?_,fun b o e n hb hx=>?_,I.base.free,fun b o e hx=>?_,I.base.tups,I.base.frzs,I.base.tbls⟩,⟨_,hn',fun j y v' e1 e2 e3=>?_⟩,fun y c e=>?_,I.free,I.freeC,fun p hp=>?_,tracked ⟨oL,hoL,I.free⟩ hs,by simpa using I.len,Vg _⟩ ⟨_,hs,.inl rfl⟩ ⟨_,hn',.inl ⟨hk,by simp⟩⟩
  ·exact(hs.2 b (Zf (Va (Ac e) I.ok.above))).trans (I.base.keep b o e n hb hx)
  ·obtain⟨sl,e1⟩:=I.base.slot b o e n hb hx;exact⟨sl,(hs.2 b (Zf (Va (Ac e) I.ok.above))).trans e1⟩
  ·obtain⟨o',e1⟩:=I.base.there b o e hx;exact⟨o',(hs.2 b (Zf (Va (Ac e) I.ok.above))).trans e1⟩
  ·by_cases hj:j=i
   ·subst hj;rw[hi]at e1;cases e1;rw[Wl hiσ]at e2;cases e2;exact⟨u,r,.inl ⟨hk,by simp⟩⟩
   ·rw[Zk (Al hj)]at e2;obtain⟨u',r',q⟩:=hl j y v' e1 e2 e3;refine⟨u',r',?_⟩;rcases q with⟨k,e⟩|⟨k,c,e,z⟩
    ·refine .inl ⟨k,?_⟩;have:y≠x:=fun e=>hj (mT hN e1 (e ▸ hi));simp[this,e]
    ·exact .inr ⟨k,c,e,z.sameBut hs (cne y c e)⟩
  ·obtain⟨w',z⟩:=I.cell y c e;exact⟨w',z.sameBut hs (cne y c e)⟩
  ·obtain⟨e,n,ne,nf,d⟩:=I.pin p hp;exact⟨(hs.2 p.1 ne).trans e,n,ne,nf,d⟩
 ·have hfn:X.fn x=true:=by
   rcases hf with z|z
   ·exact z
   ·rw[z]at hk;cases hk
  obtain⟨c,hc⟩:=I.ok.has x (.inl hk);obtain⟨w',z⟩:=I.cell x c hc;refine wpAny_storeName_cell I.ok.kind hk hc z (fun h' hc' hs=>?_);obtain⟨oc,hoc,hocd⟩:=id z;refine h { s with heap:=h' } ⟨I.ok,I.os,I.bare,⟨fun b o e n hb hx=>?_,fun b o e n hb hx=>?_,I.base.free,fun b o e hx=>?_,I.base.tups,I.base.frzs,I.base.tbls⟩,⟨m,hn.sameBut hs (Al (cne x c hc)),fun j y v' e1 e2 e3=>?_⟩,fun y c' e=>?_,I.free,I.freeC,fun p hp=>?_,tracked ⟨oc,hoc,I.freeC x c hc⟩ hs,by simpa using I.len,I.tk⟩ ⟨c,hs,.inr hc⟩ ⟨m,hn.sameBut hs (Al (cne x c hc)),.inr ⟨.inl hk,c,hc,hc'⟩⟩
  ·exact(hs.2 b (Zf (Va (Ac e) (I.ok.cab x c hfn hc)))).trans (I.base.keep b o e n hb hx)
  ·obtain⟨sl,e1⟩:=I.base.slot b o e n hb hx;exact⟨sl,(hs.2 b (Zf (Va (Ac e) (I.ok.cab x c hfn hc)))).trans e1⟩
  ·obtain⟨o',e1⟩:=I.base.there b o e hx;exact⟨o',(hs.2 b (Zf (Va (Ac e) (I.ok.cab x c hfn hc)))).trans e1⟩
  ·by_cases hj:j=i
   ·subst hj;rw[hi]at e1;cases e1;rw[Wl hiσ]at e2;cases e2;exact⟨u,r,.inr ⟨.inl hk,c,hc,hc'⟩⟩
   ·rw[Zk (Al hj)]at e2;obtain⟨u',r',q⟩:=hl j y v' e1 e2 e3;refine⟨u',r',?_⟩;rcases q with q|⟨k,c',e,z'⟩
    ·exact .inl q
    ·refine .inr ⟨k,c',e,z'.sameBut hs ?_⟩;rintro rfl;exact hj (mT hN e1 (I.ok.inj _ _ _ e hc ▸ hi))
  ·by_cases hcc:c'=c
   ·subst hcc;exact⟨_,hc'⟩
   ·obtain⟨w2,z2⟩:=I.cell y c' e;exact⟨w2,z2.sameBut hs hcc⟩
  ·obtain⟨e,n,ne,nf,d⟩:=I.pin p hp;refine⟨(hs.2 p.1 ?_).trans e,n,ne,nf,d⟩;intro q;rw[q,hoc]at e;have q':oc=p.2:=Option.some.inj e;exact d w' (by rw[← q'];exact hocd)
theorem mU {M:Model} {A:Around} {E:Value->Shared->Prop} {i:Nat} {x:Str} {v:V} {u:Value} {Q:Unit->Shared->Prop} (I:Inv X pins σ H s) (hN:X.N.Nodup) (hi:X.N[i]?=some x) (hx:Loc X.env.scope x) (r:RelV v u)
  (h:∀s',Inv X pins (σ.set i (some v)) H s'->Q () s') (hf:X.fn x=true∨X.env.scope.names.lookup x=some .local:=by first|exact .inl rfl|exact .inr rfl|assumption):wpAny M A (storeName X.env x u) Q E s :=
 oF I hN hi hx r (fun s' I' _ _=>h s' I') hf
theorem Inv.call' {s':Shared} {ch:List Addr} (I:Inv X pins σ H s) (ho:s'.os=s.os) (u:Un (fA X.stack) ch H H' s.heap s'.heap) (hok:HOk X.prog X.w H' s'.heap) (hg:AllBare s'.gens)
  (hch:∀b∈ch,(b∈X.ex∨X.s₀.heap.objs.size<=b)/\b≠X.env.locals/\(∀x c,X.env.cells.lookup x=some c->c≠b)/\∀p∈X.pn++pins,p.1≠b) (ht:0<s'.toks):Inv X pins σ H' s':=by
 obtain⟨h',g',d',t',o'⟩:=s';have e:o'=s.os:=ho;subst e;exact I.call (g':=g') (t':=t') (d':=d') u hok hg hch ht
end
abbrev XK:=Value->Option Addr->Hp->Prop
abbrev St:=List (Option V)
abbrev VK:=V->Hp->Prop
abbrev TE:=St->Hp->VK->Prop
abbrev TT:=St->Hp->(Bool->Hp->Prop)->Prop
abbrev TA:=St->Hp->(List V->Hp->Prop)->Prop
structure Ends where
 nx:St->Hp->Prop
 rt:VK
 bk:St->Hp->Prop:=fun _ _=>False
 ct:St->Hp->Prop:=fun _ _=>False
abbrev TS:=Ends->St->Hp->Prop
inductive EP (X:Cx) (pins:List (Addr×Obj)) (σ:St) (Q:VK) (u:Value) (s':Shared):Prop
 | mk (v:V) (H':Hp) (I:Inv X pins σ H' s') (r:RelV v u) (q:Q v H')
def TP (X:Cx) (pins:List (Addr×Obj)) (σ:St) (Q:Bool->Hp->Prop) (b:Bool) (s':Shared):Prop:=∃H',Inv X pins σ H' s'/\Q b H'
inductive AP (X:Cx) (pins:List (Addr×Obj)) (σ:St) (Q:List V->Hp->Prop) (us:List Value) (s':Shared):Prop
 | mk (vs:List V) (H':Hp) (I:Inv X pins σ H' s') (r:Vals vs us) (q:Q vs H')
def SP (X:Cx) (pins:List (Addr×Obj)) (D:Ends) (f:Flow) (s':Shared):Prop :=
 match f with
 | .next=>∃σ' H',Inv X pins σ' H' s'/\D.nx σ' H'
 | .brk=>∃σ' H',Inv X pins σ' H' s'/\D.bk σ' H'
 | .cont=>∃σ' H',Inv X pins σ' H' s'/\D.ct σ' H'
 | .ret u=>∃v σ' H',Inv X pins σ' H' s'/\RelV v u/\D.rt v H'
def PE (X:Cx) (e:Expr) (t:TE):Prop :=
 ∀(pins:List (Addr×Obj)) (s:Shared) (σ:St) (H:Hp) (Q:VK),Inv X pins σ H s->t σ H Q->wpAny (model X.prog X.w) X.A (eval e X.env) (EP X pins σ Q) X.xe s
def PT (X:Cx) (e:Expr) (t:TT):Prop :=
 ∀(pins:List (Addr×Obj)) (s:Shared) (σ:St) (H:Hp) (Q:Bool->Hp->Prop),Inv X pins σ H s->t σ H Q->wpAny (model X.prog X.w) X.A (isTrue e X.env (eval e X.env)) (TP X pins σ Q) X.xe s
def PW (X:Cx) (e:Expr) (t:TT):Prop :=
 ∀(whole:Sem Value) (pins:List (Addr×Obj)) (s:Shared) (σ:St) (H:Hp) (Q:Bool->Hp->Prop),Inv X pins σ H s->t σ H Q->wpAny (model X.prog X.w) X.A (isTrue e X.env whole) (TP X pins σ Q) X.xe s
theorem PW.pt {X:Cx} {e:Expr} {t:TT} (h:PW X e t):PT X e t:=h _
def PA (X:Cx) (es:List Expr) (t:TA):Prop :=
 ∀(pos:Pos) (pins:List (Addr×Obj)) (s:Shared) (σ:St) (H:Hp) (Q:List V->Hp->Prop),Inv X pins σ H s->t σ H Q->wpAny (model X.prog X.w) X.A (spliced (backTo pos (starEach es X.env))) (AP X pins σ Q) X.xe s
def PS (X:Cx) (st:Stmt) (t:TS):Prop :=
 ∀(pins:List (Addr×Obj)) (s:Shared) (σ:St) (H:Hp) (D:Ends),Inv X pins σ H s->t D σ H->wpAny (model X.prog X.w) X.A (exec st X.env) (SP X pins D) X.xe s
def PSs (X:Cx) (st:List Stmt) (t:TS):Prop :=
 ∀(pins:List (Addr×Obj)) (s:Shared) (σ:St) (H:Hp) (D:Ends),Inv X pins σ H s->t D σ H->wpAny (model X.prog X.w) X.A (execs st X.env) (SP X pins D) X.xe s
theorem b7 {α:Type} {t:Sem α} {Q Q':α->Shared->Prop} {M:Model} {A:Around} {E:Value->Shared->Prop} {s:Shared} (h:wpAny M A t Q E s) (hQ:∀a s,Q a s->Q' a s):wpAny M A t Q' E s:=Ak h hQ fun _ _ x=>x
end L2
namespace L2
open PySem PySem.Spec PyProof.Rows
section
variable {X:Cx}
def mV (i:Nat):TE:=fun σ H Q=>∃v,σ[i]?=some (some v)/\Q v H
def tC (v:V):TE:=fun _ H Q=>Q v H
theorem Er {i:Nat} {x:Str} {pos:Pos} (hN:X.N[i]?=some x) (hv:Jf X.env.scope x) (hd:(x == ("__debug__":Str))=false:=by decide) (hcd:(x == ("__classdict__":Str))=false:=by decide):PE X (.Name x pos) (mV i):=by
 intro pins s σ H Q I h;obtain⟨v,e,h⟩:=h;obtain⟨m,hn,hl⟩:=I.loc;obtain⟨u,r,l⟩:=hl i x v hN e hv;have fin:EP X pins σ Q u s:=⟨v,H,I,r,h⟩;rcases l with⟨hk,hm⟩|⟨hk,c,hc,hcell⟩
 ·exact A0 (wpAny_loadName_local I.ok.kind hk hn hm fin) hd
 ·rcases hk with hk|hk
  ·exact A0 (wpAny_loadName_cell I.ok.kind hk hc hcell fin) hd
  ·exact A0 (wpAny_loadName_free I.ok.kind hk hc hcell fin hcd) hd
theorem ao {i j pos}:PE X (.Constant (.int i) j pos) (tC (.int i)):=fun _ _ _ H _ I h=>wpAny_Constant_int ⟨.int i,H,I.tok _,⟨_,rfl⟩,h⟩
theorem i6 {b j pos}:PE X (.Constant (.bool b) j pos) (tC (.bl b)):=fun _ _ _ H _ I h=>Constant_bool ⟨.bl b,H,I,rfl,h⟩
theorem xf {j pos}:PE X (.Constant .none j pos) (tC .non):=fun _ _ _ H _ I h=>Constant_none ⟨.non,H,I,rfl,h⟩
theorem aF {x j pos}:PE X (.Constant (.str x) j pos) (tC (.str x)):=fun _ _ _ H _ I h=>AD ⟨.str x,H,I.tok _,⟨_,rfl⟩,h⟩
def Gl (X:Cx) (x:Str):Prop:=X.env.kindOf x=some .globalImplicit
theorem cX {E:Value->Shared->Prop} {pins:List (Addr×Obj)} {s:Shared} {σ:St} {H:Hp} {x:Str} {u:Value} {pos:Pos} {Q:Value->Shared->Prop} (I:Inv X pins σ H s) (hg:Gl X x) (hm:X.mg x=some u) (h:Q u s)
  (hd:(x == ("__debug__":Str))=false:=by decide):wpAny (model X.prog X.w) X.A (eval (.Name x pos) X.env) Q E s :=
 BD I.ok.kind hg (Calls.loadGlobal_global (by rw[I.ok.glob];exact I.mod.glob.keeps I.bk) hm h) hd
theorem pP {E:Value->Shared->Prop} {pins:List (Addr×Obj)} {s:Shared} {σ:St} {H:Hp} {x:Str} {u:Value} {pos:Pos} {Q:Value->Shared->Prop} (I:Inv X pins σ H s) (hg:Gl X x) (hm:X.mg x=none) (hv:bootBuiltins x=some u) (h:Q u s)
  (hn:x≠"__name__":=by decide) (hd:(x == ("__debug__":Str))=false:=by decide):wpAny (model X.prog X.w) X.A (eval (.Name x pos) X.env) Q E s:=by
 obtain⟨mb,h1,h2⟩:=I.mod.blt;exact BD I.ok.kind hg (Calls.loadGlobal_builtin (by rw[I.ok.glob];exact I.mod.glob.keeps I.bk) hm (by rw[I.ok.blt];exact h1.keeps I.bk) ((h2 x hn).trans hv) h) hd
theorem pQ {x:Str} {v:V} {u:Value} {pos:Pos} (hg:Gl X x) (hm:X.mg x=some u) (r:RelV v u) (hd:(x == ("__debug__":Str))=false:=by decide):PE X (.Name x pos) (tC v) :=
 fun _ _ _ H _ I h=>cX I hg hm ⟨v,H,I,r,h⟩ hd
theorem zZ {x:Str} {v:V} {u:Value} {pos:Pos} (hg:Gl X x) (hm:X.mg x=none) (hv:bootBuiltins x=some u) (r:RelV v u) (hn:x≠"__name__":=by decide) (hd:(x == ("__debug__":Str))=false:=by decide):PE X (.Name x pos) (tC v) :=
 fun _ _ _ H _ I h=>pP I hg hm hv ⟨v,H,I,r,h⟩ hn hd
variable {a b:Expr} {ta tb:TE} {pos:Pos}
def tB (t:TE):TT:=fun σ H Q=>t σ H fun x H1=>∃c,x=.bl c/\Q c H1
theorem cu {e:Expr} {t:TE} (h:PE X e t) (he:∀whole,isTrue e X.env whole=(do let v ← whole;standAt e.pos;holding [v] (truthy v)):=by intro _;rfl):PT X e (tB t):=by
 intro pins s σ H Q I hw;refine isTrue_plain (b7 (h pins s σ H _ I hw) fun v s1 zz9=>?_) (he _);obtain⟨x,H1,I1,r1,q1⟩:=zz9;obtain⟨d,rfl,q⟩:=q1;cases r1;exact Az ⟨H1,I1,q⟩
variable {tA tB':TT} {rest:List Expr}
def He (t u:TT):TT:=fun σ H Q=>t σ H fun c H1=>if c=true then u σ H1 Q else Q false H1
def JC (t u:TT):TT:=fun σ H Q=>t σ H fun c H1=>if c=true then Q true H1 else u σ H1 Q
def Hf (t:TT):TT:=fun σ H Q=>t σ H fun c H1=>Q (!c) H1
theorem jQ (ha:PT X a tA):PW X (.BoolOp .And [a] pos) tA:=by
 intro wh pins s σ H Q I h;refine isTrue_and (b7 (ha pins s σ H Q I h) fun c s1 e=>?_);cases c with
 | true=>exact isTrue_and_nil e
 | false=>exact e
theorem mW (ha:PT X a tA):PW X (.BoolOp .Or [a] pos) tA:=by
 intro wh pins s σ H Q I h;refine isTrue_or (b7 (ha pins s σ H Q I h) fun c s1 e=>?_);cases c with
 | false=>exact isTrue_or_nil e
 | true=>exact e
theorem kH (ha:PT X a tA) (hb:PW X (.BoolOp .And (b::rest) pos) tB'):PW X (.BoolOp .And (a::b::rest) pos) (He tA tB'):=by
 intro wh pins s σ H Q I h;refine isTrue_and (b7 (ha pins s σ H _ I h) fun c s1 zz9=>?_);obtain⟨H1,I1,q1⟩:=zz9;cases c with
 | true=>exact hb wh pins s1 σ H1 Q I1 q1
 | false=>exact⟨H1,I1,q1⟩
theorem mX (ha:PT X a tA) (hb:PW X (.BoolOp .Or (b::rest) pos) tB'):PW X (.BoolOp .Or (a::b::rest) pos) (JC tA tB'):=by
 intro wh pins s σ H Q I h;refine isTrue_or (b7 (ha pins s σ H _ I h) fun c s1 zz9=>?_);obtain⟨H1,I1,q1⟩:=zz9;cases c with
 | true=>exact⟨H1,I1,q1⟩
 | false=>exact hb wh pins s1 σ H1 Q I1 q1
theorem gi (ha:PT X a tA):PT X (.UnaryOp .Not a pos) (Hf tA):=by
 intro pins s σ H Q I h;exact isTrue_not (ha pins s σ H (fun c H1=>Q (!c) H1) I h)
def Do (ta tb:TE):TE:=fun σ H Q=>ta σ H fun x H1=>∃c,x=.bl c/\if c=true then tb σ H1 Q else Q (.bl false) H1
theorem mY {op} {t:TE} (h:PE X a t):PE X (.BoolOp op [a] pos) t:=fun pins s σ H Q I hw=>BoolOp_one (h pins s σ H Q I hw)
theorem kI (ha:PE X a ta) (hb:PE X (.BoolOp .And (b::rest) pos) tb):PE X (.BoolOp .And (a::b::rest) pos) (Do ta tb):=by
 intro pins s σ H Q I h;refine BoolOp_and (b7 (ha pins s σ H _ I h) fun v s1 zz9=>?_);obtain⟨x,H1,I1,r1,q1⟩:=zz9;obtain⟨c,rfl,q1⟩:=q1;cases r1;refine Az ?_;cases c with
 | true=>exact hb pins s1 σ H1 Q I1 q1
 | false=>exact⟨.bl false,H1,I1,rfl,q1⟩
def JD (t:TT) (ta tb:TE):TE:=fun σ H Q=>t σ H fun c H1=>if c=true then ta σ H1 Q else tb σ H1 Q
theorem xg {c:Expr} (hc:PT X c tA) (ha:PE X a ta) (hb:PE X b tb):PE X (.IfExp c a b pos) (JD tA ta tb):=by
 intro pins s σ H Q I h;refine wpAny_IfExp (b7 (hc pins s σ H _ I h) fun d s1 zz9=>?_);obtain⟨H1,I1,q1⟩:=zz9;cases d with
 | true=>exact ha pins s1 σ H1 Q I1 q1
 | false=>exact hb pins s1 σ H1 Q I1 q1
end
end L2
namespace L2
open PySem PySem.Spec PyProof.Rows
def hJ (K:PySem.W.Frag) (H:Hp) (a:Addr) (xs:List V):Prop :=
 Rd H a (.lst xs) ∨
  ∃(o:Obj) (its:Array Value) (n:Nat),K.lookup a=some o/\o.cls=.type "list"/\o.dict=none/\o.data=.seq its n/\its.size<=sizeLine/\Vals xs its.toList
def kJ (K:PySem.W.Frag) (H:Hp) (a:Addr) (xs:List V):Prop :=
 Rd H a (.tup xs) ∨
  ∃(o:Obj) (its:Array Value) (n:Nat),K.lookup a=some o/\o.cls=.type "tuple"/\o.data=.seq its n/\its.size<=sizeLine/\Vals xs its.toList
def Jg:Value->Option V
 | .none=>some .non
 | .bool b=>some (.bl b)
 | .int i _=>some (.int i)
 | .str x _=>some (.str x)
 | .bytes b _=>some (.byt b)
 | .float b _=>some (.flt b)
 | .ref a=>some (.ref a)
 | .type n=>some (.ty n)
 | _=>none
theorem RelV.abs {x:V} {u:Value} (r:RelV x u):Jg u=some x:=by
 cases x with
 | non=>cases r;rfl
 | bl _=>cases r;rfl
 | int _=>obtain⟨t,rfl⟩:=r;rfl
 | str _=>obtain⟨t,rfl⟩:=r;rfl
 | byt _=>obtain⟨t,rfl⟩:=r;rfl
 | flt _=>obtain⟨t,rfl⟩:=r;rfl
 | ref _=>cases r;rfl
 | ty _=>cases r;rfl
theorem RelV.inj {x y:V} {u:Value} (r:RelV x u) (q:RelV y u):x=y:=Option.some.inj (r.abs.symm.trans q.abs)
theorem Vals.inj:∀{xs ys:List V} {us:List Value},Vals xs us->Vals ys us->xs=ys
 | _,_,_,.nil,.nil=>rfl
 | _,_,_,.cons r t,.cons r' t'=>by rw[r.inj r',Vals.inj t t']
section
variable {X:Cx} {pins:List (Addr×Obj)} {σ:St} {H:Hp} {s:Shared} {a:Addr} {xs ys:List V}
theorem Inv.list (I:Inv X pins σ H s) (h:hJ X.K H a xs):∃its:List Value,Vals xs its/\PlainL s.heap a its.toArray/\xs.length<=sizeLine:=by
 rcases h with h|⟨o,its,n,hk,hc,hd,hs,hz,r⟩
 ·obtain⟨z,its,n,r,e⟩:=h.ok I.hok;exact⟨its,r,⟨_,n,e,rfl,rfl,rfl⟩,z⟩
 ·refine⟨its.toList,r,⟨o,n,I.kIn a o hk,hc,hd,by simpa using hs⟩,?_⟩
  have e:=r.length;simp only[Qf]at e;lia
theorem Inv.tuple (I:Inv X pins σ H s) (h:kJ X.K H a xs):∃its:List Value,Vals xs its/\IsTup s.heap a its.toArray/\xs.length<=sizeLine:=by
 rcases h with h|⟨o,its,n,hk,hc,hs,hz,r⟩
 ·obtain⟨z,its,r,p⟩:=h.ok I.hok;exact⟨its,r,p,z⟩
 ·refine⟨its.toList,r,⟨o,I.kIn a o hk,hc,n,by simpa using hs⟩,?_⟩
  have e:=r.length;simp only[Qf]at e;lia
theorem Inv.list_inj (I:Inv X pins σ H s) (h:hJ X.K H a xs) (h':hJ X.K H a ys):xs=ys:=by
 obtain⟨its,r,⟨o,n,e,_,_,d⟩,_⟩:=I.list h;obtain⟨its',r',⟨o',n',e',_,_,d'⟩,_⟩:=I.list h';rw[e]at e';cases e';rw[d]at d';injection d' with d1 _;have:its=its':=by simpa using congrArg Array.toList d1
 subst this;exact r.inj r'
theorem Inv.tuple_inj (I:Inv X pins σ H s) (h:kJ X.K H a xs) (h':kJ X.K H a ys):xs=ys:=by
 obtain⟨its,r,⟨o,e,_,n,d⟩,_⟩:=I.tuple h;obtain⟨its',r',⟨o',e',_,n',d'⟩,_⟩:=I.tuple h';rw[e]at e';cases e';rw[d]at d';injection d' with d1 _;have:its=its':=by simpa using congrArg Array.toList d1
 subst this;exact r.inj r'
end
abbrev Cx.wish (X:Cx) (E:Value->Shared->Prop):Cx:={ X with xe:=E }
abbrev Cx.nox (X:Cx):Cx:=X.wish fun _ _=>False
theorem Cx.Ok.wish {X:Cx} (ok:X.Ok) (E:Value->Shared->Prop):(X.wish E).Ok :=
 ⟨ok.mod,ok.kind,ok.glob,ok.blt,ok.above,ok.inj,ok.has,ok.cab,ok.hd,ok.frames,ok.stk,ok.exf,ok.bs,ok.bsz,ok.noex,ok.exfs,ok.funs,ok.frf⟩
theorem Cx.Ok.unwish {X:Cx} {E:Value->Shared->Prop} (ok:(X.wish E).Ok):X.Ok :=
 ⟨ok.mod,ok.kind,ok.glob,ok.blt,ok.above,ok.inj,ok.has,ok.cab,ok.hd,ok.frames,ok.stk,ok.exf,ok.bs,ok.bsz,ok.noex,ok.exfs,ok.funs,ok.frf⟩
section
variable {X:Cx} {pins:List (Addr×Obj)} {σ:St} {H:Hp} {s:Shared} {E:Value->Shared->Prop}
theorem Inv.wish (I:Inv X pins σ H s) (E:Value->Shared->Prop):Inv (X.wish E) pins σ H s:=⟨I.ok.wish E,I.os,I.bare,I.base,I.loc,I.cell,I.free,I.freeC,I.pin,I.hok,I.len,I.tk⟩
theorem Inv.unwish (I:Inv (X.wish E) pins σ H s):Inv X pins σ H s:=⟨I.ok.unwish,I.os,I.bare,I.base,I.loc,I.cell,I.free,I.freeC,I.pin,I.hok,I.len,I.tk⟩
theorem SP.unwish {D:Ends} {f:Flow} {s':Shared} (h:SP (X.wish E) pins D f s'):SP X pins D f s':=by
 cases f with
 | next=>obtain⟨σ',H',I,q⟩:=h;exact⟨σ',H',I.unwish,q⟩
 | brk=>obtain⟨σ',H',I,q⟩:=h;exact⟨σ',H',I.unwish,q⟩
 | cont=>obtain⟨σ',H',I,q⟩:=h;exact⟨σ',H',I.unwish,q⟩
 | ret u=>obtain⟨v,σ',H',I,r,q⟩:=h;exact⟨v,σ',H',I.unwish,r,q⟩
theorem PSs.nox {st:List Stmt} {t:TS} (h:PSs X.nox st t):PSs X st t:=fun pins s σ H D I hw =>
 Ak (h pins s σ H D (I.wish _) hw) (fun _ _ q=>q.unwish) fun _ _ z=>False.elim z
end
section
variable {X:Cx} {st:Stmt} {rest:List Stmt} {t u:TS} {e:Expr} {te:TE} {pos:Pos}
def Dq:TS:=fun D σ H=>D.nx σ H
def z0 (t u:TS):TS:=fun D σ H=>t { D with nx:=u D } σ H
theorem aQ:PSs X [] Dq:=fun _ _ σ H _ I h=>Av ⟨σ,H,I,h⟩
theorem af (h1:PS X st t) (h2:PSs X rest u):PSs X (st::rest) (z0 t u):=by
 intro pins s σ H D I h;refine AX (b7 (h1 pins s σ H { D with nx:=u D } I h) fun f s1 q=>?_);cases f with
 | next =>
  obtain⟨σ',H',I',q⟩:=q;exact h2 pins s1 σ' H' D I' q
 | ret v=>exact q
 | brk=>exact q
 | cont=>exact q
theorem am (h1:PS X st t):PSs X [st] t:=by
 intro pins s σ H D I h;refine AX (b7 (h1 pins s σ H D I h) fun f s1 q=>?_);cases f with
 | next=>exact Av q
 | ret v=>exact q
 | brk=>exact q
 | cont=>exact q
theorem Inv.quiet {pins:List (Addr×Obj)} {σ:St} {H:Hp} {s:Shared} (I:Inv X pins σ H s):interactive X.env=false:=by simp[interactive,I.ok.kind]
def uw (te:TE):TS:=fun D σ H=>te σ H fun _ H1=>D.nx σ H1
theorem cy (he:PE X e te) (hs:swapsWith e none pos.line X.env=pure false:=by rfl):PS X (.Expr e pos) (uw te):=by
 intro pins s σ H D I h;exact By (b7 (he pins s σ H _ I h) fun v s1 ⟨x,H1,I1,r1,q1⟩=>⟨σ,H1,I1,q1⟩) I.quiet hs
def Es (te:TE):TS:=fun D σ H=>te σ H D.rt
theorem aP (he:PE X e te):PS X (.Return (some e) pos) (Es te):=by
 intro pins s σ H D I h;exact wpAny_Return_some (b7 (he pins s σ H _ I h) fun v s1 ⟨x,H1,I1,r1,q1⟩=>⟨x,σ,H1,I1,r1,q1⟩)
def Et (c:TT) (t u:TS):TS:=fun D σ H=>c σ H fun b H1=>if b=true then t D σ H1 else u D σ H1
theorem bD {c:Expr} {a b:List Stmt} {tc:TT} (hc:PT X c tc) (ha:PSs X a t) (hb:PSs X b u):PS X (.If c a b pos) (Et tc t u):=by
 intro pins s σ H D I h;refine wpAny_If (b7 (hc pins s σ H _ I h) fun d s1 zz9=>?_);obtain⟨H1,I1,q1⟩:=zz9;cases d with
 | true=>exact ha pins s1 σ H1 D I1 q1
 | false=>exact hb pins s1 σ H1 D I1 q1
def xj:TS:=fun _ _ _=>False
theorem xk:PS X st xj:=fun _ _ _ _ _ _ h=>h.elim
end
abbrev TG:=V->St->Hp->(St->Hp->Prop)->Prop
def PG (X:Cx) (target:Expr) (t:TG):Prop :=
 ∀(pins:List (Addr×Obj)) (s:Shared) (σ:St) (H:Hp) (v:V) (u:Value) (Q:St->Hp->Prop),Inv X pins σ H s->RelV v u->t v σ H Q ->
  wpAny (model X.prog X.w) X.A (assign target X.env u) (fun _ s'=>∃σ' H',Inv X pins σ' H' s'/\Q σ' H') X.xe s
abbrev xp:=V->V->V->Hp->(Hp->Prop)->Prop
def Eu (X:Cx) (t:xp):Prop :=
 ∀(pins:List (Addr×Obj)) (s:Shared) (σ:St) (H:Hp) (o i v:V) (ov iv u:Value) (Q:Hp->Prop),Inv X pins σ H s->RelV o ov->RelV i iv->RelV v u->t o i v H Q ->
  wpAny (model X.prog X.w) X.A (setItem ov iv u) (fun _ s'=>∃H',Inv X pins σ H' s'/\Q H') X.xe s
section
variable {X:Cx} {pos:Pos}
def jR (i:Nat):TG:=fun v σ H Q=>Q (σ.set i (some v)) H
theorem ux {i:Nat} {x:Str} (hN:X.N.Nodup) (hi:X.N[i]?=some x) (hx:Loc X.env.scope x) (hf:X.fn x=true∨X.env.scope.names.lookup x=some .local:=by first|exact .inl rfl|exact .inr rfl|assumption):PG X (.Name x pos) (jR i):=by
 intro pins s σ H v u Q I r h;exact wpAny_assign_Name (mU I hN hi hx r (fun s' I'=>⟨_,H,I',h⟩) hf)
def Hg (to ti:TE) (t:xp):TG:=fun v σ H Q=>to σ H fun o H1=>ti σ H1 fun i H2=>t o i v H2 fun H3=>Q σ H3
theorem jn {o i:Expr} {to ti:TE} {t:xp} (ho:PE X o to) (hi:PE X i ti) (hs:Eu X t)
  (ha:∀v,assign (.Subscript o i pos) X.env v=(do
   let ov ← holding [v] (eval o X.env)
   let iv ← holding [v,ov] (eval i X.env)
   standAt pos
   holding [v,ov,iv] (setItem ov iv v)
   release [v,ov,iv] []):=by intro _;rfl):PG X (.Subscript o i pos) (Hg to ti t):=by
 intro pins s σ H v u Q I r h;rw[ha];refine Aa (AW (b7 (ho pins s σ H _ I h) fun ov s1 zz9=>?_));obtain⟨x,H1,I1,r1,q1⟩:=zz9;refine Aa (AW (b7 (hi pins s1 σ H1 _ I1 q1) fun iv s2 zz9=>?_));obtain⟨y,H2,I2,r2,q2⟩:=zz9;refine Aa (AB (Aa (AW (b7 (hs pins s2 σ H2 x y v ov iv u _ I2 r1 r2 r q2) fun _ s3 zz9=>?_))));obtain⟨H3,I3,q3⟩:=zz9;exact wpAny_release ⟨σ,H3,I3,q3⟩
def v4 (te:TE) (g:TG):TS:=fun D σ H=>te σ H fun x H1=>g x σ H1 D.nx
theorem ib {tg e:Expr} {te:TE} {g:TG} (he:PE X e te) (hg:PG X tg g) (hs:swapsWithSole [tg] e pos.line X.env=pure false:=by rfl) (hw:swappedStores [tg] e X.env=pure none:=by rfl)
  (h1:(assignEach [tg] X.env).map (·.2)=[assign tg X.env]:=by rfl):PS X (.Assign [tg] e pos) (v4 te g):=by
 intro pins s σ H D I h;refine wpAny_Assign_stores (b7 (he pins s σ H _ I h) fun v s1 zz9=>?_) hs hw;obtain⟨x,H1,I1,r1,q1⟩:=zz9;rw[h1];exact b7 (hg pins s1 σ H1 x v _ I1 r1 q1) fun _ s2 q=>q
end
section
variable {X:Cx} {pos:Pos}
def xq (c:TT) (tb:TS):TS:=fun D σ H=>∃W:Nat->St->Hp->Prop,(∃m,W m σ H)/\∀m σ H,W m σ H ->
 c σ H fun b H1=>if b=true then ∃N:St->Hp->Prop,(∀σ' H',N σ' H'->∃m',m'<m/\W m' σ' H')/\tb { D with nx:=N,ct:=N,bk:=D.nx } σ H1 else D.nx σ H1
theorem rA {c:Expr} {body:List Stmt} {tc:TT} {tb:TS} (hp:PassesOwn (model X.prog X.w) X.A X.env X.xe) (hc:PT X c tc) (hb:PSs X body tb):PS X (.While c body [] pos) (xq tc tb):=by
 intro pins s σ H D I h;obtain⟨W,⟨m0,w0⟩,turn⟩:=h;refine wpAny_While (codeAny_whileLoop (fun n s'=>∃σ' H',Inv X pins σ' H' s'/\W n σ' H') ?_ m0 ⟨σ,H,I,w0⟩);rintro n s1 ⟨σ1,H1,I1,w1⟩;refine Ao hp (b7 (hc pins s1 σ1 H1 _ I1 (turn n σ1 H1 w1)) fun b s2 zz9=>?_);obtain⟨H2,I2,q2⟩:=zz9;cases b with
 | true =>
  obtain⟨N,hN,q2⟩:=q2;rw[Ad rfl];refine Ao hp (b7 (hb pins s2 σ1 H2 _ I2 q2) fun f s3 q3=>?_);cases f with
  | next =>
   obtain⟨σ3,H3,I3,n3⟩:=q3;obtain⟨m',hm,w3⟩:=hN σ3 H3 n3;exact⟨m',hm,σ3,H3,I3,w3⟩
  | cont =>
   obtain⟨σ3,H3,I3,n3⟩:=q3;obtain⟨m',hm,w3⟩:=hN σ3 H3 n3;exact⟨m',hm,σ3,H3,I3,w3⟩
  | brk=>exact q3
  | ret v=>exact q3
 | false =>
  rw[Ag Zd];exact Av ⟨σ1,H2,I2,q2⟩
end
structure It where
 go:Nat->Hp->Prop
 yld:Nat->Hp->V->Hp->Prop
 stop:Nat->Hp->Prop
def mZ (X:Cx) (pins:List (Addr×Obj)) (H:Hp) (b:Addr):Prop :=
 H b=none/\b≠X.env.locals/\b∉X.fs/\(b∈X.ex∨X.s₀.heap.objs.size<=b)/\(∀x c,X.env.cells.lookup x=some c->c≠b)/\∀p∈X.pn++pins,p.1≠b
theorem Inv.fpOk {X:Cx} {pins:List (Addr×Obj)} {σ:St} {H H':Hp} {s:Shared} {b:Addr} (I:Inv X pins σ H s) (hb:s.heap.objs.size<=b) (hn:H' b=none):mZ X pins H' b:=by
 refine⟨hn,Qj (Va I.lt hb),I.nofs hb,.inr (Qb I.sz hb),fun x c e z=>?_,fun p hp z=>?_⟩
 ·obtain⟨v,q⟩:=I.cell x c e;exact absurd (Va q.lt (by rw[z];exact hb)) (Ye _)
 ·exact absurd (Va (Ac (I.pin p hp).1) (by rw[z];exact hb)) (Ye _)
structure Turn (P:Program) (w:World) (K:PySem.W.Frag) (tg:Expr) (J:It) (fp:List Addr) (it:Addr) (tn:Nat->Heap->Prop):Prop where
 mem:it∈fp
 obj:∀i h,tn i h->∀b∈fp,∃o,h.get? b=some o/\∀v,o.data≠.cell v
 keep:∀i h h',tn i h->(∀b∈fp,∀o,h.get? b=some o->h'.get? b=some o)->tn i h'
 item:∀(X:Cx),X.prog=P->X.w=w->X.K=K->X.calm=true->∀(i:Nat) (pins:List (Addr×Obj)) (s:Shared) (σ:St) (H:Hp) (E:Value->Shared->Prop),Inv X pins σ H s->(∀b∈fp,mZ X pins H b)->tn i s.heap->J.go i H ->
  wpAny (model P w) X.A (pyNext (.ref it)) (fun r s1=>∃u,r=some u /\
   wpAny (model P w) X.A (letOwnedTupleGo tg (.ref it) u) (fun _ s2=>∃x H',Inv X pins σ H' s2/\RelV x u/\J.yld i H x H'/\tn (i+1) s2.heap/\∀b∈fp,H' b=none) E s1) E s
 done:∀(X:Cx),X.prog=P->X.w=w->X.K=K->X.calm=true->∀(i:Nat) (pins:List (Addr×Obj)) (s:Shared) (σ:St) (H:Hp) (E:Value->Shared->Prop),Inv X pins σ H s->(∀b∈fp,mZ X pins H b)->tn i s.heap->J.stop i H ->
  wpAny (model P w) X.A (pyNext (.ref it)) (fun r s1=>r=none/\Inv X pins σ H s1) E s
 self:∀(A:Around) (i:Nat) (s:Shared) (Q:Value->Shared->Prop) (E:Value->Shared->Prop),tn i s.heap->Q (.ref it) s->wpAny (model P w) A (pyIter (.ref it)) Q E s
abbrev TI:=St->Hp->(It->Hp->Prop)->Prop
inductive PIE (X:Cx) (pins:List (Addr×Obj)) (σ:St) (tg:Expr) (R:It->Hp->Prop) (itv:Value) (s2:Shared):Prop
 | mk (it:Addr) (fp:List Addr) (tn:Nat->Heap->Prop) (J:It) (H':Hp) (e:itv=.ref it) (I:Inv X pins σ H' s2) (T:Turn X.prog X.w X.K tg J fp it tn) (t0:tn 0 s2.heap) (fo:∀b∈fp,mZ X pins H' b) (r:R J H')
def PI (X:Cx) (tg iter:Expr) (wi:TI):Prop :=
 ∀(pins:List (Addr×Obj)) (s:Shared) (σ:St) (H:Hp) (R:It->Hp->Prop),Inv X pins σ H s->wi σ H R ->
  wpAny (model X.prog X.w) X.A (eval iter X.env) (fun v s1=>wpAny (model X.prog X.w) X.A (pyIter v) (PIE X pins σ tg R) X.xe s1) X.xe s
theorem oG {M : Model} {A : Around} {E : Value → Shared → Prop} {s : Shared} {tg : Expr} {it : Addr} {u : Value} {o : Obj} {n : String} {vs : Array Value} {Q : Unit → Shared → Prop} (ho : s.heap.get? it = some o) (hc : o.cls = .type n) (hd : o.data = .fields vs)
    (hn : ["enumerate", "zip", "dict_itemiterator", "dict_reverseitemiterator", "odict_iterator", "itertools.zip_longest", "itertools.pairwise"].contains n = false) (hQ : Q () s) : wpAny M A (letOwnedTupleGo tg (.ref it) u) Q E s := by
  unfold letOwnedTupleGo;cases tg <;> first
    | exact Ah hQ
    | (cases u <;> first
        | exact Ah hQ
        | (refine Aa (wpAny_load ho ?_)
           rw [hc, hd];show wpAny M A (if (["enumerate", "zip", "dict_itemiterator", "dict_reverseitemiterator", "odict_iterator", "itertools.zip_longest", "itertools.pairwise"].contains n && vs[0]? == some (rawInt _)) = true then _ else _) Q E s;rw [Ag (by intro h; rw [hn, Bool.false_and] at h; cases h)]
           exact Ah hQ))
def JE (K:PySem.W.Frag) (a:Addr):It :=
 ⟨fun i H=>∃xs x,hJ K H a xs/\xs[i]?=some x,fun i H x H'=>H'=H/\∀xs,hJ K H a xs->xs[i]?=some x,fun i H=>∃xs,hJ K H a xs/\xs.length<=i⟩
def JF (K:PySem.W.Frag) (a:Addr):It :=
 ⟨fun i H=>∃xs x,kJ K H a xs/\xs[i]?=some x,fun i H x H'=>H'=H/\∀xs,kJ K H a xs->xs[i]?=some x,fun i H=>∃xs,kJ K H a xs/\xs.length<=i⟩
def IR (lo:Int) (n:Nat):It:=⟨fun i _=>i<n,fun i H x H'=>H'=H/\x=.int (lo+i),fun i _=>n<=i⟩
theorem v5 {P:Program} {w:World} {K:PySem.W.Frag} {tg:Expr} (a it:Addr):Turn P w K tg (JE K a) [it] it (fun i h=>h.IsListIter it a i) where
 mem:=by simp
 obj:=fun i h st b hb=>by
  have e:b=it:=by simpa using hb
  subst e;obtain⟨o,e,c,d⟩:=st;exact⟨o,e,fun v z=>by rw[d]at z;cases z⟩
 keep:=fun i h h' st k=>st.at fun o e=>k it (by simp) o e
 item:=by
  intro X hP hw hK hc i pins s σ H E I hf st hg;subst hP hw hK;obtain⟨xs,x,hq,hx⟩:=hg;obtain⟨its,rv,p,hz⟩:=I.list hq;obtain⟨u,hu,ru⟩:=rv.get hx;obtain⟨f0,f1,f2,f3,f4,f5⟩:=hf it (by simp)
  refine wpAny_pyNext_list_item st p.isList (x:=u) (by simpa using hu) fun h' st' sb=>?_
  have I1:Inv X pins σ H { s with heap:=h' }:=I.turned (t':=s.toks) (fun b o hb e=>(sb.2 b hb).trans e) f0 f1 f3 f4 f5;obtain⟨o,e,c,d⟩:=id st';exact⟨u,rfl,oG (s:={ s with heap:=h' }) e c d (by decide) ⟨x,H,I1,ru,⟨rfl,fun ys hy=>by rw[I.list_inj hy hq];exact hx⟩,st',fun b hb=>(hf b hb).1⟩⟩
 done:=by
  intro X hP hw hK hc i pins s σ H E I hf st hg;subst hP hw hK;obtain⟨xs,hq,hx⟩:=hg;obtain⟨its,rv,p,hz⟩:=I.list hq;obtain⟨f0,f1,f2,f3,f4,f5⟩:=hf it (by simp)
  have hl:=rv.length;exact wpAny_pyNext_list_end (I.ok.hd hc) st p.isList (by simp;lia) fun h' eb=>⟨rfl,I.turned (t':=s.toks) (fun b o hb e=>eb b o hb e) f0 f1 f3 f4 f5⟩
 self:=fun _ _ _ _ _ st h=>wpAny_pyIter_listiter st h
theorem sZ {P:Program} {w:World} {K:PySem.W.Frag} {tg:Expr} (a it:Addr):Turn P w K tg (JF K a) [it] it (fun i h=>h.IsTupleIter it a i) where
 mem:=by simp
 obj:=fun i h st b hb=>by
  have e:b=it:=by simpa using hb
  subst e;obtain⟨o,e,c,d⟩:=st;exact⟨o,e,fun v z=>by rw[d]at z;cases z⟩
 keep:=fun i h h' st k=>st.at fun o e=>k it (by simp) o e
 item:=by
  intro X hP hw hK hc i pins s σ H E I hf st hg;subst hP hw hK;obtain⟨xs,x,hq,hx⟩:=hg;obtain⟨its,rv,p,hz⟩:=I.tuple hq;obtain⟨u,hu,ru⟩:=rv.get hx;obtain⟨f0,f1,f2,f3,f4,f5⟩:=hf it (by simp)
  refine wpAny_pyNext_tuple_item st (show s.heap.IsTuple a its.toArray from p) (x:=u) (by simpa using hu) fun h' st' sb=>?_
  have I1:Inv X pins σ H { s with heap:=h' }:=I.turned (t':=s.toks) (fun b o hb e=>(sb.2 b hb).trans e) f0 f1 f3 f4 f5;obtain⟨o,e,c,d⟩:=id st';exact⟨u,rfl,oG (s:={ s with heap:=h' }) e c d (by decide) ⟨x,H,I1,ru,⟨rfl,fun ys hy=>by rw[I.tuple_inj hy hq];exact hx⟩,st',fun b hb=>(hf b hb).1⟩⟩
 done:=by
  intro X hP hw hK hc i pins s σ H E I hf st hg;subst hP hw hK;obtain⟨xs,hq,hx⟩:=hg;obtain⟨its,rv,p,hz⟩:=I.tuple hq;obtain⟨f0,f1,f2,f3,f4,f5⟩:=hf it (by simp)
  have hl:=rv.length;exact wpAny_pyNext_tuple_end (I.ok.hd hc) st (show s.heap.IsTuple a its.toArray from p) (by simp;lia) fun h' eb=>⟨rfl,I.turned (t':=s.toks) (fun b o hb e=>eb b o hb e) f0 f1 f3 f4 f5⟩
 self:=fun _ _ _ _ _ st h=>wpAny_pyIter_tupleiter st h
theorem s9 {P:Program} {w:World} {K:PySem.W.Frag} {tg:Expr} (it:Addr) (lo:Int) (n:Nat):Turn P w K tg (IR lo n) [it] it (fun i h=>IsRangeIter h it (lo+(i:Nat)*1) ((n:Int)-(i:Nat)) 1) where
 mem:=by simp
 obj:=fun i h st b hb=>by
  have e:b=it:=by simpa using hb
  subst e
  exact⟨_,st,fun v z=>by
   have z':Data.fields _=Data.cell v:=z
   cases z'⟩
 keep:=fun i h h' st k=>k it (by simp) _ st
 item:=by
  intro X hP hw hK hc i pins s σ H E I hf st hg;subst hP hw hK;obtain⟨f0,f1,f2,f3,f4,f5⟩:=hf it (by simp)
  have W:=Walks.range (prog:=X.prog) (w:=X.w) (I.ok.hd hc) it lo 1 n;refine bu (W.item i s _ _ hg st fun v h' tk hv st' kk hle=>?_);have hle:s.toks<=tk:=hle;obtain⟨t,rfl⟩:=hv;have I1:Inv X pins σ H { s with heap:=h',toks:=tk }:=I.turned (fun b o hb e=>kk b o (by simpa using hb) e) f0 f1 f3 f4 f5
  refine⟨_,rfl,oG (s:={ s with heap:=h',toks:=tk }) (n:="range_iterator") st' rfl rfl (by decide) ⟨.int (lo+i),H,I1,⟨t,?_⟩,⟨rfl,rfl⟩,st',fun b hb=>(hf b hb).1⟩⟩
  rw[Int.mul_one]
 done:=by
  intro X hP hw hK hc i pins s σ H E I hf st hg;subst hP hw hK;obtain⟨f0,f1,f2,f3,f4,f5⟩:=hf it (by simp)
  exact wpAny_pyNext_range_end (I.ok.hd hc) st (by have:n<=i:=hg;lia) fun h' eb=>⟨rfl,I.turned (t':=s.toks) (fun b o hb e=>eb b o hb e) f0 f1 f3 f4 f5⟩
 self:=fun _ _ _ _ _ st h=>wpAny_pyIter_rangeiter st h
end L2
namespace L2
open PySem PySem.Spec PyProof.Rows
section
variable {X:Cx} {tg:Expr}
def uz (K:PySem.W.Frag) (tl:TE):TI:=fun σ H R=>tl σ H fun x H1=>∃a,x=.ref a/\(∃xs,hJ K H1 a xs)/\R (JE K a) H1
def Ev (K:PySem.W.Frag) (tl:TE):TI:=fun σ H R=>tl σ H fun x H1=>∃a,x=.ref a/\(∃xs,kJ K H1 a xs)/\R (JF K a) H1
theorem z3 {l:Expr} {tl:TE} (hl:PE X l tl):PI X tg l (uz X.K tl):=by
 intro pins s σ H R I h;refine b7 (hl pins s σ H _ I h) fun v s1 zz9=>?_;obtain⟨x,H1,I1,r1,q1⟩:=zz9;obtain⟨a,e,⟨xs,hq⟩,q⟩:=q1;subst e;cases r1;obtain⟨its,rv,p,hz⟩:=I1.list hq;refine wpAny_pyIter_list p.isList ?_;refine⟨s1.heap.objs.size,[s1.heap.objs.size],_,_,H1,rfl,I1.kept (t':=s1.toks) fun b o e=>Ab _ e,v5 a _,⟨_,Aj _ rfl,rfl,rfl⟩,fun b hb=>?_,q⟩;have e:b=s1.heap.objs.size:=by simpa using hb
 subst e;exact I1.fpOk (Wa _) (I1.hok.fresh (Wa _))
theorem Ew {l:Expr} {tl:TE} (hl:PE X l tl):PI X tg l (Ev X.K tl):=by
 intro pins s σ H R I h;refine b7 (hl pins s σ H _ I h) fun v s1 zz9=>?_;obtain⟨x,H1,I1,r1,q1⟩:=zz9;obtain⟨a,e,⟨xs,hq⟩,q⟩:=q1;subst e;cases r1;obtain⟨its,rv,p,hz⟩:=I1.tuple hq;refine wpAny_pyIter_tuple (show s1.heap.IsTuple a its.toArray from p) ?_;refine⟨s1.heap.objs.size,[s1.heap.objs.size],_,_,H1,rfl,I1.kept (t':=s1.toks) fun b o e=>Ab _ e,sZ a _,⟨_,Aj _ rfl,rfl,rfl⟩,fun b hb=>?_,q⟩;have e:b=s1.heap.objs.size:=by simpa using hb
 subst e;exact I1.fpOk (Wa _) (I1.hok.fresh (Wa _))
theorem xu {pins:List (Addr×Obj)} {σ:St} {H:Hp} {s:Shared} {R:It->Hp->Prop} {E:Value->Shared->Prop} {lo hi:Int} {t u v:Tok} {tk:Nat} (I:Inv X pins σ H s) (h1:-(2 ^ 62)<=lo) (h2:lo<2 ^ 62) (h3:-(2 ^ 62)<=hi) (h4:hi<2 ^ 62) (ht:0<tk)
  (q:R (IR lo (hi-lo).toNat) H):wpAny (model X.prog X.w) X.A (pyIter (.ref s.heap.objs.size)) (PIE X pins σ tg R) E { s with heap:=s.heap.push { cls:=.type "range",data:=.fields #[.int lo t,.int hi u,.int 1 v] },toks:=tk }:=by
 refine wpAny_pyIter_range (IsRange.new ..) (small_one h1 h2 h3 h4) ?_;have I1:Inv X pins σ H { s with heap:=s.heap.push { cls:=.type "range",data:=.fields #[.int lo t,.int hi u,.int 1 v] },toks:=tk }:=I.kept fun b o e=>Ab _ e
 refine⟨(s.heap.push { cls:=.type "range",data:=.fields #[.int lo t,.int hi u,.int 1 v] }).objs.size,[(s.heap.push { cls:=.type "range",data:=.fields #[.int lo t,.int hi u,.int 1 v] }).objs.size],_,_,H,rfl,
  I1.kept (t':=tk) fun b o e=>Ab _ e,s9 _ lo (hi-lo).toNat,?_,fun b hb=>?_,q⟩
 ·have e1:lo+((0:Nat):Int)*1=lo:=by simp
  have e2:(((hi-lo).toNat:Nat):Int)-((0:Nat):Int)=Builtin.Range.rangeSize lo hi 1:=by rw[rangeSize_one];split<;>lia
  show IsRangeIter _ _ (lo+((0:Nat):Int)*1) ((((hi-lo).toNat:Nat):Int)-((0:Nat):Int)) 1;rw[e1,e2];exact Aj _ rfl
 ·have e:b=(s.heap.push { cls:=.type "range",data:=.fields #[.int lo t,.int hi u,.int 1 v] }).objs.size:=by simpa using hb
  subst e;exact I1.fpOk (Wa _) (I1.hok.fresh (Wa _))
def Dr (ta:TA):TI:=fun σ H R=>ta σ H fun vs H1=>∃j:Int,vs=[.int j]/\-(2 ^ 62)<=j/\j<2 ^ 62/\R (IR 0 j.toNat) H1
theorem iP {a:Expr} {ta:TA} {p pos:Pos} (hg:Gl X "range") (hm:X.mg "range"=none) (ha:PA X [a] ta) (hs:starEach [a] X.env=[(false,eval a X.env)]:=by rfl):PI X tg (.Call (.Name "range" p) [a] [] pos) (Dr ta):=by
 intro pins s σ H R I h;refine Call_ (pP I hg hm boot_range (Bx (b7 (ha pos pins s σ H _ I h) fun us s1 zz9=>?_) hs rfl));obtain⟨vs,H1,I1,r1,q1⟩:=zz9;obtain⟨j,e,q1,q2,q⟩:=q1;subst e;cases r1 with
 | cons r rr =>
  cases rr;obtain⟨t,rfl⟩:=r;exact call_range_1 (xu I1 (by lia) (by lia) q1 q2 (Va I1.tk (by first|exact Wa _|lia)) (by simpa using q))
def Ey (wi:TI) (g:TG) (tb:TS):TS:=fun D σ H=>wi σ H fun J H1=>∃W:Nat->Nat->St->Hp->Prop,(∃m,W 0 m σ H1)/\∀i m σ H,W i m σ H ->
 (J.stop i H/\D.nx σ H)∨(J.go i H/\∃N:St->Hp->Prop,(∀σ' H',N σ' H'->∃m',m'<m/\W (i+1) m' σ' H')/\∀x H',J.yld i H x H'->g x σ H' fun σ2 H2=>tb { D with nx:=N,ct:=N,bk:=D.nx } σ2 H2)
def kK (fp:List Addr) (h:Heap):List (Addr×Obj):=fp.filterMap fun b=>(h.get? b).map fun o=>(b,o)
theorem cY {fp:List Addr} {h:Heap} {b:Addr} {o:Obj} (hb:b∈fp) (e:h.get? b=some o):(b,o)∈kK fp h:=List.mem_filterMap.mpr ⟨b,hb,by rw[e];rfl⟩
theorem v6 {fp:List Addr} {h:Heap} {p:Addr×Obj} (hp:p∈kK fp h):p.1∈fp/\h.get? p.1=some p.2:=by
 obtain⟨b,hb,e⟩:=List.mem_filterMap.mp hp;cases q:h.get? b with
 | none=>rw[q]at e;cases e
 | some o =>
  rw[q]at e;have e':(b,o)=p:=Option.some.inj e;subst e';exact⟨hb,q⟩
theorem Inv.pinned {pins:List (Addr×Obj)} {σ:St} {H:Hp} {s:Shared} {fp:List Addr} (I:Inv X pins σ H s) (hf:∀b∈fp,mZ X pins H b) (ho:∀b∈fp,∃o,s.heap.get? b=some o/\∀v,o.data≠.cell v):Inv X (pins++kK fp s.heap) σ H s :=
 I.pins_of fun p hp=>(Vd.mp hp).elim (fun z=>I.pin p (Xd _ z)) fun z=>by
  obtain⟨hb,e⟩:=v6 z;obtain⟨f0,f1,f2,_⟩:=hf p.1 hb;obtain⟨o,e',d⟩:=ho p.1 hb;rw[e]at e';cases e';exact⟨e,f0,f1,f2,d⟩
theorem Inv.unpinned {pins pl:List (Addr×Obj)} {σ:St} {H:Hp} {s:Shared} (I:Inv X (pins++pl) σ H s):Inv X pins σ H s:=I.pins_of fun p hp=>I.pin p (Xd _ (Wi _ hp))
theorem gF {iter:Expr} {body:List Stmt} {wi:TI} {g:TG} {tb:TS} {pos:Pos} (hp:PassesOwn (model X.prog X.w) X.A X.env X.xe) (hc:X.calm=true) (hi:PI X tg iter wi) (hg:PG X tg g) (hb:PSs X body tb)
  (hs:∀x,foldedSetIterable iter X.env x=pure x:=by intro _;rfl):PS X (.For tg iter body [] pos) (Ey wi g tb):=by
 intro pins s σ H D I h;refine wpAny_For (b7 (hi pins s σ H _ I h) fun v s1 h1=>b7 h1 fun itv s2 h2=>?_) hs;obtain⟨it,fp,tn,J,H2,e,I2,T,st2,f2,W,⟨m0,w0⟩,turn⟩:=h2;subst e;have stat:∀{H':Hp},(∀b∈fp,H' b=none)->∀b∈fp,mZ X pins H' b:=fun hn b hb=>⟨hn b hb,(f2 b hb).2⟩;refine codeAny_forLoop_any (fun n s'=>∃i σ' H',Inv X pins σ' H' s'/\tn i s'.heap/\(∀b∈fp,H' b=none)/\W i n σ' H') ?_ m0 ⟨0,σ,H2,I2,st2,fun b hb=>(f2 b hb).1,w0⟩;rintro n s3 ⟨i,σ3,H3,I3,st3,fr3,w3⟩;rcases turn i n σ3 H3 w3 with⟨stop,qn⟩|⟨go,N,hN,step⟩
 ·refine Ao hp (b7 (T.done X rfl rfl rfl hc i pins s3 σ3 H3 X.xe I3 (stat fr3) st3 stop) fun r s4 zz9=>?_);obtain⟨hr,I4⟩:=zz9;subst hr;exact Av ⟨σ3,H3,I4,qn⟩
 ·refine Ao hp (b7 (T.item X rfl rfl rfl hc i pins s3 σ3 H3 X.xe I3 (stat fr3) st3 go) fun r s4 zz9=>?_);obtain⟨u,hr,h4⟩:=zz9;subst hr;refine Ao hp (b7 h4 fun _ s5 zz9=>?_);obtain⟨x,H5,I5,r5,y5,st5,fr5⟩:=zz9;have I5':=I5.pinned (stat fr5) (T.obj _ _ st5);refine Ao hp (b7 (hg _ s5 σ3 H5 x u _ I5' r5 (step x H5 y5)) fun _ s6 zz9=>?_);obtain⟨σ6,H6,I6,q6⟩:=zz9;refine Ao hp (b7 (hb _ s6 σ6 H6 _ I6 q6) fun f s7 q7=>?_);have again:∀{σ7:St} {H7:Hp},Inv X (pins++kK fp s5.heap) σ7 H7 s7->N σ7 H7->∃m,m<n/\∃i σ' H',Inv X pins σ' H' s7/\tn i s7.heap/\(∀b∈fp,H' b=none)/\W i m σ' H':=fun {σ7 H7} I7 n7=>by
   obtain⟨m',hm,w7⟩:=hN σ7 H7 n7;refine⟨m',hm,i+1,σ7,H7,I7.unpinned,T.keep _ _ _ st5 fun b hb o e=>(I7.pin (b,o) (Xd _ (Xd _ (cY hb e)))).1,fun b hb=>?_,w7⟩;obtain⟨o,e,d⟩:=T.obj _ _ st5 b hb;exact(I7.pin (b,o) (Xd _ (Xd _ (cY hb e)))).2.1
  cases f with
  | next=>obtain⟨σ7,H7,I7,n7⟩:=q7;exact again I7 n7
  | cont=>obtain⟨σ7,H7,I7,n7⟩:=q7;exact again I7 n7
  | brk=>obtain⟨σ7,H7,I7,q7⟩:=q7;exact⟨σ7,H7,I7.unpinned,q7⟩
  | ret v=>obtain⟨x7,σ7,H7,I7,r7,q7⟩:=q7;exact⟨x7,σ7,H7,I7.unpinned,r7,q7⟩
end
end L2
namespace L2
open PySem PySem.Spec PyProof.Rows
abbrev R2:=V->V->Hp->VK->Prop
def OpR (X:Cx) (f:Value->Value->Sem Value) (r:R2):Prop :=
 ∀(pins:List (Addr×Obj)) (s:Shared) (σ:St) (H:Hp) (x y:V) (v u:Value) (Q:VK),Inv X pins σ H s->RelV x v->RelV y u->r x y H Q ->
  wpAny (model X.prog X.w) X.A (f v u) (EP X pins σ Q) X.xe s
def Jh (X:Cx) (f:Value->Sem Value) (r:V->Hp->VK->Prop):Prop :=
 ∀(pins:List (Addr×Obj)) (s:Shared) (σ:St) (H:Hp) (x:V) (v:Value) (Q:VK),Inv X pins σ H s->RelV x v->r x H Q ->
  wpAny (model X.prog X.w) X.A (f v) (EP X pins σ Q) X.xe s
def CallR (X:Cx) (f:Value) (r:List V->Hp->VK->Prop):Prop :=
 ∀(pins:List (Addr×Obj)) (s:Shared) (σ:St) (H:Hp) (xs:List V) (us:List Value) (Q:VK),Inv X pins σ H s->Vals xs us->r xs H Q ->
  wpAny (model X.prog X.w) X.A (call f us) (EP X pins σ Q) X.xe s
def w5 (r:R2) (ta tb:TE):TE:=fun σ H Q=>ta σ H fun x H1=>tb σ H1 fun y H2=>r x y H2 Q
def JG (r:V->Hp->VK->Prop) (ta:TE):TE:=fun σ H Q=>ta σ H fun x H1=>r x H1 Q
def rI (C:Int->Int->Prop) (g:Int->Int->V):R2:=fun x y H Q=>∃i j,x=.int i/\y=.int j/\C i j/\Q (g i j) H
def tf (g:Int->Int->V):R2:=fun x y H Q=>∃i j,x=.int i/\y=.int j/\Q (g i j) H
def rU (g:Int->V):V->Hp->VK->Prop:=fun x H Q=>∃i,x=.int i/\Q (g i) H
section
variable {X:Cx} {a b c:Expr} {ta tb tc:TE} {pos:Pos}
theorem Ez (ha:PE X a ta) (hb:PE X b tb) {pins:List (Addr×Obj)} {s:Shared} {σ:St} {H:Hp} {R:V->V->Hp->Prop} (I:Inv X pins σ H s)
  (h:ta σ H fun x H1=>tb σ H1 fun y H2=>R x y H2) {Q:Value->Shared->Prop} {f:Value->Value->Sem Value}
  (hf:∀v u s2 x y H2,Inv X pins σ H2 s2->RelV x v->RelV y u->R x y H2->wpAny (model X.prog X.w) X.A (f v u) Q X.xe s2) :
  wpAny (model X.prog X.w) X.A (eval a X.env) (fun v s₁=>wpAny (model X.prog X.w) X.A (eval b X.env) (fun u s₂=>wpAny (model X.prog X.w) X.A (f v u) Q X.xe s₂) X.xe s₁) X.xe s:=by
 refine b7 (ha pins s σ H _ I h) fun v s1 zz9=>?_;obtain⟨x,H1,I1,r1,q1⟩:=zz9;refine b7 (hb pins s1 σ H1 _ I1 q1) fun u s2 zz9=>?_;obtain⟨y,H2,I2,r2,q2⟩:=zz9;exact hf v u s2 x y H2 I2 r1 r2 q2
theorem ce {op:Operator} {r:R2} (ho:OpR X (binaryOp op) r) (ha:PE X a ta) (hb:PE X b tb):PE X (.BinOp a op b pos) (w5 r ta tb):=by
 intro pins s σ H Q I h;exact wpAny_BinOp (Ez ha hb I h fun v u s2 x y H2 I2 rx ry q=>ho pins s2 σ H2 x y v u Q I2 rx ry q)
theorem oH {op:UnaryOp} {r:V->Hp->VK->Prop} (ho:Jh X (unaryOp op) r) (ha:PE X a ta):PE X (.UnaryOp op a pos) (JG r ta):=by
 intro pins s σ H Q I h;exact UnaryOp_ (b7 (ha pins s σ H _ I h) fun v s1 ⟨x,H1,I1,r1,q1⟩=>ho pins s1 σ H1 x v Q I1 r1 q1)
theorem IS {f:Value->Value->Sem Value} {C:Int->Int->Prop} {g:Int->Int->Int}
  (rule:∀(i j:Int) (t u:Tok) (s:Shared) (Q:Value->Shared->Prop) (E:Value->Shared->Prop),C i j->Q (.int (g i j) s.toks) { s with toks:=s.toks+1 }->wpAny (model X.prog X.w) X.A (f (.int i t) (.int j u)) Q E s) :
  OpR X f (rI C fun i j=>.int (g i j)):=by
 intro pins s σ H x y v u Q I rx ry h;obtain⟨i,j,rfl,rfl,hc,q⟩:=h;obtain⟨t,rfl⟩:=rx;obtain⟨t',rfl⟩:=ry;exact rule i j t t' s _ _ hc ⟨.int (g i j),H,I.tok _,⟨_,rfl⟩,q⟩
theorem Ji {f:Value->Value->Sem Value} {g:Int->Int->Int}
  (rule:∀(i j:Int) (t u:Tok) (s:Shared) (Q:Value->Shared->Prop) (E:Value->Shared->Prop),Q (.int (g i j) s.toks) { s with toks:=s.toks+1 }->wpAny (model X.prog X.w) X.A (f (.int i t) (.int j u)) Q E s) :
  OpR X f (tf fun i j=>.int (g i j)):=by
 intro pins s σ H x y v u Q I rx ry h;obtain⟨i,j,rfl,rfl,q⟩:=h;obtain⟨t,rfl⟩:=rx;obtain⟨t',rfl⟩:=ry;exact rule i j t t' s _ _ ⟨.int (g i j),H,I.tok _,⟨_,rfl⟩,q⟩
theorem z4 {f:Value->Value->Sem Value} {g:Int->Int->Bool}
  (rule:∀(i j:Int) (t u:Tok) (s:Shared) (Q:Value->Shared->Prop) (E:Value->Shared->Prop),Q (.bool (g i j)) s->wpAny (model X.prog X.w) X.A (f (.int i t) (.int j u)) Q E s) :
  OpR X f (tf fun i j=>.bl (g i j)):=by
 intro pins s σ H x y v u Q I rx ry h;obtain⟨i,j,rfl,rfl,q⟩:=h;obtain⟨t,rfl⟩:=rx;obtain⟨t',rfl⟩:=ry;exact rule i j t t' s _ _ ⟨.bl (g i j),H,I,rfl,q⟩
def tj (i j:Int):Prop:=0<j/\j<1073741824
def xv (i j:Int):Prop:=0<=j/\j<=1000000/\i.natAbs<2 ^ 64
def CMul (i j:Int):Prop:=(-(2 ^ 64)<i/\i<2 ^ 64)∨(-(2 ^ 64)<j/\j<2 ^ 64)
theorem CMul.ok {i j:Int} (h:CMul i j):IntMulOk i j:=by
 rcases h with⟨h1,h2⟩|⟨h1,h2⟩
 ·exact .of_left (intBits_le_64 h1 h2)
 ·exact .of_right (intBits_le_64 h1 h2)
theorem op_add:OpR X (binaryOp .Add) (tf fun i j=>.int (i+j)):=Ji fun _ _ _ _ _ _ _ q=>add_int q
theorem op_mul:OpR X (binaryOp .Mult) (rI CMul fun i j=>.int (i*j)):=IS fun _ _ _ _ _ _ _ hc q=>mul_int q hc.ok
theorem mx:OpR X (binaryOp .FloorDiv) (rI tj fun i j=>.int (i / j)):=IS fun i j _ _ _ _ _ hc q=>by
 have h1:(0:Int)<j:=hc.1;have h2:j<1073741824:=hc.2;exact floordiv_int (by lia) (by rw[Int.fdiv_eq_ediv_of_nonneg i (by lia)];exact q) (.inl (PyProof.noPylong_small (by lia)))
theorem ie:OpR X (binaryOp .Mod) (rI (fun _ j=>0<j) fun i j=>.int (i % j)):=IS fun i j _ _ _ _ _ hc q=>by
 have h1:(0:Int)<j:=hc;exact mod_int' (by lia) (by rw[Int.fmod_eq_emod_of_nonneg i (by lia)];exact q)
theorem EA:OpR X (binaryOp .Pow) (rI xv fun i j=>.int (i ^ j.toNat)):=IS fun _ _ _ _ _ _ _ hc q=>pow_int_small hc.1 hc.2.1 hc.2.2 q
theorem JV {f:Value->Sem Value} {g:Int->Int}
  (rule:∀(i:Int) (t:Tok) (s:Shared) (Q:Value->Shared->Prop) (E:Value->Shared->Prop),Q (.int (g i) s.toks) { s with toks:=s.toks+1 }->wpAny (model X.prog X.w) X.A (f (.int i t)) Q E s) :
  Jh X f (rU fun i=>.int (g i)):=by
 intro pins s σ H x v Q I rx h;obtain⟨i,rfl,q⟩:=h;obtain⟨t,rfl⟩:=rx;exact rule i t s _ _ ⟨.int (g i),H,I.tok _,⟨_,rfl⟩,q⟩
theorem kL:Jh X (unaryOp .USub) (rU fun i=>.int (-i)):=JV fun _ _ _ _ _ q=>neg_int q
end
def EB:V->V->Bool
 | .non,.non=>true|.non,.int _=>true|.int _,.non=>true|.non,.bl _=>true|.bl _,.non=>true|.non,.str _=>true|.str _,.non=>true
 | .int _,.int _=>true|.bl _,.bl _=>true|.str _,.str _=>true|.byt _,.byt _=>true
 | .int _,.str _=>true|.str _,.int _=>true|.bl _,.str _=>true|.str _,.bl _=>true
 | _,_=>false
def Jj:R2:=fun x y H Q=>EB x y=true/\Q (.bl (decide (x=y))) H
def Jk:R2:=fun x y H Q=>EB x y=true/\Q (.bl (!decide (x=y))) H
theorem uA {i j:Int}:decide (V.int i=V.int j)=(i == j):=by
 rw[Vf];simp
theorem xw {i j:Bool}:decide (V.bl i=V.bl j)=(i == j):=by
 rw[Vf];simp
theorem uB {i j:Str}:decide (V.str i=V.str j)=(i == j):=by
 rw[Vf];simp
theorem uC {i j:Array UInt8}:decide (V.byt i=V.byt j)=(i.toList == j.toList):=by
 rw[Vf];cases i;cases j;simp
section
variable {X:Cx} {a b c:Expr} {ta tb tc:TE} {pos:Pos}
theorem bc {pins:List (Addr×Obj)} {σ:St} {H:Hp} {s:Shared} {Q:VK} {k k':Bool} (I:Inv X pins σ H s) (q:Q (.bl k) H) (e:k=k'):EP X pins σ Q (.bool k') s:=by
 subst e;exact⟨.bl k,H,I,rfl,q⟩
theorem hU:OpR X (compareOp .Eq) Jj:=by
 intro pins s σ H x y v u Q I rx ry h;obtain⟨hs,q⟩:=h;cases x with
 | non =>
  cases rx;cases y with
  | non=>cases ry;exact PySem.EqNone.eq_none_none (bc I q (by simp))
  | bl j=>cases ry;exact PySem.EqNone.eq_none_bool (bc I q (by simp))
  | int j=>obtain⟨t',rfl⟩:=ry;exact PySem.EqNone.eq_none_int (bc I q (by simp))
  | str j=>obtain⟨t',rfl⟩:=ry;exact PySem.EqNone.eq_none_str (bc I q (by simp))
  | _=>exact absurd (show false=true from hs) Zd
 | bl i =>
  cases rx;cases y with
  | non=>cases ry;exact PySem.EqNone.eq_bool_none (bc I q (by simp))
  | bl j=>cases ry;exact eq_bool (bc I q xw)
  | str j=>obtain⟨t',rfl⟩:=ry;exact PySem.EqMixed.eq_bool_str (bc I q (by simp))
  | _=>exact absurd (show false=true from hs) Zd
 | int i =>
  obtain⟨t,rfl⟩:=rx;cases y with
  | non=>cases ry;exact PySem.EqNone.eq_int_none (bc I q (by simp))
  | int j=>obtain⟨t',rfl⟩:=ry;exact eq_int (bc I q uA)
  | str j=>obtain⟨t',rfl⟩:=ry;exact PySem.EqMixed.eq_int_str (bc I q (by simp))
  | _=>exact absurd (show false=true from hs) Zd
 | str i =>
  obtain⟨t,rfl⟩:=rx;cases y with
  | non=>cases ry;exact PySem.EqNone.eq_str_none (bc I q (by simp))
  | bl j=>cases ry;exact PySem.EqMixed.eq_str_bool (bc I q (by simp))
  | int j=>obtain⟨t',rfl⟩:=ry;exact PySem.EqMixed.eq_str_int (bc I q (by simp))
  | str j=>obtain⟨t',rfl⟩:=ry;exact eq_str (bc I q uB)
  | _=>exact absurd (show false=true from hs) Zd
 | byt i =>
  obtain⟨t,rfl⟩:=rx;cases y with
  | byt j=>obtain⟨t',rfl⟩:=ry;exact PySem.W.eq_bytes (bc I q uC)
  | _=>exact absurd (show false=true from hs) Zd
 | _=>cases y<;>exact absurd (show false=true from hs) Zd
theorem op_ne:OpR X (compareOp .NotEq) Jk:=by
 intro pins s σ H x y v u Q I rx ry h;obtain⟨hs,q⟩:=h;cases x with
 | non =>
  cases rx;cases y with
  | non=>cases ry;exact PySem.EqNone.ne_none_none (bc I q (by simp))
  | bl j=>cases ry;exact PySem.EqNone.ne_none_bool (bc I q (by simp))
  | int j=>obtain⟨t',rfl⟩:=ry;exact PySem.EqNone.ne_none_int (bc I q (by simp))
  | str j=>obtain⟨t',rfl⟩:=ry;exact PySem.EqNone.ne_none_str (bc I q (by simp))
  | _=>exact absurd (show false=true from hs) Zd
 | bl i =>
  cases rx;cases y with
  | non=>cases ry;exact PySem.EqNone.ne_bool_none (bc I q (by simp))
  | bl j=>cases ry;exact ne_bool (bc I q (congrArg not xw))
  | str j=>obtain⟨t',rfl⟩:=ry;exact PySem.EqMixed.ne_bool_str (bc I q (by simp))
  | _=>exact absurd (show false=true from hs) Zd
 | int i =>
  obtain⟨t,rfl⟩:=rx;cases y with
  | non=>cases ry;exact PySem.EqNone.ne_int_none (bc I q (by simp))
  | int j=>obtain⟨t',rfl⟩:=ry;exact ne_int (bc I q (congrArg not uA))
  | str j=>obtain⟨t',rfl⟩:=ry;exact PySem.EqMixed.ne_int_str (bc I q (by simp))
  | _=>exact absurd (show false=true from hs) Zd
 | str i =>
  obtain⟨t,rfl⟩:=rx;cases y with
  | non=>cases ry;exact PySem.EqNone.ne_str_none (bc I q (by simp))
  | bl j=>cases ry;exact PySem.EqMixed.ne_str_bool (bc I q (by simp))
  | int j=>obtain⟨t',rfl⟩:=ry;exact PySem.EqMixed.ne_str_int (bc I q (by simp))
  | str j=>obtain⟨t',rfl⟩:=ry;exact ne_str (bc I q (congrArg not uB))
  | _=>exact absurd (show false=true from hs) Zd
 | byt i =>
  obtain⟨t,rfl⟩:=rx;cases y with
  | byt j=>obtain⟨t',rfl⟩:=ry;exact PySem.W.ne_bytes (bc I q (congrArg not uC))
  | _=>exact absurd (show false=true from hs) Zd
 | _=>cases y<;>exact absurd (show false=true from hs) Zd
theorem op_lt:OpR X (compareOp .Lt) (tf fun i j=>.bl (decide (i<j))):=z4 fun _ _ _ _ _ _ _ q=>lt_int q
theorem Ds:OpR X (compareOp .LtE) (tf fun i j=>.bl (decide (i<=j))):=z4 fun _ _ _ _ _ _ _ q=>le_int q
theorem Hh:OpR X (compareOp .Gt) (tf fun i j=>.bl (decide (j<i))):=z4 fun _ _ _ _ _ _ _ q=>gt_int q
theorem Hi:OpR X (compareOp .GtE) (tf fun i j=>.bl (decide (j<=i))):=z4 fun _ _ _ _ _ _ _ q=>ge_int q
theorem v7:OpR X (compareOp .Lt) (fun x y H Q=>∃i j,x=.str i/\y=.str j/\Q (.bl (decide (i.cps.toList<j.cps.toList))) H):=by
 intro pins s σ H x y v u Q I rx ry h;obtain⟨i,j,rfl,rfl,q⟩:=h;obtain⟨t,rfl⟩:=rx;obtain⟨t',rfl⟩:=ry;exact lt_str (bc I q rfl)
theorem op_in_str:OpR X (compareOp .In) (fun x y H Q=>∃i j,x=.str i/\y=.str j/\Q (.bl (!(Builtin.Str.occurrences j i 0 j.length 1).isEmpty)) H):=by
 intro pins s σ H x y v u Q I rx ry h;obtain⟨i,j,rfl,rfl,q⟩:=h;obtain⟨t,rfl⟩:=rx;obtain⟨t',rfl⟩:=ry;exact in_str (bc I q rfl)
theorem xy:OpR X (compareOp .Is) (fun x y H Q=>y=.non/\Q (.bl (decide (x=.non))) H):=by
 intro pins s σ H x y v u Q I rx ry h;obtain⟨rfl,q⟩:=h;cases ry;refine is_none_gen (bc I q ?_);cases x<;>first
  | (cases rx;rfl)
  | (obtain⟨t,rfl⟩:=rx;rfl)
theorem op_notin_str:OpR X (compareOp .NotIn) (fun x y H Q=>∃i j,x=.str i/\y=.str j/\Q (.bl (!(!(Builtin.Str.occurrences j i 0 j.length 1).isEmpty))) H):=by
 intro pins s σ H x y v u Q I rx ry h;obtain⟨i,j,rfl,rfl,q⟩:=h;obtain⟨t,rfl⟩:=rx;obtain⟨t',rfl⟩:=ry;exact notIn_str (bc I q rfl)
theorem OpR.or {f:Value->Value->Sem Value} {r r':R2} (h:OpR X f r) (h':OpR X f r'):OpR X f (fun x y H Q=>r x y H Q∨r' x y H Q):=by
 intro pins s σ H x y v u Q I rx ry q;rcases q with q|q
 ·exact h pins s σ H x y v u Q I rx ry q
 ·exact h' pins s σ H x y v u Q I rx ry q
theorem xz (b:Expr) {op:CmpOp} (h:op≠.In:=by decide) (h2:op≠.NotIn:=by decide):behindInMarks op b=false:=by
 have e1:(op == CmpOp.In)=false:=by cases op<;>first|rfl|exact absurd rfl h
 have e2:(op == CmpOp.NotIn)=false:=by cases op<;>first|rfl|exact absurd rfl h2
 cases b<;>simp[behindInMarks,e1,e2]
theorem pR {op:CmpOp} {r:R2} (ho:OpR X (compareOp op) r) (ha:PE X a ta) (hb:PE X b tb) (hm:behindInMarks op b=false):PE X (.Compare a [op] [b] pos) (w5 r ta tb):=by
 intro pins s σ H Q I h;exact wpAny_Compare1 (Ez ha hb I h fun v u s2 x y H2 I2 rx ry q=>ho pins s2 σ H2 x y v u Q I2 rx ry q) hm
def uD (t:TE):TT:=fun σ H Q=>t σ H fun x H'=>∃k,x=.bl k/\Q k H'
theorem gG {op:CmpOp} {r:R2} (ho:OpR X (compareOp op) r) (ha:PE X a ta) (hb:PE X b tb) (hm:behindInMarks op b=false):PT X (.Compare a [op] [b] pos) (uD (w5 r ta tb)):=by
 intro pins s σ H Q I h
 refine wpAny_isTrue_Compare1 (b7 (ha pins s σ H _ I h) fun v s1 ⟨x,H1,I1,r1,q1⟩=>b7 (hb pins s1 σ H1 _ I1 q1) fun u s2 ⟨y,H2,I2,r2,q2⟩ =>
  b7 (ho pins s2 σ H2 x y v u _ I2 r1 r2 q2) fun c s3 ⟨z,H3,I3,r3,k,e,q3⟩=>?_) hm
 subst e;cases r3;exact Az ⟨H3,I3,q3⟩
def xA (r r':R2) (ta tb tc:TE):TE:=fun σ H Q=>ta σ H fun x H1=>tb σ H1 fun y H2=>r x y H2 fun z H3=>∃k,z=.bl k /\
 (if k=true then tc σ H3 fun w' H4=>r' y w' H4 Q else Q (.bl false) H3)
theorem xB {op op':CmpOp} {r r':R2} (ho:OpR X (compareOp op) r) (ho':OpR X (compareOp op') r') (ha:PE X a ta) (hb:PE X b tb) (hc:PE X c tc)
  (hm:lastMarks [op,op'] [b,c]=false:=by with_unfolding_all rfl):PT X (.Compare a [op,op'] [b,c] pos) (uD (xA r r' ta tb tc)):=by
 intro pins s σ H Q I h
 refine isTrue_chain (b7 (ha pins s σ H _ I h) fun v s1 ⟨x,H1,I1,r1,q1⟩=>test_link (b7 (hb pins s1 σ H1 _ I1 q1) fun u s2 ⟨y,H2,I2,r2,q2⟩ =>
  b7 (ho pins s2 σ H2 x y v u _ I2 r1 r2 q2) fun d s3 ⟨z,H3,I3,r3,k,e,q3⟩=>?_)) hm
 subst e;cases r3;refine Az ?_;cases k with
 | false =>
  obtain⟨k',e',q'⟩:=q3;cases e';exact ite_ff ⟨H3,I3,q'⟩
 | true =>
  refine ite_tt (test_last (b7 (hc pins s3 σ H3 _ I3 q3) fun w' s4 ⟨z',H4,I4,r4,q4⟩=>b7 (ho' pins s4 σ H4 y z' u w' _ I4 r2 r4 q4) fun d' s5 zz9=>?_));obtain⟨z2,H5,I5,r5,k2,e2,q5⟩:=zz9;subst e2;cases r5;exact Az ⟨H5,I5,q5⟩
theorem kM:(sizeLine:Nat)<2 ^ 63:=by rw[AF];decide
theorem op_add_str:OpR X (binaryOp .Add) (fun x y H Q=>∃i j,x=.str i/\y=.str j/\i.length+j.length<=sizeLine/\Q (.str (i++j)) H):=by
 intro pins s σ H x y v u Q I rx ry h;obtain⟨i,j,rfl,rfl,hz,q⟩:=h;obtain⟨t,rfl⟩:=rx;obtain⟨t',rfl⟩:=ry;exact bu (add_str (fun t' tk hle=>⟨.str (i++j),H,I.tok _ (I.tkl' hle),⟨_,rfl⟩,q⟩) hz)
theorem vals1 {x:V} {us:List Value} (r:Vals [x] us):∃u,us=[u]/\RelV x u:=by
 cases r with
 | cons r1 r2=>cases r2;exact⟨_,rfl,r1⟩
theorem vals2 {x y:V} {us:List Value} (r:Vals [x,y] us):∃u w',us=[u,w']/\RelV x u/\RelV y w':=by
 cases r with
 | cons r1 r2 =>
  cases r2 with
  | cons r3 r4=>cases r4;exact⟨_,_,rfl,r1,r3⟩
end
end L2
namespace L2
open PySem PySem.Spec PyProof.Rows
structure ObjM (h:Heap) (x dx C:Addr) (mA:Str->Option Value):Prop where
 obj:h.get? x=some (PySem.W.instObj C dx)
 ns:h.Ns1 dx mA
 ne:dx≠x
theorem oJ {h:Heap} {dx:Addr} {mA:Str->Option Value} (n:h.Ns1 dx mA):∃od,h.get? dx=some od/\∀name,PySem.W.lookIn name od=some (mA name):=by
 obtain⟨o,es,ep,ho,hd,hk,_,hm⟩:=n;refine⟨o,ho,fun name=>?_⟩;have e:=hm name;unfold nsFind findBy at e;rw[← Array.find?_toList]at e;unfold PySem.W.lookIn;rw[hd];dsimp only;split
 ·rename_i y q
  rw[q]at e;exact congrArg some e
 ·rename_i q
  rw[q]at e;have a:es.toList.any (·.refKey)=false:=by
   rw[List.any_eq_false];intro y hy;obtain⟨z,t,hkey⟩:=hk y (Array.mem_toList_iff.mp hy);simp[DictEntry.refKey,hkey]
  have a':¬ es.toList.any (·.refKey)=true:=by rw[a];exact Zd
  rw[Ag a'];exact congrArg some e
theorem ObjM.look {h:Heap} {x dx C:Addr} {mA:Str->Option Value} (I:ObjM h x dx C mA):∃od,PySem.W.InstAt h x (PySem.W.instObj C dx) C (some od)/\∀name,PySem.W.lookIn name od=some (mA name) :=
 let ⟨od,ho,hl⟩:=oJ I.ns
 ⟨od,⟨I.obj,rfl,rfl,ho⟩,hl⟩
theorem RelO.some_of {v:V} {o:Option Value} (r:RelO (some v) o):∃u,o=some u/\RelV v u:=by
 cases o with
 | none=>exact(show False from r).elim
 | some u=>exact⟨u,rfl,r⟩
theorem v8 {v:V} {u:Value} (r:RelV v u):PySem.W.handedIn u=true:=by
 cases v with
 | non=>cases (show u=Value.none from r);rfl
 | bl b=>cases (show u=Value.bool b from r);rfl
 | int i=>obtain⟨t,e⟩:=(show ∃t,u=Value.int i t from r);cases e;rfl
 | str x=>obtain⟨t,e⟩:=(show ∃t,u=Value.str x t from r);cases e;rfl
 | byt b=>obtain⟨t,e⟩:=(show ∃t,u=Value.bytes b t from r);cases e;rfl
 | flt b=>obtain⟨t,e⟩:=(show ∃t,u=Value.float b t from r);cases e;rfl
 | ref a=>cases (show u=Value.ref a from r);rfl
 | ty n=>cases (show u=Value.type n from r);rfl
section
variable {P:Program} {w:World} {H H':Hp} {h h':Heap} {a C dx:Addr} {fs fs':List (Str×V)}
theorem z5 (hok:HOk P w H h) (e:H a=some (.ins C dx fs)):∃mA,ObjM h a dx C mA/\(∀f,RelO (fs.lookup f) (mA f))/\PySem.Within mA (fs.map (·.1))/\fs.length<=1000/\H dx=some (.own a):=by
 obtain⟨d,z,ne,ob,mA,n,r,q⟩:=(show ObjOk P w H h a (.ins C dx fs) from hok a _ e);exact⟨mA,⟨ob,n,ne⟩,r,q,z,d⟩
end
structure Cls (K:PySem.W.Frag) (C:Addr):Prop where
 pg:PySem.W.plainGet K C Str.empty=true
 hd:PySem.W.hasDictIn K C=true
 po:PySem.W.plainOver K C=true
 sa:PySem.W.findIn K (.ref C) "__setattr__"=some (some (.builtin "object.__setattr__"))
theorem Cls.get {K:PySem.W.Frag} {C:Addr} (c:Cls K C) (f:Str):PySem.W.plainGet K C f=true:=c.pg
section
variable {X:Cx} {pins:List (Addr×Obj)} {σ:St} {H:Hp} {s:Shared} {a C dx:Addr} {fs:List (Str×V)} {f:Str} {v:V} {A:Around} {E:Value->Shared->Prop}
theorem z6 {prog:Program} {w:World} {env:Env} {e:Expr} {f:Str} {pos:Pos} {s:Shared} {Q:Value->Shared->Prop} (hb:attributeBase e f env (eval e env)=eval e env)
  (h:wpAny (model prog w) A (eval e env) (fun o s₁=>wpAny (model prog w) A (getAttr o f true) Q E s₁) E s):wpAny (model prog w) A (eval (.Attribute e f pos) env) Q E s :=
 Attribute_any_ h (by rw[arm_eval_Attribute,hb])
end
section
variable {X:Cx} {pins:List (Addr×Obj)} {σ:St} {H:Hp} {s:Shared} {A:Around} {E:Value->Shared->Prop} {Q:Value->Shared->Prop} {c:Value} {b:Bool}
inductive TyOf (K:PySem.W.Frag) (H:Hp):V->Value->Prop where
 | non:TyOf K H .non (.type "NoneType")
 | bl (x:Bool):TyOf K H (.bl x) (.type "bool")
 | int (i:Int):TyOf K H (.int i) (.type "int")
 | str (x:Str):TyOf K H (.str x) (.type "str")
 | flt (x:UInt64):TyOf K H (.flt x) (.type "float")
 | lst {a:Addr} {xs:List V} (e:H a=some (.lst xs)):TyOf K H (.ref a) (.type "list")
 | frz {a:Addr} {o:Obj} {xs:List V} (e:H a=some (.frz o (.lst xs))):TyOf K H (.ref a) (.type "list")
 | tup {a:Addr} {xs:List V} (e:H a=some (.tup xs)):TyOf K H (.ref a) (.type "tuple")
 | dK {a:Addr} {kvs:List (Key×V)} (e:H a=some (.dK kvs)):TyOf K H (.ref a) (.type "dict")
 | dT {a:Addr} {ep:Nat×List Addr} {kvs:List (List Key×V)} (e:H a=some (.dT ep kvs)):TyOf K H (.ref a) (.type "dict")
 | ins {a C dx:Addr} {fs:List (Str×V)} (e:H a=some (.ins C dx fs)) (cl:Cls K C) (ha:PySem.W.findIn K (.ref C) "__class__"=some (some (.builtin "object.__class__")))
   (hn:PySem.W.specialIn K (.builtin "object.__class__") "__get__"=some (some (.builtin "getset_descriptor.__get__"))) (htk:PySem.W.takesIn K (.builtin "object.__class__")=some true)
   (hm:PySem.W.mroIn K C (.type "object")=some true):TyOf K H (.ref a) (.ref C)
theorem dN {x:V} {u t:Value} (I:Inv X pins σ H s) (rx:RelV x u) (ty:TyOf X.K H x t) (e:PySem.W.kitOne X.K t c=some b) (h:∀tk,Q (.bool b) { s with toks:=tk }) :
  wpAny (model X.prog X.w) A (call (.builtin "isinstance") [u,c]) Q E s:=by
 cases ty with
 | non=>cases (show u=Value.none from rx);exact PySem.W.kia_one PySem.W.kitx_none I.kIn True.intro e (fun z=>nomatch z) h
 | bl y=>cases (show u=Value.bool y from rx);exact PySem.W.kia_one PySem.W.kitx_bool I.kIn True.intro e (fun z=>nomatch z) h
 | int i=>obtain⟨t,q⟩:=(show ∃t,u=Value.int i t from rx);cases q;exact PySem.W.kia_one PySem.W.kitx_int I.kIn True.intro e (fun z=>nomatch z) h
 | str y=>obtain⟨t,q⟩:=(show ∃t,u=Value.str y t from rx);cases q;exact PySem.W.kia_one PySem.W.kitx_str I.kIn True.intro e (fun z=>nomatch z) h
 | flt y=>obtain⟨t,q⟩:=(show ∃t,u=Value.float y t from rx);cases q;exact PySem.W.kia_one PySem.W.kitx_float I.kIn True.intro e (fun z=>nomatch z) h
 | @lst a xs ea =>
  cases (show u=Value.ref a from rx);obtain⟨_,_,n,_,h1⟩:=(show ObjOk X.prog X.w H s.heap a (.lst xs) from I.hok a _ ea);exact PySem.W.kia_one PySem.W.kitx_list I.kIn ⟨_,h1,rfl⟩ e (fun z=>nomatch z) h
 | @frz a ob xs ea =>
  cases (show u=Value.ref a from rx);obtain⟨_,_,_,n,_,h1⟩:=(show ObjOk X.prog X.w H s.heap a (.frz ob (.lst xs)) from I.hok a _ ea);exact PySem.W.kia_one PySem.W.kitx_list I.kIn ⟨_,h1,rfl⟩ e (fun z=>nomatch z) h
 | @tup a xs ea =>
  cases (show u=Value.ref a from rx);obtain⟨_,_,_,p⟩:=(show ObjOk X.prog X.w H s.heap a (.tup xs) from I.hok a _ ea);obtain⟨o,h1,h2,_⟩:=p;exact PySem.W.kia_one PySem.W.kitx_tuple I.kIn ⟨o,h1,h2⟩ e (fun z=>nomatch z) h
 | @dK a kvs ea =>
  cases (show u=Value.ref a from rx);obtain⟨_,_,vs,_,p⟩:=(show ObjOk X.prog X.w H s.heap a (.dK kvs) from I.hok a _ ea);obtain⟨o,es,ep,h1,h2,_⟩:=p;exact PySem.W.kia_one PySem.W.kitx_dict I.kIn ⟨o,h1,h2.1⟩ e (fun z=>nomatch z) h
 | @dT a ep kvs ea =>
  cases (show u=Value.ref a from rx);obtain⟨_,_,xs,_,_,o,es,h1,h2,_⟩:=(show ObjOk X.prog X.w H s.heap a (.dT ep kvs) from I.hok a _ ea);exact PySem.W.kia_one PySem.W.kitx_dict I.kIn ⟨o,h1,h2.1⟩ e (fun z=>nomatch z) h
 | @ins a C dx fs ea cl ha hn htk hm =>
  cases (show u=Value.ref a from rx);obtain⟨mA,O,_⟩:=z5 I.hok ea;obtain⟨od,J,_⟩:=O.look;exact PySem.W.kia_one (PySem.W.kitx_own (cl.get _) cl.hd ha hn htk hm) I.kIn J e (fun z=>nomatch z) h
end
end L2
namespace L2
open PySem PySem.Spec PyProof.Rows
structure Room (k:Nat) (A:Around):Prop where
 hd:A.handled=none
 dp:A.depth+3*k+5<recursionLimit
 un:A.units+16*k+200<cLine
theorem Room.mono {j k:Nat} {A:Around} (r:Room k A) (h:j<=k):Room j A:=⟨r.hd,by have:=r.dp;lia,by have:=r.un;lia⟩
theorem Room.deeper {k:Nat} {A:Around} (r:Room (k+1) A) (env:Env):Room k (A.deeper env) :=
 ⟨r.hd,by have:=r.dp;show A.depth+1+3*k+5<_;lia,by have:=r.un;show A.units+3+16*k+200<_;lia⟩
theorem tm {A:Around} {C:Addr} {us:List Value} {kw:List (Str×Value)}:(A.under (.builtin "type.__call__" ⟨.ref C::us,kw⟩)).depth=A.depth+1:=by
 first|rfl|simp[Around.under,Code.weight,Code.isCreation,Code.isGuard,Code.isCaller,Code.frames,Code.isFrame,guardIds]
theorem tq {A:Around} {C:Addr} {us:List Value} {kw:List (Str×Value)}:(A.under (.builtin "type.__call__" ⟨.ref C::us,kw⟩)).units=A.units+1:=by
 first|rfl|simp[Around.under,Code.cUnits,Code.frames,Code.isFrame]
theorem Room.make {k:Nat} {A:Around} (r:Room (k+1) A) (C:Addr) (us:List Value) (kw:List (Str×Value)):Room k (A.under (.builtin "type.__call__" ⟨.ref C::us,kw⟩)) :=
 ⟨r.hd,by have:=r.dp;rw[tm];lia,by have:=r.un;rw[tq];lia⟩
theorem Room.depth {k:Nat} {A:Around} (r:Room k A):A.depth<recursionLimit:=by have:=r.dp;lia
theorem Room.units {k:Nat} {A:Around} (r:Room k A):A.units+64<cLine:=by have:=r.un;lia
def kN:TA:=fun _ H Q=>Q [] H
def dM (ta:TE) (tr:TA):TA:=fun σ H Q=>ta σ H fun x H1=>tr σ H1 fun xs H2=>Q (x::xs) H2
section
variable {X:Cx} {e:Expr} {es:List Expr} {te:TE} {t:TA} {pos:Pos}
theorem ah:PA X [] kN:=fun _ _ _ _ H Q I h=>Bp ⟨[],H,I,.nil,h⟩
theorem uE (ha:PE X e te) (hr:PA X es t) (hs:starEach (e::es) X.env=(false,eval e X.env)::starEach es X.env:=by rfl):PA X (e::es) (dM te t):=by
 intro pos pins s σ H Q I h;rw[hs];show wpAny _ _ (spliced ((false,eval e X.env)::backTo pos (starEach es X.env))) _ _ s;refine AC (b7 (ha pins s σ H _ I h) fun u s1 zz9=>?_);obtain⟨x,H1,I1,r1,q1⟩:=zz9;exact b7 (hr pos pins s1 σ H1 _ I1 q1) fun us s2 ⟨xs,H2,I2,r2,q2⟩=>⟨x::xs,H2,I2,.cons r1 r2,q2⟩
def Hj (t:TA):TE:=fun σ H Q=>t σ H fun xs H1=>xs.length<=sizeLine/\∀p,H1 p=none->Q (.ref p) (upd H1 p (.tup xs))
def z7 (t:TA):TE:=fun σ H Q=>t σ H fun xs H1=>xs.length<=sizeLine/\∀p,H1 p=none->Q (.ref p) (upd H1 p (.lst xs))
theorem gH {x1} (h:PA X es t):PE X (.Tuple es x1 pos) (Hj t):=by
 intro pins s σ H Q I hq;refine wpAny_Tuple_spliced (b7 (h pos pins s σ H _ I hq) fun us s1 ⟨xs,H1,I1,r,z,q⟩=>⟨by rw[← r.length];exact z,?_⟩)
 have hf:H1 s1.heap.objs.size=none:=I1.hok.fresh (Wa _);refine⟨.ref s1.heap.objs.size,upd H1 s1.heap.objs.size (.tup xs),I1.laid (t':=s1.toks) (fun b u e=>Ab _ e) (Wa _) ?_,rfl,q _ hf⟩;exact⟨z,us,r,⟨_,Aj _ rfl,rfl,_,rfl⟩⟩
theorem bq (h:PA X es t):PE X (.List es pos) (z7 t):=by
 intro pins s σ H Q I hq;refine wpAny_List_spliced (b7 (h pos pins s σ H _ I hq) fun us s1 ⟨xs,H1,I1,r,z,q⟩=>⟨by rw[← r.length];exact z,?_⟩)
 have hf:H1 s1.heap.objs.size=none:=I1.hok.fresh (Wa _);refine⟨.ref s1.heap.objs.size,upd H1 s1.heap.objs.size (.lst xs),I1.laid (t':=s1.toks) (fun b u e=>Ab _ e) (Wa _) ?_,rfl,q _ hf⟩;exact⟨z,us,0,r,Aj _ rfl⟩
end
abbrev Sp:=List V->Hp->VK->XK->Prop
abbrev w6:=List Env->Hp->Shared->XK->Value->Shared->Prop
structure Env0 (P:Program) (w:World) (K:PySem.W.Frag) (mg:Str->Option Value) (base:Heap) (A:Around) (outer:List Env) (s:Shared) (H:Hp):Prop where
 frames:A.frames=some outer
 mod:Mod K mg base
 bs:∀b o,base.get? b=some o->s.heap.get? b=some o/\H b=none
 bsz:base.objs.size<=s.heap.objs.size
 funs:s.heap.FunFrames base outer
 frf:∀b∈fA outer,H b=none
 hok:HOk P w H s.heap
 bare:AllBare s.gens
 tk:0<s.toks
def CE (outer:List Env) (P:Program) (w:World) (H:Hp) (s:Shared) (Q:VK) (u:Value) (s':Shared):Prop :=
 ∃v H',s'.os=s.os/\AllBare s'.gens/\Un (fA outer) [] H H' s.heap s'.heap/\HOk P w H' s'.heap/\RelV v u/\Q v H'
def CR (CX:w6) (outer:List Env) (P:Program) (w:World) (H:Hp) (s:Shared) (Q:VK) (E:XK) (r:Result) (s':Shared):Prop :=
 match r with
 | .ok (.ret u)=>CE outer P w H s Q u s'
 | .ok _=>False
 | .error e=>CX outer H s E e s'
structure FnOk (P:Program) (w:World) (K:PySem.W.Frag) (mg:Str->Option Value) (base:Heap) (CX:w6) (k:Nat) (f:Addr) (fd:FuncData) (ps:List Str) (sp:Sp):Prop where
 len:∀vs H Q E,sp vs H Q E->vs.length=ps.length
 run:∀(A:Around) (outer:List Env) (s:Shared) (H:Hp) (args:Args) (us:List Value) (vs:List V) (Q:VK) (E:XK),Room k A->Env0 P w K mg base A outer s H->BindsTo s fd args (ps.zip us)->Vals vs us->sp vs H Q E ->
  codeAny (model P w) A (.call (.ref f) args) (CR CX outer P w H s Q E) s
theorem FnOk.imp {P:Program} {w:World} {K:PySem.W.Frag} {mg:Str->Option Value} {base:Heap} {CX:w6} {k:Nat} {f:Addr} {fd:FuncData} {ps:List Str} {sp sp':Sp} (F:FnOk P w K mg base CX k f fd ps sp)
  (h:∀vs H Q E,sp' vs H Q E->sp vs H Q E):FnOk P w K mg base CX k f fd ps sp' :=
 ⟨fun vs H Q E q=>F.len vs H Q E (h _ _ _ _ q),fun A outer s H args us vs Q E hr he hb hv hs=>F.run A outer s H args us vs Q E hr he hb hv (h _ _ _ _ hs)⟩
theorem Env0.make {P:Program} {w:World} {K:PySem.W.Frag} {mg:Str->Option Value} {base:Heap} {A:Around} {outer:List Env} {s:Shared} {H:Hp} (e:Env0 P w K mg base A outer s H) (C:Addr) (us:List Value) (kw:List (Str×Value)) :
  Env0 P w K mg base (A.under (.builtin "type.__call__" ⟨.ref C::us,kw⟩)) outer s H:=⟨by first|exact e.frames|(simpa[Around.under,Code.envs,Code.isFrame,pushEnvs]using e.frames),e.mod,e.bs,e.bsz,e.funs,e.frf,e.hok,e.bare,e.tk⟩
section
variable {X:Cx} {pins:List (Addr×Obj)} {σ:St} {H:Hp} {s s':Shared}
theorem Inv.env0 (I:Inv X pins σ H s):Env0 X.prog X.w X.K X.mg X.base X.A X.stack s H :=
 ⟨I.ok.frames,I.ok.mod,I.bs,Qb I.ok.bsz I.sz,I.stack,I.stkFree,I.hok,I.bare,I.tk⟩
theorem Inv.after {Q:VK} {u:Value} (I:Inv X pins σ H s) (h:CE X.stack X.prog X.w H s Q u s') (hle:s.toks<=s'.toks):EP X pins σ Q u s':=by
 obtain⟨v,H',os,bare,un,hok,r,q⟩:=h;obtain⟨hh,g,d,t,os'⟩:=s';obtain rfl:os'=s.os:=os;exact⟨v,H',I.call (h':=hh) (g':=g) (d':=d) (t':=t) (ch:=[]) un hok bare (fun b z=>absurd z (by simp)) (I.tkl' hle),r,q⟩
end
def xC (sp:Sp) (dvs:List V) (E:XK) (t:TA):TE:=fun σ H Q=>t σ H fun vs H1=>sp (vs++dvs) H1 Q E
def Binds (K:PySem.W.Frag) (fd:FuncData) (ps:List Str) (ds:List Value):Prop :=
 ∀(s:Shared) (us:List Value),K.In s.heap->(us++ds).length=ps.length->BindsTo s fd ⟨us,[]⟩ (ps.zip (us++ds))
theorem Binds.all {K:PySem.W.Frag} {fd:FuncData} {ps:List Str} (h:∀us:List Value,us.length=ps.length->bindArgs fd ⟨us,[]⟩=pure (ps.zip us)):Binds K fd ps []:=fun s us _ hl=>by
 rw[Xc]at hl ⊢;exact .of_eq (h us hl)
def tu (CX:w6) (X:Cx) (E:XK):Prop:=∀(pins:List (Addr×Obj)) (σ:St) (H:Hp) (s:Shared) (e:Value) (s':Shared),Inv X pins σ H s->CX X.stack H s E e s'->X.xe e s'
section
variable {X:Cx} {CX:w6} {k:Nat} {f C:Addr} {fd:FuncData} {ps:List Str} {sp:Sp} {dvs:List V} {ds:List Value} {E:XK} {x m:Str} {p pos apos:Pos} {e o:Expr} {es:List Expr} {ta:TE} {t:TA}
theorem EC {pins:List (Addr×Obj)} {σ:St} {H:Hp} {s:Shared} {Q:VK} {us:List Value} {vs:List V} (F:FnOk X.prog X.w X.K X.mg X.base CX k f fd ps sp) (hr:Room k X.A) (hb:Binds X.K fd ps ds) (hd:Vals dvs ds) (hx:tu CX X E)
  (I:Inv X pins σ H s) (r:Vals vs us) (h:sp (vs++dvs) H Q E):wpAny (model X.prog X.w) X.A (call (.ref f) us) (EP X pins σ Q) X.xe s:=by
 have r2:Vals (vs++dvs) (us++ds):=r.append hd;have hl:(us++ds).length=ps.length:=by rw[← r2.length];exact F.len _ _ _ _ h
 refine wpAny_call (jm (AG (F.run X.A X.stack s H ⟨us,[]⟩ (us++ds) (vs++dvs) Q E hr I.env0 (hb s us I.kIn hl) r2 h) fun r s' hq hle=>?_));cases r with
 | error e=>exact hx pins σ H s e s' I hq
 | ok fl =>
  cases fl with
  | ret u=>exact I.after hq hle
  | next=>exact False.elim hq
  | brk=>exact False.elim hq
  | cont=>exact False.elim hq
theorem z8 (F:FnOk X.prog X.w X.K X.mg X.base CX k f fd ps sp) (hr:Room k X.A) (hg:Gl X x) (hm:X.mg x=some (.ref f)) (hk:PySem.W.keepIn X.K (.ref f)=true) (hb:Binds X.K fd ps ds) (hd:Vals dvs ds) (hx:tu CX X E)
  (ha:PA X (e::es) t) (hdb:(x == ("__debug__":Str))=false:=by decide) (he:starEach (e::es) X.env=(false,eval e X.env)::starEach es X.env:=by rfl) (hpl:(backTo pos (starEach es X.env)).any (·.1)=false:=by rfl) :
  PE X (.Call (.Name x p) (e::es) [] pos) (xC sp dvs E t):=by
 intro pins s σ H Q I h;refine As (cX I hg hm ?_ hdb);refine PySem.W.callWith_K (h₀:=X.base) I.ok.mod.kin hk (b7 (ha pos pins s σ H _ I h) fun us s1 ⟨vs,H1,I1,r,q⟩=>⟨I1.kIn,?_⟩) he hpl;exact EC F hr hb hd hx I1 r q
end
structure FnScope (N P:List Str) (sc:Scope):Prop where
 kind:sc.kind=.function
 co:sc.isCoroutine=false
 gen:sc.isGenerator=false
 nd:N.Nodup
 pre:N.take P.length=P
 par:∀x∈P,sc.names.lookup x=some .local∨sc.names.lookup x=some .cell
 nofree:∀y∈sc.names,y.2≠.free
theorem oK {kindOf:Str->Option NameKind} {x:Str}:∀{binds:List (Str×Value)} {m:Str->Option Value},(∀v,(x,v)∉binds)->bindL kindOf binds m x=m x
 | [],_,_=>rfl
 | (n,v)::r,m,h=>by
  unfold bindL;rw[oK fun w hw=>h w (Yb _ hw)];split
  ·have:x≠n:=by rintro rfl;exact h v Qa
   simp[this]
  ·rfl
theorem oM {kindOf:Str->Option NameKind} {x:Str}:∀{binds:List (Str×Value)} {m:Str->Option Value},(∀v,(x,v)∉binds)->bindC kindOf binds m x=m x
 | [],_,_=>rfl
 | (n,v)::r,m,h=>by
  unfold bindC;rw[oM fun w hw=>h w (Yb _ hw)];split
  ·rfl
  ·have:x≠n:=by rintro rfl;exact h v Qa
   simp[this]
theorem oN {kindOf:Str->Option NameKind} {x:Str} {v:Value}:∀{P:List Str} {vs:List Value} {i:Nat} {m:Str->Option Value},P.Nodup->P[i]?=some x->vs[i]?=some v->kindOf x=some .local ->
  bindL kindOf (P.zip vs) m x=some v
 | [],_,_,_,_,h,_,_=>by simp at h
 | _::_,[],_,_,_,_,h,_=>by simp at h
 | p::P,w::vs,0,m,nd,h1,h2,hk=>by
  simp at h1 h2;subst h1;subst h2;show bindL kindOf ((p,w)::P.zip vs) m p=_;unfold bindL;rw[oK fun v hv=>(Zh.mp nd).1 (Bv hv).1,Ad hk];simp
 | p::P,w::vs,i+1,m,nd,h1,h2,hk=>by
  show bindL kindOf ((p,w)::P.zip vs) m x=_;unfold bindL;exact oN (i:=i) (Zh.mp nd).2 (by simpa using h1) (by simpa using h2) hk
theorem oO {kindOf:Str->Option NameKind} {x:Str} {v:Value}:∀{P:List Str} {vs:List Value} {i:Nat} {m:Str->Option Value},P.Nodup->P[i]?=some x->vs[i]?=some v->kindOf x≠some .local ->
  bindC kindOf (P.zip vs) m x=some v
 | [],_,_,_,_,h,_,_=>by simp at h
 | _::_,[],_,_,_,_,h,_=>by simp at h
 | p::P,w::vs,0,m,nd,h1,h2,hk=>by
  simp at h1 h2;subst h1;subst h2;show bindC kindOf ((p,w)::P.zip vs) m p=_;unfold bindC;rw[oM fun v hv=>(Zh.mp nd).1 (Bv hv).1,Ag hk];simp
 | p::P,w::vs,i+1,m,nd,h1,h2,hk=>by
  show bindC kindOf ((p,w)::P.zip vs) m x=_;unfold bindC;exact oO (i:=i) (Zh.mp nd).2 (by simpa using h1) (by simpa using h2) hk
def start (N:List Str) (vs:List V):St:=vs.map some++List.replicate (N.length-vs.length) none
def bw (CX:w6) (P:Program) (w:World) (K:PySem.W.Frag) (mg:Str->Option Value) (base:Heap) (N:List Str) (qual:Str) (scope:Scope) (f:Addr) (cd:Value) (A:Around) (outer:List Env) (s:Shared) (H:Hp) (E:XK):Cx where
 prog:=P
 w:=w
 K:=K
 mg:=mg
 base:=base
 A:=A.deeper (envOfC qual scope s.heap.objs.size f cd)
 N:=N
 s₀:=s
 H₀:=H
 env:=envOfC qual scope s.heap.objs.size f cd
 outer:=outer
 stack:=envOfC qual scope s.heap.objs.size f cd::outer
 ex:=[]
 calm:=true
 fn:=fun _=>true
 pn:=[]
 xe:=fun e s'=>wpAny (model P w) (A.deeper (envOfC qual scope s.heap.objs.size f cd)) (leaving (envOfC qual scope s.heap.objs.size f cd) e) (fun _ s''=>CX outer H s E e s'') (fun e' s''=>CX outer H s E e' s'') s'
theorem rB {sc:Scope} {n:Nat} {x:Str} (h:sc.names.lookup x=some .cell):∃c,(cellsFrom n sc.names []).lookup x=some c:=by
 have q:=PySem.W.cellsFrom_some sc.names n [] (.inl h);exact Option.isSome_iff_exists.mp q
theorem v9 {CX:w6} {P:Program} {w:World} {K:PySem.W.Frag} {mg:Str->Option Value} {base:Heap} {N ps:List Str} {qual:Str} {scope:Scope} {f:Addr} {cd:Value} {A:Around} {outer:List Env} {s s1:Shared} {H:Hp} {E:XK} {us:List Value} {vs:List V}
  (S:FnScope N ps scope) (hd:A.handled=none) (e0:Env0 P w K mg base A outer s H) (hl:vs.length=ps.length) (r:Vals vs us)
  (x:InCallC s s.heap.objs.size (bindL (envOfC qual scope s.heap.objs.size f cd).kindOf (ps.zip us) fun _=>none) (cellsFrom (s.heap.objs.size+1) scope.names []) (bindC (envOfC qual scope s.heap.objs.size f cd).kindOf (ps.zip us) fun _=>none) s1) (ht:0<s1.toks) :
  Inv (bw CX P w K mg base N qual scope f cd A outer s H E) [] (start N vs) H s1:=by
 have hpl:ps.length<=N.length:=by have:=congrArg List.length S.pre;rw[Vm]at this;lia
 obtain⟨h1,tk,rfl,hk⟩:=x.done;have noA:∀b:Addr,b∉(bw CX P w K mg base N qual scope f cd A outer s H E).ex:=fun b z=>absurd (show b∈([]:List Addr) from z) (by simp)
 refine⟨⟨e0.mod,S.kind,rfl,rfl,Wa _,fun y z c h1 h2=>?_,fun y hy=>?_,fun y c _ h=>?_,fun _=>hd,Around.frames_deeper e0.frames,.inr ⟨rfl,rfl⟩,fun b z=>absurd z (noA b),e0.bs,e0.bsz,fun b _ _=>noA b,fun b z=>absurd z (noA b),e0.funs,e0.frf⟩,
  rfl,e0.bare,Un.kept hk,⟨_,x.toInCall.ns,fun i y v h1 h2 h3=>?_⟩,fun y c h=>⟨_,x.cell y c h⟩,e0.hok.fresh (Wa _),fun y c h=>?_,fun p hp=>absurd (show p∈([]:List (Addr×Obj)) from hp) (by simp),e0.hok.kept hk,?_,ht⟩
 ·exact name_of_addr x.apart (PySem.mem_of_lookup h1) (PySem.mem_of_lookup h2)
 ·have hy:scope.names.lookup y=some .cell∨scope.names.lookup y=some .free:=hy;rcases hy with hy|hy
  ·exact rB hy
  ·exact absurd rfl (S.nofree _ (PySem.mem_of_lookup hy))
 ·exact BM (x.above y c (PySem.mem_of_lookup h))
 ·have hi:i<vs.length:=by
   unfold start at h2;by_cases hi:i<vs.length
   ·exact hi
   ·rw[Yf (by simpa using hi)]at h2
    rw[Zj]at h2;split at h2<;>cases h2
  have ha:vs[i]?=some v:=by
   unfold start at h2;rw[Xi (by simpa using hi),Wg]at h2
   cases e:vs[i]? with
   | none=>rw[e]at h2;cases h2
   | some a=>rw[e]at h2;cases h2;rfl
  obtain⟨u,hu,rv⟩:=r.get ha;have hp:ps[i]?=some y:=by
   rw[← S.pre,List.getElem?_take_of_lt (by lia)];exact h1
  have ndP:ps.Nodup:=by rw[← S.pre];exact S.nd.sublist (List.take_sublist _ _)
  refine⟨u,rv,?_⟩;rcases S.par y (Xf hp) with k|k
  ·exact .inl ⟨k,oN ndP hp hu k⟩
  ·obtain⟨c,e⟩:=rB (n:=s.heap.objs.size+1) k;refine .inr ⟨.inl k,c,e,?_⟩;have q:=x.cell y c e;rw[oO ndP hp hu (by show scope.names.lookup y≠_;rw[k];decide)]at q
   exact q
 ·exact e0.hok.fresh (BM (x.above y c (PySem.mem_of_lookup h)))
 ·unfold start;show _=N.length;rw[Xa,Ya,Xh];lia
theorem Dt {CX:w6} {P:Program} {w:World} {K:PySem.W.Frag} {mg:Str->Option Value} {base:Heap} {k:Nat} {f:Addr} {name qual:Str} {params:Arguments} {body:List Stmt} {scope:Scope} {dV kV doc pm cdv ct oc:Value} {an od:Option Addr}
  {osl:Array (Option Value)} {N ps:List Str} {sp:Sp} (lk:K.lookup f=some ⟨oc,od,.func (PySem.W.fnOf name qual params body scope dV kV doc pm an cdv ct),osl⟩) (hcd:PySem.W.codeIn K cdv qual=true) (S:FnScope N ps scope)
  (len:∀vs H Q E,sp vs H Q E->vs.length=ps.length)
  (hbody:∀(A:Around) (outer:List Env) (s:Shared) (H:Hp) (vs:List V) (Q:VK) (E:XK),Room k (A.deeper (envOfC qual scope s.heap.objs.size f cdv))->sp vs H Q E ->
   ∃t,PSs (bw CX P w K mg base N qual scope f cdv A outer s H E) body t/\t { nx:=fun _ H'=>Q .non H',rt:=Q } (start N vs) H) :
  FnOk P w K mg base CX (k+1) f (PySem.W.fnOf name qual params body scope dV kV doc pm an cdv ct) ps sp:=by
 refine⟨len,fun A outer s H args us vs Q E hr e0 hb r hsp=>?_⟩;have hl:=len _ _ _ _ hsp;have KX:K.In s.heap:=e0.mod.kin.keeps fun b o e=>(e0.bs b o e).1;have lim:s.heap.NoLimit:=e0.mod.nolimit.keeps fun b o e=>(e0.bs b o e).1;have hkind:∀y∈ps.zip us,scope.names.lookup y.1=some .local∨(scope.names.lookup y.1=some .cell/\((cellsFrom (s.heap.objs.size+1) scope.names []).lookup y.1).isSome=true):=fun⟨n,v⟩ hy=>by
  rcases S.par n (Bv hy).1 with q|q
  ·exact .inl q
  ·exact .inr ⟨q,PySem.W.cellsFrom_some _ _ _ (.inl q)⟩
 refine codeAny_call_function hr.depth (KX _ _ lk) rfl S.co S.gen rfl (PySem.W.codeRec_of KX hcd) (hb _ _ _ _ ?_);refine bu (wpAny_newFunctionEnv_cells S.kind hkind fun env he s1 x hle=>?_);subst he;refine⟨lim.keeps x.toInCall.keep,codeAny_func ?_⟩;obtain⟨t,ht,hq⟩:=hbody A outer s H vs Q E (hr.deeper _) hsp;have I:Inv (bw CX P w K mg base N qual scope f cdv A outer s H E) [] (start N vs) H s1:=v9 S hr.hd e0 hl r x (Va e0.tk hle);refine Ak (ht [] s1 (start N vs) H _ I hq) (fun fl s' hs=>?_) fun e s' hs=>hs;have fin:∀{σ':St} {H':Hp} {v:V} {u:Value},Inv (bw CX P w K mg base N qual scope f cdv A outer s H E) [] σ' H' s'->RelV v u->Q v H'->CE outer P w H s Q u s' :=
  fun {σ' H' v u} J rv q=>⟨v,H',J.os,J.bare,J.base,J.hok,rv,q⟩
 cases fl with
 | ret u =>
  obtain⟨v,σ',H',J,rv,q⟩:=hs;exact fin J rv q
 | next =>
  obtain⟨σ',H',J,q⟩:=hs;exact fin (v:=V.non) (u:=Value.none) J rfl q
 | brk =>
  obtain⟨_,_,_,q⟩:=hs;exact False.elim q
 | cont =>
  obtain⟨_,_,_,q⟩:=hs;exact False.elim q
end L2
namespace L2
open PySem PySem.Spec PyProof.Rows
section
variable {X:Cx} {x:Str} {p pos:Pos} {e:Expr} {es:List Expr} {t:TA} {id T:String} {r:List V->Hp->VK->Prop}
def z9 (r:List V->Hp->VK->Prop) (t:TA):TE:=fun σ H Q=>t σ H fun vs H1=>r vs H1 Q
theorem cF (hc:CallR X (.builtin id) r) (hg:Gl X x) (hm:X.mg x=none) (hv:bootBuiltins x=some (.builtin id)) (ha:PA X (e::es) t) (hn:x≠"__name__":=by decide) (hdb:(x == ("__debug__":Str))=false:=by decide)
  (he:starEach (e::es) X.env=(false,eval e X.env)::starEach es X.env:=by rfl) (hpl:(backTo pos (starEach es X.env)).any (·.1)=false:=by rfl):PE X (.Call (.Name x p) (e::es) [] pos) (z9 r t):=by
 intro pins s σ H Q I h;refine As (pP I hg hm hv ?_ hn hdb);exact PyProof.Rows.callWith_builtin1 (b7 (ha pos pins s σ H _ I h) fun us s1 ⟨vs,H1,I1,r1,q1⟩=>hc pins s1 σ H1 vs us Q I1 r1 q1) he hpl
theorem fq (hc:CallR X (.type T) r) (hg:Gl X x) (hm:X.mg x=none) (hv:bootBuiltins x=some (.type T)) (ha:PA X (e::es) t) (hn:x≠"__name__":=by decide) (hdb:(x == ("__debug__":Str))=false:=by decide)
  (he:starEach (e::es) X.env=(false,eval e X.env)::starEach es X.env:=by rfl) (hpl:(backTo pos (starEach es X.env)).any (·.1)=false:=by rfl):PE X (.Call (.Name x p) (e::es) [] pos) (z9 r t):=by
 intro pins s σ H Q I h;refine As (pP I hg hm hv ?_ hn hdb);exact Bx (b7 (ha pos pins s σ H _ I h) fun us s1 ⟨vs,H1,I1,r1,q1⟩=>hc pins s1 σ H1 vs us Q I1 r1 q1) he hpl
end
end L2
namespace L2
open PySem PySem.Spec PyProof.Rows
section
variable {κ:Type} [DecidableEq κ]
def ig (kvs:List (κ×V)) (k:κ):Option V:=(kvs.find? fun kv=>decide (kv.1=k)).map (·.2)
def putK (kvs:List (κ×V)) (k:κ) (v:V):List (κ×V) :=
 if (kvs.any fun kv=>decide (kv.1=k))=true then kvs.map (fun kv=>if kv.1=k then(kv.1,v) else kv) else kvs++[(k,v)]
theorem ij {p:κ×V} {r:List (κ×V)} {k:κ} (e:p.1=k):ig (p::r) k=some p.2:=by simp[ig,Yh,e]
theorem ik {p:κ×V} {r:List (κ×V)} {k:κ} (e:¬ p.1=k):ig (p::r) k=ig r k:=by simp[ig,Yh,e]
theorem rC (k:κ):∀kvs:List (κ×V),(kvs.any fun kv=>decide (kv.1=k))=(ig kvs k).isSome
 | []=>rfl
 | p::r=>by
  rw[Zn];by_cases e:p.1=k
  ·simp only[ij e,Af e,Bool.true_or,Option.isSome_some]
  ·rw[ik e,Ae e,Bool.false_or];exact rC k r
theorem il (kvs:List (κ×V)) (k:κ) (v:V):(putK kvs k v).length<=kvs.length+1:=by
 unfold putK;split
 ·rw[Ya];lia
 ·rw[Xa,Yc,Xl];lia
theorem RelO.isSome_eq {o:Option V} {u:Option Value} (r:RelO o u):o.isSome=u.isSome:=by
 cases o with
 | none=>cases u with
  | none=>rfl
  | some _=>exact(show False from r).elim
 | some _=>cases u with
  | none=>exact(show False from r).elim
  | some _=>rfl
theorem KV.val {kvs:List (κ×V)} {vs:List (κ×Value)} (r:KV kvs vs) (k:κ):RelO (ig kvs k) (valueAt vs k):=by
 unfold KV at r;induction r with
 | nil=>exact True.intro
 | @cons p q ps qs h t ih =>
  obtain⟨h1,h2⟩:=h;by_cases e:p.1=k
  ·have e':q.1=k:=h1.symm.trans e;have b:valueAt (q::qs) k=some q.2:=by simp[valueAt,Yh,e']
   rw[ij e,b];exact h2
  ·have e':¬ q.1=k:=fun z=>e (h1.trans z);have b:valueAt (q::qs) k=valueAt qs k:=by simp[valueAt,Yh,e']
   rw[ik e,b];exact ih
theorem KV.any {kvs:List (κ×V)} {vs:List (κ×Value)} (r:KV kvs vs) (k:κ):(kvs.any fun kv=>decide (kv.1=k))=vs.any fun kv=>decide (kv.1=k):=by
 unfold KV at r;induction r with
 | nil=>rfl
 | cons h t ih=>rw[Zn,Zn,ih,h.1]
theorem KV.repl {kvs:List (κ×V)} {vs:List (κ×Value)} (r:KV kvs vs) (k:κ) {y:V} {u:Value} (ry:RelV y u) :
  KV (kvs.map fun kv=>if kv.1=k then(kv.1,y) else kv) (vs.map fun kv=>if kv.1=k then(kv.1,u) else kv):=by
 unfold KV at r ⊢;induction r with
 | nil=>exact .nil
 | @cons p q ps qs h t ih =>
  rw[Qc,Qc];refine .cons ?_ ih;obtain⟨h1,h2⟩:=h;by_cases e:p.1=k
  ·rw[Ad e,Ad (h1.symm.trans e)];exact⟨h1,ry⟩
  ·rw[Ag e,Ag (fun z=>e (h1.trans z))];exact⟨h1,h2⟩
theorem KV.put {kvs:List (κ×V)} {vs:List (κ×Value)} (r:KV kvs vs) (k:κ) {y:V} {u:Value} (ry:RelV y u):KV (putK kvs k y) (stored vs k u):=by
 unfold putK stored;rw[r.any k];by_cases e:(vs.any fun kv=>decide (kv.1=k))=true
 ·rw[Ad e,Ad e];exact r.repl k ry
 ·rw[Ag e,Ag e];exact Paired.snoc r ⟨rfl,ry⟩
theorem KV.length {kvs:List (κ×V)} {vs:List (κ×Value)} (r:KV kvs vs):kvs.length=vs.length:=Paired.length r
end
theorem m3 {P:Program} {w:World} {k:Key} {u:Value} (r:RelV (kV k) u):(bO P w).is k u=true:=by
 cases k with
 | inl i=>obtain⟨t,e⟩:=(show ∃t,u=Value.int i t from r);subst e;exact rz P w i t
 | inr x=>obtain⟨t,e⟩:=(show ∃t,u=Value.str x t from r);subst e;exact d5 P w x t
theorem oP {P:Program} {w:World}:∀{ks:List Key} {us:List Value},Vals (ks.map kV) us->ItemsAre (bO P w) ks us
 | [],_,r=>by rw[Bj]at r;cases r;exact .nil
 | k::ks,_,r=>by
  rw[Qc]at r;cases r with
  | cons h t=>exact .cons (m3 h) (oP t)
abbrev KT (H:Hp):List (List Key×V)->List (List Key×Addr×Value)->Prop:=Paired fun p q=>p.1=q.1/\H q.2.1=some (.tup (p.1.map kV))/\RelV p.2 q.2.2
theorem KT.val {H:Hp} {kvs:List (List Key×V)} {xs:List (List Key×Addr×Value)} (r:KT H kvs xs) (k:List Key):RelO (ig kvs k) ((atKey xs k).map (·.2)):=by
 induction r with
 | nil=>exact True.intro
 | @cons p q ps qs h t ih =>
  obtain⟨h1,_,h2⟩:=h;by_cases e:p.1=k
  ·have e':q.1=k:=h1.symm.trans e;have b:atKey (q::qs) k=some q.2:=by simp[atKey,Yh,e']
   rw[ij e,b];exact h2
  ·have e':¬ q.1=k:=fun z=>e (h1.trans z);have b:atKey (q::qs) k=atKey qs k:=by simp[atKey,Yh,e']
   rw[ik e,b];exact ih
theorem KT.repl {H:Hp} {kvs:List (List Key×V)} {xs:List (List Key×Addr×Value)} (r:KT H kvs xs) (k:List Key) {y:V} {u:Value} (ry:RelV y u) :
  KT H (kvs.map fun kv=>if kv.1=k then(kv.1,y) else kv) (xs.map (putAt k u)):=by
 induction r with
 | nil=>exact .nil
 | @cons p q ps qs h t ih =>
  rw[Qc,Qc];refine .cons ?_ ih;obtain⟨h1,h2,h3⟩:=h;unfold putAt;by_cases e:p.1=k
  ·rw[Ad e,Ad (h1.symm.trans e)];exact⟨h1,h2,ry⟩
  ·rw[Ag e,Ag (fun z=>e (h1.trans z))];exact⟨h1,h2,h3⟩
theorem KT.put {H:Hp} {kvs:List (List Key×V)} {xs:List (List Key×Addr×Value)} (r:KT H kvs xs) (k:List Key) {b:Addr} {y:V} {u:Value} (hb:H b=some (.tup (k.map kV))) (ry:RelV y u) :
  KT H (putK kvs k y) (storedH xs k b u):=by
 have e:(kvs.any fun kv=>decide (kv.1=k))=(atKey xs k).isSome:=by
  rw[rC,(r.val k).isSome_eq,Xm]
 unfold putK storedH;rw[e];by_cases q:(atKey xs k).isSome=true
 ·rw[Ad q,Ad q];exact r.repl k ry
 ·rw[Ag q,Ag q];exact Paired.snoc r ⟨rfl,hb,ry⟩
theorem KT.keeps {H H':Hp} {kvs:List (List Key×V)} {xs:List (List Key×Addr×Value)} (r:KT H kvs xs) (ht:∀b ys,H b=some (.tup ys)->H' b=some (.tup ys)):KT H' kvs xs :=
 Paired.mapP r fun _ _ z=>⟨z.1,ht _ _ z.2.1,z.2.2⟩
section
variable {P:Program} {w:World} {H:Hp} {h:Heap} {a:Addr}
theorem Du {u:HO} (ok:HOk P w H h) (e:Rd H a u):ObjOk P w H h a u:=e.ok ok
theorem uF {kvs:List (Key×V)} (ok:HOk P w H h) (e:Rd H a (.dK kvs)):kvs.length<=sizeLine/\(a == sysModules)=false/\∃vs,KV kvs vs/\h.DictOf (bO P w) a vs :=
 show ObjOk P w H h a (.dK kvs) from Du ok e
theorem Dv {kvs:List (Key×V)} (ok:HOk P w H h) (e:H a=some (.dK kvs)):kvs.length<=sizeLine/\(a == sysModules)=false/\∃vs,KV kvs vs/\h.DictOf (bO P w) a vs:=uF ok (.inl e)
theorem m5 {ks:List Key} (ok:HOk P w H h) (e:H a=some (.tup (ks.map kV))):(tupleKind (bO P w)).is h ks a:=by
 obtain⟨_,its,r,o,h1,h2,n,h3⟩:=(show ObjOk P w H h a (.tup (ks.map kV)) from ok a _ e);exact⟨o,its.toArray,n,h1,h2,h3,by simpa using oP r⟩
theorem xD {ep:Nat×List Addr} {kvs:List (List Key×V)} (ok:HOk P w H h) (e:Rd H a (.dT ep kvs)):kvs.length<=sizeLine/\(a == sysModules)=false /\
  ∃xs,KT H kvs xs/\h.DictOfH (tupleKind (bO P w)) a xs:=by
 obtain⟨z,y,xs,r,_,o,es,h1,h2,h3,h4,h5⟩:=(show ObjOk P w H h a (.dT ep kvs) from Du ok e);refine⟨z,y,xs,r,o,es,ep.1,h1,h2,h3,h4,fun x hx=>?_,h5⟩;have all:∀{l:List (List Key×V)} {m:List (List Key×Addr×Value)},KT H l m->∀x∈m,(tupleKind (bO P w)).is h x.1 x.2.1:=by
  intro l m q;induction q with
  | nil=>intro x hx;exact nomatch hx
  | @cons p q ps qs hq t ih =>
   intro x hx;rcases Vc.mp hx with e|hx
   ·subst e;exact m5 ok (by rw[← hq.1];exact hq.2.1)
   ·exact ih x hx
 exact all r x hx
end
section
variable {P:Program} {w:World} {H:Hp} {h:Heap} {a:Addr}
theorem Hk {ep:Nat×List Addr} {kvs:List (List Key×V)} (ok:HOk P w H h) (e:H a=some (.dT ep kvs)):kvs.length<=sizeLine/\(a == sysModules)=false /\
  ∃xs,KT H kvs xs/\xs.map (·.2.1)=ep.2/\h.DictOfH (tupleKind (bO P w)) a xs:=by
 obtain⟨z,y,xs,r,ra,o,es,h1,h2,h3,h4,h5⟩:=(show ObjOk P w H h a (.dT ep kvs) from ok a _ e);refine⟨z,y,xs,r,ra,o,es,ep.1,h1,h2,h3,h4,fun x hx=>?_,h5⟩;have all:∀{l:List (List Key×V)} {m:List (List Key×Addr×Value)},KT H l m->∀x∈m,(tupleKind (bO P w)).is h x.1 x.2.1:=fun {l m} q=>by
  induction q with
  | nil=>exact fun x hx=>nomatch hx
  | cons hq t ih =>
   intro x hx;rcases Vc.mp hx with e'|hx
   ·subst e';exact m5 ok (by rw[← hq.1];exact hq.2.1)
   ·exact ih x hx
 exact all r x hx
end
def DGet (H:Hp) (a:Addr) (y:V) (r:Option V):Prop :=
 (∃kvs k,Rd H a (.dK kvs)/\y=kV k/\r=ig kvs k)∨∃ep kvs k b,Rd H a (.dT ep kvs)/\y=.ref b/\H b=some (.tup (k.map kV))/\r=ig kvs k
def wa (as:List Addr) (kvs:List (List Key×V)) (k:List Key) (b:Addr):List Addr:=if (ig kvs k).isSome=true then as else as++[b]
def Hl (H:Hp) (a:Addr) (y v:V) (R:Hp->Prop):Prop :=
 (∃kvs k,H a=some (.dK kvs)/\y=kV k/\kvs.length<sizeLine/\R (upd H a (.dK (putK kvs k v)))) ∨
 ∃ep kvs k b,H a=some (.dT ep kvs)/\y=.ref b/\H b=some (.tup (k.map kV))/\kvs.length<sizeLine/\∀n,R (upd H a (.dT (n,wa ep.2 kvs k b) (putK kvs k v)))
theorem DGet.k {H:Hp} {a:Addr} {kvs:List (Key×V)} {k:Key} (e:H a=some (.dK kvs)):DGet H a (kV k) (ig kvs k):=.inl ⟨kvs,k,.inl e,rfl,rfl⟩
theorem DGet.t {H:Hp} {a b:Addr} {ep:Nat×List Addr} {kvs:List (List Key×V)} {k:List Key} (e:H a=some (.dT ep kvs)) (eb:H b=some (.tup (k.map kV))):DGet H a (.ref b) (ig kvs k):=.inr ⟨ep,kvs,k,b,.inl e,rfl,eb,rfl⟩
theorem ED {H:Hp} {kvs:List (List Key×V)} {xs:List (List Key×Addr×Value)} {as:List Addr} {k:List Key} {b:Addr} {u:Value} (ra:xs.map (·.2.1)=as) (rel:KT H kvs xs):(storedH xs k b u).map (·.2.1)=wa as kvs k b:=by
 have e:(ig kvs k).isSome=(atKey xs k).isSome:=by rw[(rel.val k).isSome_eq,Xm]
 unfold storedH wa;rw[e];by_cases q:(atKey xs k).isSome=true
 ·rw[Ad q,Ad q,← ra,Vi];refine Zl fun x _=>?_;show(putAt k u x).2.1=x.2.1;unfold putAt;split<;>rfl
 ·rw[Ag q,Ag q,Ze,ra];rfl
section
variable {X:Cx} {pins:List (Addr×Obj)} {σ:St} {H:Hp} {s:Shared} {a:Addr} {y v:V} {u r:Value} {o:Option V} {A:Around} {E:Value->Shared->Prop}
theorem Inv.big (I:Inv X pins σ H s):sysModules<s.heap.objs.size:=by
 have h:mainGlobals<s.heap.objs.size:=(I.mod.glob.keeps I.bk).lt;exact Nat.lt_trans (by decide) h
theorem wc {Q:Value->Shared->Prop} (hu:A.units+1<cLine) (I:Inv X pins σ H s) (g:DGet H a y (some v)) (ry:RelV y u) (h:∀w' s',Inv X pins σ H s'->RelV v w'->Q w' s') :
  wpAny (model X.prog X.w) A (getItem (.ref a) u) Q E s:=by
 rcases g with⟨kvs,k,e,ey,l⟩|⟨ep,kvs,k,b,e,ey,eb,l⟩
 ·subst ey;obtain⟨z,hd,vs,rel,dd⟩:=uF I.hok e;obtain⟨w',hw,rw'⟩:=RelO.some_of (v:=v) (o:=valueAt vs k) (by rw[l];exact rel.val k)
  exact wpAny_getItem_of (m3 ry) dd.mapOf hw (h w' _ (I.tok _) rw')
 ·subst ey;cases (show u=Value.ref b from ry);obtain⟨z,hd,xs,rel,dd⟩:=xD I.hok e;obtain⟨w',hw,rw'⟩:=RelO.some_of (v:=v) (o:=(atKey xs k).map (·.2)) (by rw[l];exact rel.val k)
  obtain⟨p,hp,hp2⟩:=Yg.mp hw;refine wpAny_getItem_heap (Bb hu) (m5 I.hok eb) dd hp ?_;rw[hp2];exact h w' _ (I.tok _) rw'
theorem Jl {Q:Value->Shared->Prop} (hu:A.units+1<cLine) (I:Inv X pins σ H s) (g:DGet H a y o) (ry:RelV y u) (h:∀s',Inv X pins σ H s'->Q (.bool o.isSome) s') :
  wpAny (model X.prog X.w) A (compareOp .In u (.ref a)) Q E s:=by
 rcases g with⟨kvs,k,e,ey,l⟩|⟨ep,kvs,k,b,e,ey,eb,l⟩
 ·subst ey;obtain⟨z,hd,vs,rel,dd⟩:=uF I.hok e;refine wpAny_in_of (m3 ry) hd dd.mapOf ?_;rw[← (rel.val k).isSome_eq,← l];exact h _ (I.tok _)
 ·subst ey;cases (show u=Value.ref b from ry);obtain⟨z,hd,xs,rel,dd⟩:=xD I.hok e;refine wpAny_in_heap (Bb hu) (m5 I.hok eb) hd dd ?_;have q:=(rel.val k).isSome_eq;rw[Xm]at q;rw[← q,← l];exact h _ (I.tok _)
theorem pS {h':Heap} {t':Nat} {ob:HO} (I:Inv X pins σ H s) (mu:Hd (H a)) (hs:Heap.SameBut a s.heap h') (he:∃q,h'.get? a=some q) (new:ObjOk X.prog X.w (upd H a ob) h' a ob) (ht:0<t':=by first|assumption|exact Vg _|exact Inv.tk (by assumption)|exact Inv.tkl (by assumption) (by assumption)|lia) :
  Inv X pins σ (upd H a ob) { s with heap:=h',toks:=t' } :=
 I.write (x:=a) (e:=a) mu (.inl rfl) (fun b q hb z=>(hs.2 b hb).trans z) he new
theorem xE {P:Program} {w:World} {H':Hp} {h':Heap} {kvs:List (Key×V)} {vs:List (Key×Value)} (z:kvs.length<=sizeLine) (hd:(a == sysModules)=false) (rel:KV kvs vs) (dd:h'.DictOf (bO P w) a vs) :
  ObjOk P w H' h' a (.dK kvs):=⟨z,hd,vs,rel,dd⟩
theorem we {R:Hp->Prop} {Q:Unit->Shared->Prop} (hu:A.units+1<cLine) (I:Inv X pins σ H s) (g:Hl H a y v R) (ry:RelV y u) (rv:RelV v r) (h:∀s' H',Inv X pins σ H' s'->R H'->Q () s') :
  wpAny (model X.prog X.w) A (setItem (.ref a) u r) Q E s:=by
 rcases g with⟨kvs,k,e,ey,l,eH⟩|⟨ep,kvs,k,b,e,ey,eb,l,eH⟩
 ·subst ey;obtain⟨z,hd,vs,rel,dd⟩:=Dv I.hok e;have hz:vs.length<=sizeLine:=by rw[← rel.length];exact z
  have hl:(putK kvs k v).length<=sizeLine:=by have:=il kvs k v;lia
  refine wpAny_setItem_pairs (hsz:=hz) (m3 ry) dd fun h' dd' hs=>h _ _ ?_ eH;have he:∃q,h'.get? a=some q:=let ⟨q,_,_,hq,_⟩:=dd';⟨q,hq⟩;exact pS I (by rw[e];exact True.intro) hs he (xE hl hd (rel.put k rv) dd')
 ·subst ey;cases (show u=Value.ref b from ry);obtain⟨z,hd,xs,rel,ra0,dd⟩:=Hk I.hok e;have hz:xs.length<=sizeLine:=by rw[← Paired.length rel];exact z
  have hl:(putK kvs k v).length<=sizeLine:=by have:=il kvs k v;lia
  have ra:xs.map (·.2.1)=ep.2:=ra0;refine wpAny_setItem_heap (hsz:=hz) (Bb hu) (m5 I.hok eb) dd fun h' dd' hs=>?_;obtain⟨q,es,ep',hq,h2,h3,h4,_,h5⟩:=dd';refine h _ _ ?_ (eH ep');refine pS I (by rw[e];exact True.intro) hs ⟨q,hq⟩ ⟨hl,hd,_,(rel.put k eb rv).keeps fun c ys ec=>?_,ED ra rel,q,es,hq,h2,h3,h4,h5⟩
  rw[ag (Hc ec e (fun z=>nomatch z))];exact ec
end
def BS (i:Expr):Prop:=∀ov iv,subscripted i false ov iv=operate [ov,iv] (getItem ov iv)
theorem uG {prog:Program} {w:World} {A:Around} {E:Value->Shared->Prop} {s:Shared} {env:Env} {value slice:Expr} {pos:Pos} {T id:String} {Q:Value->Shared->Prop}
  (hl:typeLookup (.type T) "__getitem__"=pure (some (.builtin id))) (hs:BS slice)
  (h:wpAny (model prog w) A (eval value env) (fun o s₁=>wpAny (model prog w) A (eval slice env) (fun i s₂=>s₂.TypeIs o T/\wpAny (model prog w) A (getItem o i) Q E s₂) E s₁) E s) :
  wpAny (model prog w) A (eval (.Subscript value slice pos) env) Q E s:=by
 refine Subscript_ (Ak h (fun o s₁ h₁=>Ak h₁ (fun i s₂ h₂=>?_) fun _ _ x=>x) fun _ _ x=>x);obtain⟨hT,h₂⟩:=h₂;unfold subscriptTail;refine Aa ?_;rw[getitemInPython_of_ne hT.not_modules];refine Aa (wpAny_specialOf hT hl ?_);have fin:wpAny (model prog w) A (subscripted slice false o i) (fun r s₃=>wpAny (model prog w) A (letTemporaryGo value o r >>= fun _=>pure r) Q E s₃) E s₂:=by
  rw[hs o i];exact wpAny_operating (Ak h₂ (fun r s₃ h₃=>Aa (wpAny_letTemporaryGo (Ah h₃))) fun _ _ x=>x)
 first
  | exact Ah (Aa fin)
  | exact Aa (Ah (Aa fin))
  | exact Aa fin
theorem rD {X:Cx} {pins:List (Addr×Obj)} {σ:St} {H:Hp} {s:Shared} {a:Addr} {y:V} {o:Option V} (I:Inv X pins σ H s) (g:DGet H a y o):s.TypeIs (.ref a) "dict":=by
 rcases g with⟨kvs,k,e,_,_⟩|⟨ep,kvs,k,b,e,_,_,_⟩
 ·obtain⟨_,_,vs,_,dd⟩:=uF I.hok e;exact dd.typeIs
 ·obtain⟨_,_,xs,_,dd⟩:=xD I.hok e;exact dd.typeIs
def Hm (td ty:TE):TE:=fun σ H Q=>td σ H fun x H1=>ty σ H1 fun y H2=>∃a v,x=.ref a/\DGet H2 a y (some v)/\Q v H2
section
variable {X:Cx} {o i e value:Expr} {pos pos' tpos:Pos} {td ty tv:TE}
theorem BT (hu:X.A.units+1<cLine) (ho:PE X o td) (hi:PE X i ty) (hs:BS i):PE X (.Subscript o i pos) (Hm td ty):=by
 intro pins s σ H Q I h;refine uG PySem.F.slot_dict_getitem.lookup hs (b7 (ho pins s σ H _ I h) fun u s1 ⟨x,H1,I1,rx,q1⟩=>b7 (hi pins s1 σ H1 _ I1 q1) fun iv s2 zz9=>?_);obtain⟨y,H2,I2,ry,a,v,ex,g,q2⟩:=zz9;subst ex;obtain rfl:u=Value.ref a:=rx;exact⟨rD I2 g,wc hu I2 g ry fun w' s3 I3 rw'=>⟨v,H2,I3,rw',q2⟩⟩
end
theorem rE {P:Program} {w:World} {H:Hp} (h:Heap) (hb:sysModules<h.objs.size):ObjOk P w H (h.push { cls:=.type "dict",data:=.dict #[] }) h.objs.size (.dK []) :=
 ⟨Vj _,beq_eq_false_iff_ne.mpr (Al (Zf hb)),[],.nil,Heap.DictOf.new h⟩
def xF:TE:=fun _ H Q=>∀p,H p=none->Q (.ref p) (upd H p (.dK []))
section
variable {X:Cx} {pos:Pos}
theorem xG:PE X (.Dict [] [] pos) xF:=fun pins s σ H Q I h =>
 wpAny_Dict_empty ⟨.ref s.heap.objs.size,_,I.laid (a:=s.heap.objs.size) (o:=.dK []) (t':=s.toks) (fun _ _ q=>Ab _ q) (Wa _) (rE s.heap I.big),rfl,h _ (I.hok.fresh (Wa _))⟩
end
def tz:List (TE×TE)->St->Hp->(List (V×V)->Hp->Prop)->Prop
 | [],_,H,Q=>Q [] H
 | (tk,tv)::r,σ,H,Q=>tk σ H fun x H1=>tv σ H1 fun y H2=>tz r σ H2 fun ps H3=>Q ((x,y)::ps) H3
abbrev VV:List (V×V)->List (Value×Value)->Prop:=Paired fun p q=>RelV p.1 q.1/\RelV p.2 q.2
def IT (X:Cx) (pos:Pos) (keys:List (Option Expr)) (values:List Expr) (trs:List (TE×TE)):Prop :=
 ∀(pins:List (Addr×Obj)) (s:Shared) (σ:St) (H:Hp) (Q:List (V×V)->Hp->Prop),Inv X pins σ H s->tz trs σ H Q ->
  wpAny (model X.prog X.w) X.A (evalPairs (pairTrees keys values X.env pos)) (fun vs s'=>∃ps H',Inv X pins σ H' s'/\VV ps vs/\Q ps H') X.xe s
theorem uH {X:Cx} {pos:Pos}:IT X pos [] [] []:=fun pins s σ H Q I h=>pairTrees_nil_walk ⟨[],H,I,.nil,h⟩
theorem jS {X:Cx} {pos:Pos} {k v:Expr} {ks:List (Option Expr)} {vs:List Expr} {tk tv:TE} {trs:List (TE×TE)} (hk:PE X k tk) (hv:PE X v tv) (hr:IT X pos ks vs trs) :
  IT X pos (some k::ks) (v::vs) ((tk,tv)::trs):=fun pins s σ H Q I h =>
 pairTrees_cons_walk (b7 (hk pins s σ H _ I h) fun u s1 ⟨x,H1,I1,rx,q1⟩=>b7 (hv pins s1 σ H1 _ I1 q1) fun w2 s2 ⟨y,H2,I2,ry,q2⟩ =>
  b7 (hr pins s2 σ H2 _ I2 q2) fun ws s3 ⟨ps,H3,I3,rel,q3⟩=>⟨(x,y)::ps,H3,I3,.cons ⟨rx,ry⟩ rel,q3⟩)
def kO (kvs more:List (Key×V)):List (Key×V):=more.foldl (fun acc kv=>putK acc kv.1 kv.2) kvs
theorem KV.merge:∀{more:List (Key×V)} {rs:List (Key×Value)} {kvs:List (Key×V)} {vs:List (Key×Value)},KV more rs->KV kvs vs->KV (kO kvs more) (merged vs rs):=by
 intro more rs kvs vs r;unfold KV at r;induction r generalizing kvs vs with
 | nil=>intro q;exact q
 | @cons p q ps qs h t ih =>
  intro r0;have e:KV (putK kvs p.1 p.2) (stored vs q.1 q.2):=by
   have:=r0.put p.1 h.2;rw[← h.1];exact this
  exact ih e
theorem i7:∀(more kvs:List (Key×V)),(kO kvs more).length<=kvs.length+more.length
 | [],kvs=>by show kvs.length<=kvs.length+0;lia
 | p::r,kvs=>by
  have h1:=i7 r (putK kvs p.1 p.2);have h2:=il kvs p.1 p.2;show(kO (putK kvs p.1 p.2) r).length<=_;rw[Yc];lia
theorem m6 {P:Program} {w:World}:∀{kvs:List (Key×V)} {ws:List (Value×Value)},VV (kvs.map fun kv=>(kV kv.1,kv.2)) ws->∃rs,Carries (bO P w) ws rs/\KV kvs rs
 | [],_,r=>by rw[Bj]at r;cases r;exact⟨[],True.intro,.nil⟩
 | p::kvs,_,r=>by
  rw[Qc]at r;cases r with
  | @cons a b as bs h t =>
   obtain⟨rs,c,q⟩:=m6 (P:=P) (w:=w) t;obtain⟨b1,b2⟩:=b;exact⟨(p.1,b2)::rs,⟨m3 h.1,rfl,c⟩,.cons ⟨rfl,h.2⟩ q⟩
def Dw (trs:List (TE×TE)):TE:=fun σ H Q=>∀p,H p=none->tz trs σ (upd H p (.dK [])) fun ps H2=>H2 p=some (.dK [])/\∃kvs:List (Key×V),ps=kvs.map (fun kv=>(kV kv.1,kv.2))/\kvs.length<=15/\Q (.ref p) (upd H2 p (.dK (kO [] kvs)))
theorem uI {X:Cx} {pos:Pos} {keys:List (Option Expr)} {values:List Expr} {trs:List (TE×TE)} (h:IT X pos keys values trs) (hall:keys.all (·.isSome)=true) (hl:keys.length=values.length) (h0:keys≠[])
  (h15:keys.length<=15):PE X (.Dict keys values pos) (Dw trs):=by
 intro pins s σ H Q I q;have hn:=I.hok.fresh (Wa s.heap.objs.size);have I1:=I.laid (a:=s.heap.objs.size) (o:=.dK []) (h':=s.heap.push { cls:=.type "dict",data:=.dict #[] }) (t':=s.toks) (fun _ _ q=>Ab _ q) (Wa _) (rE s.heap I.big);refine wpAny_Dict_walk (knd:=bO X.prog X.w) hall hl h0 h15 (b7 (h pins _ σ _ _ I1 (q _ hn)) fun ws s2 zz9=>?_);obtain⟨ps,H2,I2,rel,e,kvs,ep,lk,q2⟩:=zz9;subst ep;obtain⟨rs,c,rk⟩:=m6 (P:=X.prog) (w:=X.w) rel;obtain⟨z,hd,vs0,r0,dd⟩:=Dv I2.hok e;cases r0;refine⟨rs,c,dd,fun h' dd' hs=>⟨.ref s.heap.objs.size,_,?_,rfl,q2⟩⟩;have hz:(kO [] kvs).length<=sizeLine:=by
  have h1:=i7 kvs [];rw[Xl]at h1;rw[AF];lia
 have he:∃q,h'.get? s.heap.objs.size=some q:=let ⟨q,_,_,hq,_⟩:=dd';⟨q,hq⟩;exact pS I2 (by rw[e];exact True.intro) hs he (xE hz hd (rk.merge .nil) dd') (Va I2.tk (Qm _ _))
end L2
namespace HT
open PySem PyProof.Rows
section
variable {prog:Program} {w:World} {A:Around} {E:Value->Shared->Prop} {s:Shared}
theorem cat_tup {t b:Addr} {vs ws:List Value} {Q:Value->Shared->Prop} (ht:IsTup s.heap t vs.toArray) (hb:IsTup s.heap b ws.toArray) (hv:vs≠[])
  (h1:ws=[]->Q (.ref t) s) (h2:ws≠[]->Q (.ref s.heap.objs.size) { s with heap:=s.heap.push { cls:=.type "tuple",data:=.seq (vs++ws).toArray } })
  (hsz:vs.length+ws.length<=sizeLine):wpAny (model prog w) A (binaryOp .Add (.ref t) (.ref b)) Q E s:=by
 obtain⟨⟨cls,dd,data,sl⟩,ho,hc,n,hd⟩:=id ht;obtain⟨⟨cls2,dd2,data2,sl2⟩,ho2,hc2,n2,hd2⟩:=id hb;simp only at hc hd hc2 hd2;subst hc hd hc2 hd2;have e:vs.toArray++ws.toArray=(vs++ws).toArray:=by simp
 by_cases hw:ws=[]
 ·exact concat_meets ⟨_,ho,rfl⟩ ⟨_,ho2,rfl⟩ Bq seq_tuple_add PySem.F.slot_tuple_add PySem.F.entry_tuple_add (PySem.F.args_tuple_add_2 _ _)
   (tuple_addW1 t b vs.toArray ws.toArray n n2 dd dd2 sl sl2 (by simpa using hv) (by simp[hw])) ⟨ho,ho2,h1 hw⟩
 ·refine concat_meets ⟨_,ho,rfl⟩ ⟨_,ho2,rfl⟩ Bq seq_tuple_add PySem.F.slot_tuple_add PySem.F.entry_tuple_add (PySem.F.args_tuple_add_2 _ _)
   (tuple_addW2 t b vs.toArray ws.toArray n n2 dd dd2 sl sl2 (by simpa using hv) (by simpa using hw) (by rw[Vb,Vb];exact hsz)) ⟨ho,ho2,?_⟩
  rw[e];exact h2 hw
def sIx (n d:Nat):Option Int->Nat
 | none=>d
 | some v=>if v<0 then(v+(n:Int)).toNat else min v.toNat n
theorem sIx_none (n d:Nat):sIx n d none=d:=rfl
theorem EF (n d:Nat) (hd:d<=n) (o:Option Int):sIx n d o<=n:=by
 cases o with
 | none=>exact hd
 | some v =>
  show(if v<0 then(v+(n:Int)).toNat else min v.toNat n)<=n;by_cases hv:v<0
  ·rw[Ad hv];lia
  ·rw[Ag hv];exact Nat.min_le_right _ _
theorem clip_nat (v:Int) (n:Nat) (hv:¬ v<0):min v (n:Int)=((min v.toNat n:Nat):Int):=by
 obtain⟨k,rfl⟩:=Int.eq_ofNat_of_zero_le (Int.not_lt.mp hv);rw[Int.toNat_natCast];rcases Nat.le_total k n with h|h
 ·rw[Nat.min_eq_left h];exact Int.min_eq_left (Int.ofNat_le.mpr h)
 ·rw[Nat.min_eq_right h];exact Int.min_eq_right (Int.ofNat_le.mpr h)
theorem uJ (v:Int) (n d:Nat):(if v<0 then max (v+(n:Int)) 0 else min v (n:Int))=((sIx n d (some v):Nat):Int):=by
 show(if v<0 then max (v+(n:Int)) 0 else min v (n:Int))=(((if v<0 then(v+(n:Int)).toNat else min v.toNat n):Nat):Int);by_cases hv:v<0
 ·rw[Ad hv,Ad hv];exact(Int.ofNat_toNat _).symm
 ·rw[Ag hv,Ag hv];exact clip_nat v n hv
theorem tD (lo hi:Option Int) (n:Nat):Builtin.Slice.sliceAdjust lo hi 1 (n:Int)=(((sIx n 0 lo:Nat):Int),((sIx n n hi:Nat):Int)):=by
 have h1:¬ ((1:Int)<0):=by lia
 unfold Builtin.Slice.sliceAdjust;simp only[h1,if_false];refine Prod.ext ?_ ?_
 ·cases lo with
  | none=>rfl
  | some v=>exact uJ v n 0
 ·cases hi with
  | none=>rfl
  | some v=>exact uJ v n n
theorem tE (i j:Nat):Builtin.Slice.slicePlaces (i:Int) (j:Int) 1=j-i:=by
 unfold Builtin.Slice.slicePlaces;have h1:(1:Int) > 0:=by lia
 simp only[h1,if_true,Int.ediv_one];split<;>lia
theorem m7 {v:Value} {o:Option Int} {Q:Option Int->Shared->Prop} (p:IsPart v o) (h:Q o s):wpAny (model prog w) A (Builtin.Slice.slicePartIndex v) Q E s:=by
 cases p with
 | none=>exact slicePart_none h
 | int i t=>exact slicePart_int h
theorem gq {sl:Addr} {vl vu:Value} {lo hi:Option Int} {n:Nat} {Q:Int×Int×Nat->Shared->Prop} (hs:s.heap.IsSliceOf sl vl vu .none) (pl:IsPart vl lo) (pu:IsPart vu hi)
  (h:Q (((sIx n 0 lo:Nat):Int),1,sIx n n hi-sIx n 0 lo) s):wpAny (model prog w) A (Builtin.Slice.sliceApplied (.ref sl) (pure (n:Int))) Q E s:=by
 obtain⟨os,hos,hcs,hds⟩:=id hs;unfold Builtin.Slice.sliceApplied Builtin.Slice.sliceFields;refine Aa (Aa (At hos hds (x:=vl) rfl (Aa (At hos hds (x:=vu) rfl (Aa (At hos hds (x:=.none) rfl (Ah ?_)))))));refine Aa (slicePart_none ?_);show wpAny _ _ (if ((1:Int) == 0)=true then _ else _) _ _ s;rw[Ag (by decide)]
 refine Aa (m7 pl (Aa (m7 pu (Aa (Ah ?_)))));show wpAny _ _ (match Builtin.Slice.sliceAdjust lo hi 1 (n:Int) with|(lo,hi)=>pure (lo,(1:Int),Builtin.Slice.slicePlaces lo hi 1)) _ _ s
 rw[tD lo hi n];show wpAny _ _ (pure (((sIx n 0 lo:Nat):Int),(1:Int),Builtin.Slice.slicePlaces ((sIx n 0 lo:Nat):Int) ((sIx n n hi:Nat):Int) 1)) _ _ s;rw[tE];exact Ah h
theorem xH (xs:Array Value) (i k:Nat):((List.range k).filterMap fun(m:Nat)=>xs[((i:Int)+(m:Int)*1).toNat]?).toArray=((xs.toList.drop i).take k).toArray:=by
 have e:(fun(m:Nat)=>xs[((i:Int)+(m:Int)*1).toNat]?)=fun m=>xs[i+m]?:=by
  funext m
  have:((i:Int)+(m:Int)*1).toNat=i+m:=by lia
  rw[this]
 rw[e];have:=pick_run xs i k;rw[List.filterMap_map]at this;have e2:((fun x=>xs[x]?) ∘ fun x=>i+x)=fun m=>xs[i+m]?:=rfl;rw[e2]at this;rw[this]
theorem getItem_tuple_cut {t sl:Addr} {items:Array Value} {vl vu:Value} {lo hi:Option Int} {Q:Value->Shared->Prop} (ht:IsTup s.heap t items) (hs:s.heap.IsSliceOf sl vl vu .none) (pl:IsPart vl lo) (pu:IsPart vu hi)
  (hw:¬ (sIx items.size 0 lo=0/\sIx items.size items.size hi=items.size))
  (h:Q (.ref s.heap.objs.size) { s with heap:=s.heap.push { cls:=.type "tuple",data:=.seq ((items.toList.drop (sIx items.size 0 lo)).take (sIx items.size items.size hi-sIx items.size 0 lo)).toArray } })
  (hsz:items.size<=sizeLine):wpAny (model prog w) A (getItem (.ref t) (.ref sl)) Q E s:=by
 have htake:sizeOk (.seq ((items.toList.drop (sIx items.size 0 lo)).take (sIx items.size items.size hi-sIx items.size 0 lo)).toArray):=by
  show((items.toList.drop (sIx items.size 0 lo)).take (sIx items.size items.size hi-sIx items.size 0 lo)).toArray.size<=sizeLine;rw[Vb,Vm,Xj,Qf];exact Qb (Nat.min_le_right _ _) (Qb (Nat.sub_le _ _) hsz)
 have hj:sIx items.size items.size hi<=items.size:=EF _ _ (Wa _) hi;obtain⟨os,hos,hcs,hds⟩:=id hs;have hTs:s.TypeIs (.ref sl) "slice":=⟨os,hos,hcs⟩;unfold getItem
 try with_reducible refine AW ?_
 first|refine Aa (Ah ?_)|skip
 refine Aa (wpAny_sequenceKey ht.typeIs (by decide) ?_)
 refine Aa (wpAny_callSpecial?_slot (name:=Str.ofString "__getitem__") ht.typeIs Ax
  (wpAny_call_entry Ax ht.typeIs entry_tuple_getitem ?_ (args_tuple_getitem _ _)))
 show wpAny _ _ (Builtin.Tuple.tupleItemsOf (.ref t) >>= _) _ _ s;refine Aa (tupleItemsOf_ ht ?_);refine Aa (wpAny_typeOf hTs ?_);rw[Ad (by decide)]
 refine Aa (gq hs pl pu ?_);have hno:¬ ((((sIx items.size 0 lo:Nat):Int) == 0&&(1:Int) == 1&&(sIx items.size items.size hi-sIx items.size 0 lo) == items.size)=true):=by
  intro q;rw[We,We]at q;have q1:((sIx items.size 0 lo:Nat):Int)=0:=eq_of_beq q.1.1;have q2:sIx items.size items.size hi-sIx items.size 0 lo=items.size:=eq_of_beq q.2;exact hw ⟨by lia,by lia⟩
 show wpAny _ _ (if (((sIx items.size 0 lo:Nat):Int) == 0&&(1:Int) == 1&&(sIx items.size items.size hi-sIx items.size 0 lo) == items.size)=true then _ else _) _ _ s;rw[Ag hno,xH]
 first
  | exact Aa (m:=Builtin.Tuple.tupleExact _) (Aw (Ah ⟨_,rfl,Ah h⟩) htake)
  | exact Aa (m:=Builtin.Tuple.tupleExact _) (Aw (Aa (Ah (Ah ⟨_,rfl,Ah h⟩))) htake)
  | exact Aa (Aa (m:=Builtin.Tuple.tupleExact _) (Aw (Ah (Ah ⟨_,rfl,Ah h⟩)) htake))
  | exact Aa (Aa (m:=Builtin.Tuple.tupleExact _) (Aw (Ah ⟨_,rfl,Ah h⟩) htake))
end
end HT
namespace L2
open PySem PySem.Spec PyProof.Rows
abbrev TO:=St->Hp->(Option Int->Hp->Prop)->Prop
def PO (X:Cx) (e:Option Expr) (t:TO):Prop :=
 ∀(pins:List (Addr×Obj)) (s:Shared) (σ:St) (H:Hp) (Q:Option Int->Hp->Prop),Inv X pins σ H s->t σ H Q ->
  wpAny (model X.prog X.w) X.A (evalPart e X.env) (fun u s'=>∃o H',Inv X pins σ H' s'/\IsPart u o/\Q o H') X.xe s
def uK:TO:=fun _ H Q=>Q none H
def Dy (t:TE):TO:=fun σ H Q=>t σ H fun x H1=>∃i,x=.int i/\Q (some i) H1
section
variable {X:Cx} {e:Expr} {te:TE} {lo hi:Option Expr} {tl th:TO} {pos p2:Pos}
theorem my:PO X none uK:=by
 intro pins s σ H Q I h;rw[evalPart_none];exact Ah ⟨none,H,I,.none,h⟩
theorem fU (h:PE X e te):PO X (some e) (Dy te):=by
 intro pins s σ H Q I hw;rw[evalPart_some];refine b7 (h pins s σ H _ I hw) fun u s1 zz9=>?_;obtain⟨x,H1,I1,r1,q1⟩:=zz9;obtain⟨i,rfl,q⟩:=q1;obtain⟨t,rfl⟩:=r1;exact⟨some i,H1,I1,.int i t,q⟩
def SlR (X:Cx) (r:V->Option Int->Option Int->Hp->VK->Prop):Prop :=
 ∀(pins:List (Addr×Obj)) (s:Shared) (σ:St) (H:Hp) (x:V) (v vl vu:Value) (lo hi:Option Int) (sl:Addr) (Q:VK),Inv X pins σ H s->RelV x v->s.heap.IsSliceOf sl vl vu .none->IsPart vl lo->IsPart vu hi->r x lo hi H Q ->
  ∃T id,typeLookup (.type T) "__getitem__"=pure (some (.builtin id))/\s.TypeIs v T/\wpAny (model X.prog X.w) X.A (getItem v (.ref sl)) (EP X pins σ Q) X.xe s
theorem SlR.or {r r':V->Option Int->Option Int->Hp->VK->Prop} (h:SlR X r) (h':SlR X r'):SlR X (fun x lo hi H Q=>r x lo hi H Q∨r' x lo hi H Q):=by
 intro pins s σ H x v vl vu lo hi sl Q I rx hs pl pu q;rcases q with q|q
 ·exact h pins s σ H x v vl vu lo hi sl Q I rx hs pl pu q
 ·exact h' pins s σ H x v vl vu lo hi sl Q I rx hs pl pu q
def JH (r:V->Option Int->Option Int->Hp->VK->Prop) (te:TE) (tl th:TO):TE:=fun σ H Q=>te σ H fun x H1=>tl σ H1 fun l H2=>th σ H2 fun u H3=>r x l u H3 Q
theorem gu {r:V->Option Int->Option Int->Hp->VK->Prop} (hr:SlR X r) (he:PE X e te) (hl:PO X lo tl) (hu:PO X hi th):PE X (.Subscript e (.Slice lo hi none p2) pos) (JH r te tl th):=by
 intro pins s σ H Q I h;refine Subscript_ (b7 (he pins s σ H _ I h) fun v s1 zz9=>?_);obtain⟨x,H1,I1,r1,q1⟩:=zz9;refine wpAny_Slice (b7 (hl pins s1 σ H1 _ I1 q1) fun vl s2 ⟨l,H2,I2,pl,q2⟩=>b7 (hu pins s2 σ H2 _ I2 q2) fun vu s3 zz9=>?_);obtain⟨u,H3,I3,pu,q3⟩:=zz9;rw[evalPart_none];refine Ah ?_;have I4:Inv X pins σ H3 { s3 with heap:=s3.heap.push { cls:=.type "slice",data:=.fields #[vl,vu,.none] } }:=I3.kept (t':=s3.toks) fun b ob q=>Ab _ q;obtain⟨T,id,hT,ht,hg⟩:=hr pins { s3 with heap:=s3.heap.push { cls:=.type "slice",data:=.fields #[vl,vu,.none] } } σ H3 x v vl vu l u s3.heap.objs.size Q I4 r1 (Heap.IsSliceOf.new ..) pl pu q3;show wpAny (model X.prog X.w) X.A (subscriptTail e (.Slice lo hi none p2) v (.ref s3.heap.objs.size)) (EP X pins σ Q) X.xe { s3 with heap:=s3.heap.push { cls:=.type "slice",data:=.fields #[vl,vu,.none] } };exact tail_any (ops:=[.ref s3.heap.objs.size,v]) ht hT hg (by with_unfolding_all rfl)
def rF (xs:List V) (lo hi:Option Int):List V:=(xs.drop (HT.sIx xs.length 0 lo)).take (HT.sIx xs.length xs.length hi-HT.sIx xs.length 0 lo)
theorem lK (xs:List V) (lo hi:Option Int):(rF xs lo hi).length<=xs.length:=by
 unfold rF;rw[Vm,Xj];lia
def EG (K:PySem.W.Frag):V->Option Int->Option Int->Hp->VK->Prop:=fun x lo hi H Q=>∃a xs,x=.ref a/\kJ K H a xs /\
 ¬ (HT.sIx xs.length 0 lo=0/\HT.sIx xs.length xs.length hi=xs.length)/\∀p,H p=none->Q (.ref p) (upd H p (.tup (rF xs lo hi)))
theorem EH:SlR X (EG X.K):=by
 intro pins s σ H x v vl vu lo hi sl Q I rx hs pl pu h;obtain⟨a,xs,rfl,hx,hw,q⟩:=h;cases rx;obtain⟨its,r,ht,hz⟩:=I.tuple hx;have hlen:its.toArray.size=xs.length:=by rw[Vb];exact r.length.symm
 refine⟨"tuple",_,Ax.lookup,ht.typeIs,?_⟩;refine HT.getItem_tuple_cut ht hs pl pu (by rw[hlen];exact hw) ?_ (by rw[hlen];exact hz)
 rw[hlen];refine⟨.ref s.heap.objs.size,_,I.laid (t':=s.toks) (o:=.tup (rF xs lo hi)) (fun b ob q=>Ab _ q) (Wa _) ?_,rfl,q _ (I.hok.fresh (Wa _))⟩;exact⟨Qb (lK xs lo hi) hz,_,(r.drop (HT.sIx xs.length 0 lo)).take (HT.sIx xs.length xs.length hi-HT.sIx xs.length 0 lo),IsTup.new _ _⟩
def xI (K:PySem.W.Frag):R2:=fun x y H Q=>∃a b xs ys,x=.ref a/\y=.ref b/\kJ K H a xs/\kJ K H b ys/\xs≠[]/\xs.length+ys.length<=sizeLine /\
 (ys=[]->Q (.ref a) H)/\(ys≠[]->∀p,H p=none->Q (.ref p) (upd H p (.tup (xs++ys))))
theorem Vals.nil_iff {xs:List V} {us:List Value} (r:Vals xs us):us=[]↔xs=[]:=by
 cases r with
 | nil=>simp
 | cons _ _=>simp
theorem BU:OpR X (binaryOp .Add) (xI X.K):=by
 intro pins s σ H x y v u Q I rx ry h;obtain⟨a,b,xs,ys,rfl,rfl,ha,hb,hx,hz,q1,q2⟩:=h;cases rx;cases ry;obtain⟨its,r1,p1,_⟩:=I.tuple ha;obtain⟨its2,r2,p2,_⟩:=I.tuple hb;refine HT.cat_tup p1 p2 (fun z=>hx (r1.nil_iff.mp z)) (fun z=>⟨.ref a,H,I,rfl,q1 (r2.nil_iff.mp z)⟩) (fun z=>?_) (by rw[← r1.length,← r2.length];exact hz)
 refine⟨.ref s.heap.objs.size,_,I.laid (t':=s.toks) (o:=.tup (xs++ys)) (fun b ob q=>Ab _ q) (Wa _) ?_,rfl,q2 (fun w=>z (r2.nil_iff.mpr w)) _ (I.hok.fresh (Wa _))⟩;exact⟨by rw[Xa];exact hz,_,r1.append r2,IsTup.new _ _⟩
end
end L2
namespace L2
open PySem PySem.Spec PyProof.Rows
def xJ (n:Nat) (i:Int):Option Nat:=if 0<=i then(if i<n then some i.toNat else none) else if -(n:Int)<=i then some (i+n).toNat else none
def i8 {α:Type} (xs:List α) (i:Int):Option α:=(xJ xs.length i).bind fun j=>xs[j]?
theorem uL {n:Nat} {i:Int} {j:Nat} (h:xJ n i=some j):seqIndex? i n=some j/\j<n/\-(n:Int)<=i/\i<n:=by
 unfold xJ at h;by_cases h0:0<=i
 ·rw[Ad h0]at h;by_cases h1:i<n
  ·rw[Ad h1]at h;have e:i.toNat=j:=Option.some.inj h;exact⟨by rw[seqIndex_of h0 h1,e],by lia,by lia,h1⟩
  ·rw[Ag h1]at h;cases h
 ·rw[Ag h0]at h;by_cases h1:-(n:Int)<=i
  ·rw[Ad h1]at h;have e:(i+n).toNat=j:=Option.some.inj h;exact⟨by rw[seqIndex_neg (by lia) h1,e],by lia,h1,by lia⟩
  ·rw[Ag h1]at h;cases h
theorem pT {α:Type} {xs:List α} {i:Int} {v:α} (h:i8 xs i=some v):∃j,seqIndex? i xs.length=some j/\xs[j]?=some v/\j<xs.length/\-(xs.length:Int)<=i/\i<xs.length:=by
 unfold i8 at h;cases e:xJ xs.length i with
 | none=>rw[e]at h;cases h
 | some j =>
  rw[e]at h;obtain⟨h1,h2,h3,h4⟩:=uL e;exact⟨j,h1,h,h2,h3,h4⟩
theorem mz {α:Type} {xs:List α} {j:Nat} {v:α} (h:xs[j]?=some v):i8 xs (j:Int)=some v:=by
 have hj:j<xs.length:=(Yd.mp h).1;have e:xJ xs.length (j:Int)=some j:=by
  unfold xJ;rw[Ad (by lia),Ad (by lia)];simp
 unfold i8;rw[e];exact h
def pU (b:Expr):Prop:=∀o i,subscripted b false o i=operate [o,i] (getItem o i)
def IxR (X:Cx) (r:R2):Prop :=
 ∀(value slice:Expr) (pins:List (Addr×Obj)) (s:Shared) (σ:St) (H:Hp) (x y:V) (v u:Value) (Q:VK),Inv X pins σ H s->RelV x v->RelV y u->r x y H Q ->
  subscripted slice false v u=operate [v,u] (getItem v u)->wpAny (model X.prog X.w) X.A (subscriptTail value slice v u) (EP X pins σ Q) X.xe s
def Hn (X:Cx) (id:String) (r:V->List V->Hp->VK->Prop):Prop :=
 ∀(pins:List (Addr×Obj)) (s:Shared) (σ:St) (H:Hp) (x:V) (xs:List V) (v:Value) (us:List Value) (Q:VK),Inv X pins σ H s->RelV x v->Vals xs us->r x xs H Q ->
  wpAny (model X.prog X.w) X.A (call (.builtin id) (v::us)) (EP X pins σ Q) X.xe s
section
variable {X:Cx} {a b:Expr} {ta tb:TE} {pos:Pos}
theorem IxR.or {r r':R2} (h:IxR X r) (h':IxR X r'):IxR X (fun x y H Q=>r x y H Q∨r' x y H Q):=by
 intro value slice pins s σ H x y v u Q I rx ry q hs;rcases q with q|q
 ·exact h value slice pins s σ H x y v u Q I rx ry q hs
 ·exact h' value slice pins s σ H x y v u Q I rx ry q hs
theorem Dz {r:R2} (hr:IxR X r) (ha:PE X a ta) (hb:PE X b tb) (hs:pU b):PE X (.Subscript a b pos) (w5 r ta tb):=by
 intro pins s σ H Q I h;exact Subscript_ (Ez ha hb I h fun v u s2 x y H2 I2 rx ry q=>hr a b pins s2 σ H2 x y v u Q I2 rx ry q (hs _ _))
def EI (K:PySem.W.Frag):R2:=fun x y H Q=>∃p xs i v,x=.ref p/\y=.int i/\hJ K H p xs/\i8 xs i=some v/\Q v H
def EJ (K:PySem.W.Frag):R2:=fun x y H Q=>∃p xs i v,x=.ref p/\y=.int i/\kJ K H p xs/\i8 xs i=some v/\Q v H
def EK:R2:=fun x y H Q=>∃z i c,x=.str z/\y=.int i/\z.length<=sizeLine/\i8 z.cps.toList i=some c/\Q (.str ⟨#[c]⟩) H
theorem ix_list:IxR X (EI X.K):=by
 intro value slice pins s σ H x y v u Q I rx ry h hs;obtain⟨p,xs,i,z,rfl,rfl,hq,he,q⟩:=h;cases rx;obtain⟨t,rfl⟩:=ry;obtain⟨its,r,pl,hz⟩:=I.list hq;obtain⟨j,h1,h2,h3,h4,h5⟩:=pT he;obtain⟨w,ew,rw'⟩:=r.get h2;have hl:=r.length;have hn:=kM;have fin:EP X pins σ Q w s:=⟨z,H,I,rw',q⟩;by_cases h0:0<=i
 ·have hj:i.toNat=j:=by
   rw[seqIndex_of h0 h5]at h1;exact Option.some.inj h1
  exact item_listR pl.isList h0 (by lia) (by rw[hj];simpa using ew) fin hs
 ·have hj:(i+(its.toArray.size:Int)).toNat=j:=by
   rw[seqIndex_neg (by lia) h4]at h1
   rw[Vb,← hl];exact Option.some.inj h1
  exact subscriptTail_builtinR (x:=w) pl.isList.typeIs slot_list_getitem.lookup
   (wpAny_getItem_list_neg (Q:=fun r s'=>r=w/\EP X pins σ Q r s') pl.isList (by lia) (by rw[Vb]<;>lia) (by lia) (by rw[hj];simpa using ew) ⟨rfl,fin⟩) hs
theorem ix_tup:IxR X (EJ X.K):=by
 intro value slice pins s σ H x y v u Q I rx ry h hs;obtain⟨p,xs,i,z,rfl,rfl,hq,he,q⟩:=h;cases rx;obtain⟨t,rfl⟩:=ry;obtain⟨its,r,pl,hz⟩:=I.tuple hq;obtain⟨j,h1,h2,h3,h4,h5⟩:=pT he;obtain⟨w,ew,rw'⟩:=r.get h2;have hl:=r.length;have hn:=kM;have fin:EP X pins σ Q w s:=⟨z,H,I,rw',q⟩;exact subscriptTail_builtinR (x:=w) pl.typeIs slot_tuple_getitem.lookup
  (getItem_tuple (j:=j) (Q:=fun r s'=>r=w/\EP X pins σ Q r s') pl (by lia) (by lia) (by rw[Vb,← hl];exact h1) (by simpa using ew) ⟨rfl,fin⟩) hs
theorem ix_str:IxR X EK:=by
 intro value slice pins s σ H x y v u Q I rx ry h hs;obtain⟨z,i,c,rfl,rfl,hz,he,q⟩:=h;obtain⟨t,rfl⟩:=rx;obtain⟨t',rfl⟩:=ry;obtain⟨j,h1,h2,h3,h4,h5⟩:=pT he;have hl:z.cps.toList.length=z.length:=by simp[Str.length]
 rw[hl]at h1 h4 h5;have hn:=kM
 exact tail_any (AJ s z t) slot_str_getitem.lookup (getItem_str (c:=c) (by
  have e1:decide (i < -(2 ^ 63:Int))=false:=Ae (by lia)
  have e2:decide (i ≥ 2 ^ 63)=false:=Ae (by lia)
  rw[e1,e2,Bool.or_false]) (by rw[h1];simpa using h2) ⟨.str ⟨#[c]⟩,H,I.tok _,⟨_,rfl⟩,q⟩) hs
def IU (K:PySem.W.Frag):R2:=fun x y H Q=>EI K x y H Q∨EJ K x y H Q∨EK x y H Q
theorem EL:IxR X (IU X.K):=ix_list.or (ix_tup.or ix_str)
theorem tF (its:List Value) (n j:Nat) (u:Value):Obj.mapSeq (·.setIfInBounds j u) { cls:=.type "list",data:=.seq its.toArray n }={ cls:=.type "list",data:=.seq (its.set j u).toArray n }:=by
 simp[Obj.mapSeq]
theorem Inv.lst {pins:List (Addr×Obj)} {σ:St} {H:Hp} {s:Shared} {p:Addr} {xs:List V} (I:Inv X pins σ H s) (h:H p=some (.lst xs)) :
  ∃(its:List Value) (n:Nat),Vals xs its/\s.heap.get? p=some { cls:=.type "list",data:=.seq its.toArray n }/\xs.length<=sizeLine:=by
 obtain⟨z,its,n,r,e⟩:=I.hok p _ h;exact⟨its,n,r,e,z⟩
theorem Inv.lstUpd {pins:List (Addr×Obj)} {σ:St} {H:Hp} {s:Shared} {p:Addr} {xs ys:List V} {its its':List Value} {n n':Nat} {f:Obj->Obj} (I:Inv X pins σ H s) (h:H p=some (.lst xs))
  (ho:s.heap.get? p=some { cls:=.type "list",data:=.seq its.toArray n }) (hf:f { cls:=.type "list",data:=.seq its.toArray n }={ cls:=.type "list",data:=.seq its'.toArray n' }) (r:Vals ys its') (hz:ys.length<=sizeLine) (t':Nat) (ht:0<t':=by first|assumption|exact Vg _|exact Inv.tk (by assumption)|exact Inv.tkl (by assumption) (by assumption)|lia) :
  Inv X pins σ (upd H p (.lst ys)) { s with heap:=s.heap.update p f,toks:=t' }:=by
 have e:(s.heap.update p f).get? p=some { cls:=.type "list",data:=.seq its'.toArray n' }:=by
  rw[Aq f ho (by rw[hf]<;>rfl),hf]
 refine I.write (x:=p) (e:=p) (by rw[h];trivial) (.inl rfl) (fun b u hb q=>(Ai _ _ (Al hb)).trans q) ⟨_,e⟩ ?_
 exact⟨hz,its',n',r,e⟩
def DB:V->V->V->Hp->(Hp->Prop)->Prop:=fun o i v H Q=>∃p xs k j,o=.ref p/\i=.int k/\H p=some (.lst xs)/\xJ xs.length k=some j/\Q (upd H p (.lst (xs.set j v)))
theorem set_list:Eu X DB:=by
 intro pins s σ H o i v ov iv u Q I ro ri rv h;obtain⟨p,xs,k,j,rfl,rfl,hp,hj,q⟩:=h;cases ro;obtain⟨t,rfl⟩:=ri;obtain⟨its,n,r,ho,hz⟩:=I.lst hp;obtain⟨h1,h2,h3,h4⟩:=uL hj;have hl:=r.length;have hn:=kM;have I':Inv X pins σ (upd H p (.lst (xs.set j v))) { s with heap:=s.heap.update p (Obj.mapSeq (·.setIfInBounds j u)) } :=
  I.lstUpd hp ho (tF its n j u) (r.set rv j) (by rw[List.length_set];exact hz) s.toks
 by_cases h0:0<=k
 ·have hk:k.toNat=j:=by
   rw[seqIndex_of h0 h4]at h1;exact Option.some.inj h1
  exact PySem.W.ki_setAt ho h0 (by lia) (by rw[Vb,← hl];exact h4) (by rw[hk];exact⟨_,I',q⟩)
 ·have hk:(k+(its.toArray.size:Int)).toNat=j:=by
   rw[seqIndex_neg (by lia) h3]at h1
   rw[Vb,← hl];exact Option.some.inj h1
  exact PySem.W.ki_setBack ho (by lia) (by rw[Vb,← hl];exact h3) (by lia) (by rw[hk];exact⟨_,I',q⟩)
theorem xK (i:Int) (n:Nat):max 0 (min (if i<0 then i+(n:Int) else i) (n:Int))=(((if i<0 then(i+(n:Int)).toNat else min i.toNat n):Nat):Int):=by
 by_cases h:i<0
 ·rw[Ad h,Ad h,Int.min_eq_left (by lia),Int.max_comm];exact(Int.ofNat_toNat _).symm
 ·rw[Ag h,Ag h,HT.clip_nat i n h];exact Int.max_eq_right (Bf _)
theorem pV (lo hi:Option Int) (n:Nat):(sliceBounds lo hi none n).1=((HT.sIx n 0 lo:Nat):Int)/\(sliceBounds lo hi none n).2.1=((HT.sIx n n hi:Nat):Int)/\(sliceBounds lo hi none n).2.2=1:=by
 refine⟨?_,?_,rfl⟩
 ·cases lo with
  | none=>simp[sliceBounds,HT.sIx]
  | some i=>exact xK i n
 ·cases hi with
  | none=>simp[sliceBounds,HT.sIx]
  | some i=>exact xK i n
theorem oy (its:List Value) (lo hi:Option Int):slicePick its.toArray lo hi none=((its.drop (HT.sIx its.length 0 lo)).take (HT.sIx its.length its.length hi-HT.sIx its.length 0 lo)).toArray:=by
 obtain⟨h1,h2,h3⟩:=pV lo hi its.toArray.size;unfold slicePick;rw[h1,h2,h3];simp only[sliceRange_one,pick_run,Vb]<;>rfl
def EM (K:PySem.W.Frag):V->Option Int->Option Int->Hp->VK->Prop:=fun x lo hi H Q=>∃a xs,x=.ref a/\hJ K H a xs/\∀p,H p=none->Q (.ref p) (upd H p (.lst (rF xs lo hi)))
theorem BV:SlR X (EM X.K):=by
 intro pins s σ H x v vl vu lo hi sl Q I rx hs pl pu h;obtain⟨a,xs,rfl,hx,q⟩:=h;cases rx;obtain⟨its,r,ht,hz⟩:=I.list hx;have hlen:=r.length;refine⟨"list",_,slot_list_getitem.lookup,ht.isList.typeIs,?_⟩;refine wpAny_getItem_list_slice ht.isList hs pl pu .none (by simp) ?_ (by rw[Vb]<;>lia)
 rw[oy,← hlen];refine⟨.ref s.heap.objs.size,_,I.laid (t':=s.toks) (o:=.lst (rF xs lo hi)) (fun b ob q=>Ab _ q) (Wa _) ?_,rfl,q _ (I.hok.fresh (Wa _))⟩;exact⟨Qb (lK xs lo hi) hz,_,0,(r.drop (HT.sIx xs.length 0 lo)).take (HT.sIx xs.length xs.length hi-HT.sIx xs.length 0 lo),Aj _ rfl⟩
def i9:V->Bool
 | .non=>true
 | .bl _=>true
 | .int _=>true
 | .str _=>true
 | _=>false
def DC:V->V->Bool
 | .non,.non=>true
 | .bl a,.bl b=>a == b
 | .bl a,.int b=>(if a then 1 else 0) == b
 | .int a,.bl b=>a == (if b then 1 else 0)
 | .int a,.int b=>a == b
 | .str a,.str b=>a == b
 | _,_=>false
theorem EN {A:Around} {s:Shared} {y x:V} {u v:Value} (ry:RelV y u) (rx:RelV x v) (fy:i9 y=true) (fx:i9 x=true):SeqAt.EqAt A s u v (DC y x):=by
 cases y with
 | non =>
  cases ry;cases x with
  | non=>cases rx;exact SeqAt.EqAt.same _
  | bl b=>cases rx;exact SeqAt.EqAt.none_bool b
  | int b=>obtain⟨t,rfl⟩:=rx;exact SeqAt.EqAt.none_int b t
  | str b=>obtain⟨t,rfl⟩:=rx;exact SeqAt.EqAt.none_str b t
  | _=>exact absurd (show false=true from fx) Zd
 | bl a =>
  cases ry;cases x with
  | non=>cases rx;exact SeqAt.EqAt.bool_none a
  | bl b=>cases rx;exact SeqAt.EqAt.bool_bool a b
  | int b=>obtain⟨t,rfl⟩:=rx;exact SeqAt.EqAt.bool_int a b t
  | str b=>obtain⟨t,rfl⟩:=rx;exact SeqAt.EqAt.bool_str a b t
  | _=>exact absurd (show false=true from fx) Zd
 | int a =>
  obtain⟨t',rfl⟩:=ry;cases x with
  | non=>cases rx;exact SeqAt.EqAt.int_none a t'
  | bl b=>cases rx;exact SeqAt.EqAt.int_bool a t' b
  | int b=>obtain⟨t,rfl⟩:=rx;exact SeqAt.EqAt.int_int a t' b t
  | str b=>obtain⟨t,rfl⟩:=rx;exact Bd a t' b t
  | _=>exact absurd (show false=true from fx) Zd
 | str a =>
  obtain⟨t',rfl⟩:=ry;cases x with
  | non=>cases rx;exact SeqAt.EqAt.str_none a t'
  | bl b=>cases rx;exact SeqAt.EqAt.str_bool a t' b
  | int b=>obtain⟨t,rfl⟩:=rx;exact Bc a t' b t
  | str b=>obtain⟨t,rfl⟩:=rx;exact SeqAt.EqAt.str_str a t' b t
  | _=>exact absurd (show false=true from fx) Zd
 | _=>exact absurd (show false=true from fy) Zd
def tG (x:V) (u:Value):Bool:=match u with
 | .none=>DC .non x
 | .bool b=>DC (.bl b) x
 | .int i _=>DC (.int i) x
 | .str z _=>DC (.str z) x
 | _=>false
theorem xL {x y:V} {u:Value} (r:RelV y u) (f:i9 y=true):tG x u=DC y x:=by
 cases y with
 | non=>cases r;rfl
 | bl b=>cases r;rfl
 | int i=>obtain⟨t,rfl⟩:=r;rfl
 | str z=>obtain⟨t,rfl⟩:=r;rfl
 | _=>exact absurd (show false=true from f) Zd
theorem jT {x:V}:∀{xs:List V} {us:List Value},Vals xs us->xs.all i9=true->us.any (tG x)=xs.any fun y=>DC y x
 | _,_,.nil,_=>rfl
 | y::xs,u::us,.cons r t,f=>by
  rw[Vn,We]at f;rw[Zn,Zn,xL r f.1,jT t f.2]
theorem ip {A:Around} {s:Shared} {x:V} {v:Value} (rx:RelV x v) (fx:i9 x=true):∀{xs:List V} {us:List Value},Vals xs us->xs.all i9=true->∀u∈us,SeqAt.EqAt A s u v (tG x u)
 | _,_,.nil,_=>fun u hu=>by cases hu
 | y::xs,u::us,.cons r t,f=>fun u' hu=>by
  rw[Vn,We]at f;rcases Vc.mp hu with rfl|hu
  ·rw[xL r f.1];exact EN r rx f.1 fx
  ·exact ip rx fx t f.2 u' hu
def wf (x:V) (xs:List V):Bool:=xs.any fun y=>DC y x
def Ho (K:PySem.W.Frag) (neg:Bool):R2:=fun x y H Q=>∃p xs,y=.ref p/\(hJ K H p xs∨kJ K H p xs)/\i9 x=true/\xs.all i9=true/\Q (.bl (if neg then !wf x xs else wf x xs)) H
theorem wg:OpR X (compareOp .In) (Ho X.K false):=by
 intro pins s σ H x y v u Q I rx ry h;obtain⟨p,xs,rfl,hq,fx,fs,q⟩:=h;cases ry;rcases hq with hq|hq
 ·obtain⟨its,r,pl,hz⟩:=I.list hq;refine SeqAt.in_listAt (tG x) pl.isList (fun w hw=>ip rx fx r fs w (by simpa using hw)) ⟨.bl _,H,I,rfl,?_⟩
  rw[show its.toArray.any (tG x)=its.any (tG x) by simp,jT r fs]
  exact q
 ·obtain⟨its,r,pl,hz⟩:=I.tuple hq;refine SeqAt.in_tupleAt (tG x) pl (fun w hw=>ip rx fx r fs w (by simpa using hw)) ⟨.bl _,H,I,rfl,?_⟩
  rw[show its.toArray.any (tG x)=its.any (tG x) by simp,jT r fs]
  exact q
theorem pW:OpR X (compareOp .NotIn) (Ho X.K true):=by
 intro pins s σ H x y v u Q I rx ry h;obtain⟨p,xs,rfl,hq,fx,fs,q⟩:=h;cases ry;rcases hq with hq|hq
 ·obtain⟨its,r,pl,hz⟩:=I.list hq;refine SeqAt.notIn_listAt (tG x) pl.isList (fun w hw=>ip rx fx r fs w (by simpa using hw)) ⟨.bl _,H,I,rfl,?_⟩
  rw[show its.toArray.any (tG x)=its.any (tG x) by simp,jT r fs]
  exact q
 ·obtain⟨its,r,pl,hz⟩:=I.tuple hq;refine SeqAt.notIn_tupleAt (tG x) pl (fun w hw=>ip rx fx r fs w (by simpa using hw)) ⟨.bl _,H,I,rfl,?_⟩
  rw[show its.toArray.any (tG x)=its.any (tG x) by simp,jT r fs]
  exact q
theorem pX:CallR X (.builtin "len") (fun xs H Q=>∃p ys,xs=[.ref p]/\(hJ X.K H p ys∨kJ X.K H p ys)/\Q (.int ys.length) H):=by
 intro pins s σ H xs us Q I r h;obtain⟨p,ys,rfl,hq,q⟩:=h;obtain⟨u,rfl,rx⟩:=vals1 r;cases rx;have hn:=kM;rcases hq with hq|hq
 ·obtain⟨its,r',pl,hz⟩:=I.list hq;have hlen:=r'.length;exact Calls.call_len_list pl.isList (by simp only[Vb]<;>lia) ⟨.int ys.length,H,I.tok _,⟨s.toks+1,by rw[Vb,hlen]⟩,q⟩
 ·obtain⟨its,r',pl,hz⟩:=I.tuple hq;have hlen:=r'.length;exact len_tuple pl (by simp only[Vb]<;>lia) ⟨.int ys.length,H,I.tok _,⟨s.toks+1,by rw[Vb,hlen]⟩,q⟩
theorem pY:CallR X (.builtin "len") (fun xs H Q=>∃z,xs=[.str z]/\z.length<=sizeLine/\Q (.int z.length) H):=by
 intro pins s σ H xs us Q I r h;obtain⟨z,rfl,hz,q⟩:=h;obtain⟨u,rfl,t,rfl⟩:=vals1 r;have hn:=kM;exact len_str (by lia) ⟨.int z.length,H,I.tok _,⟨_,rfl⟩,q⟩
theorem CallR.or {f:Value} {r r':List V->Hp->VK->Prop} (h:CallR X f r) (h':CallR X f r'):CallR X f (fun xs H Q=>r xs H Q∨r' xs H Q):=by
 intro pins s σ H xs us Q I rs q;rcases q with q|q
 ·exact h pins s σ H xs us Q I rs q
 ·exact h' pins s σ H xs us Q I rs q
theorem pZ:CallR X (.type "list") (fun xs H Q=>∃p ys,xs=[.ref p]/\(hJ X.K H p ys∨kJ X.K H p ys)/\∀l,H l=none->Q (.ref l) (upd H l (.lst ys))):=by
 intro pins s σ H xs us Q I r h;obtain⟨p,ys,rfl,hq,q⟩:=h;obtain⟨u,rfl,rx⟩:=vals1 r;cases rx;have fin:∀(its:List Value),Vals ys its->ys.length<=sizeLine->∀(h':Heap) (c':Nat),(∀b o',s.heap.get? b=some o'->h'.get? b=some o') ->
   h'.get? s.heap.objs.size=some { cls:=.type "list",dict:=none,data:=.seq its.toArray c',slots:=#[] }->EP X pins σ Q (.ref s.heap.objs.size) { s with heap:=h' }:=fun its r' hz h' c' kp e =>
  ⟨.ref s.heap.objs.size,_,I.laid (t':=s.toks) kp (Wa _) (show ObjOk X.prog X.w _ h' _ (.lst ys) from⟨hz,its,c',r',e⟩),rfl,q _ (I.hok.fresh (Wa _))⟩
 rcases hq with hq|hq
 ·obtain⟨its,r',pl,hz⟩:=I.list hq;have hlen:=r'.length;obtain⟨o,ho,hc,n,hd⟩:=pl.isList;exact call_list_seq p (.inl rfl) ho hc hd (fun h' c' kp e=>fin its r' hz h' c' kp e) (by simp only[Vb]<;>lia)
 ·obtain⟨its,r',pl,hz⟩:=I.tuple hq;have hlen:=r'.length;obtain⟨o,ho,hc,n,hd⟩:=pl;exact call_list_seq p (.inr rfl) ho hc hd (fun h' c' kp e=>fin its r' hz h' c' kp e) (by simp only[Vb]<;>lia)
theorem oz:CallR X (.type "tuple") (fun xs H Q=>∃p ys,xs=[.ref p]/\((hJ X.K H p ys/\∀l,H l=none->Q (.ref l) (upd H l (.tup ys)))∨(kJ X.K H p ys/\Q (.ref p) H))):=by
 intro pins s σ H xs us Q I r h;obtain⟨p,ys,rfl,h⟩:=h;obtain⟨u,rfl,rx⟩:=vals1 r;cases rx;rcases h with⟨hq,q⟩|⟨hq,q⟩
 ·obtain⟨its,r',pl,hz⟩:=I.list hq;have hlen:=r'.length;refine call_tuple_list pl.isList (fun h' kp=>?_) (by simp only[Vb]<;>lia)
  have I1:Inv X pins σ H { s with heap:=h' }:=I.kept (t':=s.toks) kp;have I2:Inv X pins σ (upd H h'.objs.size (.tup ys)) { s with heap:=h'.push { cls:=.type "tuple",data:=.seq its.toArray } } :=
   I1.laid (t':=s.toks) (fun b o e=>Ab _ e) (Wa _) (show ObjOk X.prog X.w _ _ _ (.tup ys) from⟨hz,its,r',IsTup.new _ _⟩)
  exact⟨.ref h'.objs.size,_,I2,rfl,q _ (I1.hok.fresh (Wa _))⟩
 ·obtain⟨its,r',pl,hz⟩:=I.tuple hq;exact call_tuple_same pl ⟨.ref p,H,I,rfl,q⟩
def Hq (K:PySem.W.Frag) (T:String) (x:V) (H:Hp):Prop:=match x with
 | .str _=>T="str"
 | .int _=>T="int"
 | .ref p=>(T="list"/\∃xs,hJ K H p xs)∨(T="tuple"/\∃o,K.lookup p=some o/\o.cls=.type "tuple"/\o.dict=none) ∨
   (T="dict"/\((∃kvs,H p=some (.dK kvs))∨∃ep kvs,H p=some (.dT ep kvs)))∨(T="set"/\∃S n,H p=some (.set S n))
 | _=>False
theorem EO {pins:List (Addr×Obj)} {σ:St} {H:Hp} {s:Shared} {T:String} {x:V} {v:Value} (I:Inv X pins σ H s) (r:RelV x v) (ty:Hq X.K T x H) :
  s.TypeIs v T/\∀a,v=.ref a->∃ob,s.heap.get? a=some ob/\ob.dict=none:=by
 cases x with
 | str z =>
  obtain⟨t,rfl⟩:=r;cases (show T="str" from ty);exact⟨AJ s z t,fun _ e=>nomatch e⟩
 | int i =>
  obtain⟨t,rfl⟩:=r;cases (show T="int" from ty);exact⟨typeIs_int s i t,fun _ e=>nomatch e⟩
 | ref p =>
  cases r;rcases ty with⟨rfl,xs,hq⟩|⟨rfl,o,hk,hc,hd⟩|⟨rfl,hk⟩|⟨rfl,S,n,hk⟩
  ·obtain⟨its,_,pl,_⟩:=I.list hq;refine⟨pl.isList.typeIs,fun a e=>?_⟩;cases e;obtain⟨o,n,e,c,hd,_⟩:=pl;exact⟨o,e,hd⟩
  ·refine⟨⟨o,I.kIn p o hk,hc⟩,fun a e=>?_⟩;cases e;exact⟨o,I.kIn _ o hk,hd⟩
  ·have z:∃o,s.heap.get? p=some o/\o.ExactDict:=by
    rcases hk with⟨kvs,hk⟩|⟨ep,kvs,hk⟩
    ·obtain⟨_,_,_,_,o,_,_,e,ex,_⟩:=I.hok p _ hk;exact⟨o,e,ex⟩
    ·obtain⟨_,_,_,_,_,o,_,e,ex,_⟩:=I.hok p _ hk;exact⟨o,e,ex⟩
   obtain⟨o,e,ex⟩:=z;refine⟨⟨o,e,ex.1⟩,fun a e2=>?_⟩;cases e2;exact⟨o,e,ex.2.1⟩
  ·obtain⟨o,_,_,_,e,ex,_⟩:=I.hok p _ hk;refine⟨⟨o,e,ex.1⟩,fun a e2=>?_⟩;cases e2;exact⟨o,e,ex.2.1⟩
 | _=>exact False.elim ty
def IV (K:PySem.W.Frag) (T:String) (r:V->List V->Hp->VK->Prop) (to:TE) (t:TA):TE:=fun σ H Q=>to σ H fun x H1=>Hq K T x H1/\t σ H1 fun xs H2=>r x xs H2 Q
variable {o e:Expr} {es:List Expr} {to:TE} {t:TA} {name:Str} {apos cpos:Pos} {T id:String} {r:V->List V->Hp->VK->Prop}
theorem ja (pa:PlainAttrs T) (slot:Slot T name id) (hty:typeOf (.builtin id)=pure (.type "method_descriptor")) (hm:Hn X id r) (ho:PE X o to) (ha:PA X (e::es) t)
  (hbase:attributeBase o name X.env (eval o X.env)=eval o X.env:=by rfl)
  (hfew:((backTo cpos (starEach (e::es) X.env)).all (fun x=>!x.1)&&(backToKw cpos (keywordEach [] X.env)).all (fun x=>x.1.isSome)
   && decide ((e::es).length+([]:List Keyword).length+(if ([]:List Keyword).isEmpty then 0 else 1)<30))=true:=by rfl)
  (hline:(apos.endLine == cpos.line)=true:=by rfl) (hs:starEach (e::es) X.env=(false,eval e X.env)::starEach es X.env:=by rfl) (hplain:(backTo cpos (starEach es X.env)).any (·.1)=false:=by rfl) :
  PE X (.Call (.Attribute o name apos) (e::es) [] cpos) (IV X.K T r to t):=by
 intro pins s σ H Q I h;refine A1 hbase hfew hline rfl (b7 (ho pins s σ H _ I h) fun v s1 zz9=>?_);obtain⟨x,H1,I1,r1,ty,q1⟩:=zz9;obtain⟨h1,h2⟩:=EO I1 r1 ty;refine⟨T,id,pa,slot,hty,h1,h2,?_⟩;have hA:=ha cpos pins s1 σ H1 _ I1 q1;rw[hs]at hA ⊢;refine AH (by show(false||(backTo cpos (starEach es X.env)).any (·.1))=false;rw[hplain]<;>rfl) (AO ?_)
 exact b7 hA fun us s2 ⟨vs,H2,I2,r2,q2⟩=>hm pins s2 σ H2 x vs v us Q I2 r1 r2 q2
end
end L2
namespace L2
open PySem PySem.Spec PyProof.Rows
def GX (X:Cx) (id:String) (r:V->List V->Hp->VK->Prop):Prop :=
 ∀(pins:List (Addr×Obj)) (s:Shared) (σ:St) (H:Hp) (x:V) (xs:List V) (v:Value) (us:List Value) (Q:VK),Inv X pins σ H s->RelV x v->Vals xs us->r x xs H Q ->
  wpAny (model X.prog X.w) X.A (call (.builtin id) (v::us)) (EP X pins σ Q) X.xe s
theorem Vals.one:∀{x:V} {us:List Value},Vals [x] us->∃u,us=[u]/\RelV x u
 | _,_,.cons r .nil=>⟨_,rfl,r⟩
theorem Vals.eraseIdx:∀{xs:List V} {us:List Value} (i:Nat),Vals xs us->Vals (xs.eraseIdx i) (us.eraseIdx i)
 | _,_,_,.nil=>.nil
 | _,_,0,.cons _ t=>t
 | _,_,i+1,.cons r t=>.cons r (Vals.eraseIdx i t)
theorem oQ {α:Type}:∀(l:List α) (i:Nat),(l.eraseIdx i).length<=l.length
 | [],_=>Wa _
 | _::_,0=>A5 _
 | _::r,i+1=>Nat.succ_le_succ (oQ r i)
section
variable {X:Cx} {pins:List (Addr×Obj)} {σ:St} {H:Hp} {s:Shared} {l b:Addr} {xs ys zs:List V}
theorem Inv.lset {its its':List Value} {n:Nat} {f:Array Value->Array Value} {t':Nat} (I:Inv X pins σ H s) (hH:H l=some (.lst xs))
  (e:s.heap.get? l=some { cls:=.type "list",data:=.seq its.toArray n }) (hf:f its.toArray=its'.toArray) (hv:Vals ys its') (hz:ys.length<=sizeLine) (ht:0<t':=by first|assumption|exact Vg _|exact Inv.tk (by assumption)|exact Inv.tkl (by assumption) (by assumption)|lia) :
  Inv X pins σ (upd H l (.lst ys)) { s with heap:=s.heap.update l (Obj.mapSeq f),toks:=t' }:=by
 have q:=PySem.IsL.update e f;rw[hf]at q;refine I.write (x:=l) (e:=l) (by rw[hH];exact trivial) (.inl rfl) (fun b' u hb hu=>(Ai s.heap (Obj.mapSeq f) (Al hb)).trans hu) ⟨_,q⟩ ?_
 exact⟨hz,its',_,hv,q⟩
theorem Inv.lnew {its:List Value} {t':Nat} (I:Inv X pins σ H s) (hv:Vals ys its) (hz:ys.length<=sizeLine) (ht:0<t':=by first|assumption|exact Vg _|exact Inv.tk (by assumption)|exact Inv.tkl (by assumption) (by assumption)|lia) :
  Inv X pins σ (upd H s.heap.objs.size (.lst ys)) { s with heap:=s.heap.push { cls:=.type "list",data:=.seq its.toArray },toks:=t' } :=
 I.laid (fun _ _ q=>Ab _ q) (Wa _) ⟨hz,its,0,hv,Aj _ rfl⟩
theorem Inv.fresh (I:Inv X pins σ H s):H s.heap.objs.size=none:=I.hok.fresh (Wa _)
theorem Inv.lstM (I:Inv X pins σ H s) (hH:H l=some (.lst xs)):xs.length<=sizeLine/\∃(its:List Value) (n:Nat),Vals xs its/\xs.length=its.length/\s.heap.get? l=some { cls:=.type "list",data:=.seq its.toArray n }:=by
 obtain⟨z,its,n,r,e⟩:=I.hok l _ hH;exact⟨z,its,n,r,r.length,e⟩
theorem rG {n:Nat} (h:n<=sizeLine):Builtin.List.listTooLong n=false:=by
 unfold Builtin.List.listTooLong;exact Ae (by lia)
end
section
variable {X:Cx}
def p6:V->List V->Hp->VK->Prop:=fun x vs H Q=>∃l xs y,x=.ref l/\vs=[y]/\H l=some (.lst xs)/\xs.length<sizeLine/\Q .non (upd H l (.lst (xs++[y])))
theorem wj:GX X "list.append" p6:=by
 intro pins s σ H x vs v us Q I rx rv h;obtain⟨l,xs,y,rfl,rfl,hH,hz,q⟩:=h;cases rx;obtain⟨u,rfl,ru⟩:=rv.one;obtain⟨z,its,n,r,hl,e⟩:=I.lstM hH;refine AA F.slot_list_append ⟨_,e,rfl⟩ F.entry_list_append (F.args_list_append_2 _ _) (PySem.list_append l its.toArray n u (by rw[Vb];lia)) ⟨e,?_⟩
 refine⟨.non,_,I.lset (its':=its++[u]) hH e (by simp) (r.append (.cons ru .nil)) ?_,rfl,q⟩
 rw[Xa,Qg];lia
def uM:V->List V->Hp->VK->Prop:=fun x vs H Q=>∃l b xs zs,x=.ref l/\vs=[.ref b]/\H l=some (.lst xs)/\H b=some (.lst zs)/\xs.length+zs.length<=sizeLine/\Q .non (upd H l (.lst (xs++zs)))
theorem wl:GX X "list.extend" uM:=by
 intro pins s σ H x vs v us Q I rx rv h;obtain⟨l,b,xs,zs,rfl,rfl,hH,hB,hz,q⟩:=h;cases rx;obtain⟨u,rfl,ru⟩:=rv.one;cases ru;obtain⟨z,its,n,r,hl,e⟩:=I.lstM hH;obtain⟨z2,its2,n2,r2,hl2,e2⟩:=I.lstM hB;have hsz:its.toArray.size+its2.toArray.size<=sizeLine:=by rw[Vb,Vb];lia
 have hlong:¬ (!its.toArray.isEmpty&&Builtin.List.listTooLong (its.toArray.size+its2.toArray.size))=true:=by
  rw[rG hsz,Bool.and_false];exact Zd
 refine AA F.slot_list_extend ⟨_,e,rfl⟩ F.entry_list_extend (F.args_list_extend_2 _ _)
  (AutoSeq1.list_extend_list_list_0 l its.toArray n b its2.toArray n2 hlong (by rw[Vb];lia) (by lia)) ⟨e,e2,?_⟩
 refine⟨.non,_,I.lset (its':=its++its2) hH e (by simp) (r.append r2) ?_,rfl,q⟩
 rw[Xa];lia
def xM:V->List V->Hp->VK->Prop:=fun x vs H Q=>∃l xs i k y,x=.ref l/\vs=[.int i]/\H l=some (.lst xs)/\-(2 ^ 63)<=i/\i<2 ^ 63/\seqIndex? i xs.length=some k/\xs[k]?=some y/\Q y (upd H l (.lst (xs.eraseIdx k)))
theorem xO:GX X "list.pop" xM:=by
 intro pins s σ H x vs v us Q I rx rv h;obtain⟨l,xs,i,k,y,rfl,rfl,hH,h1,h2,hk,hy,q⟩:=h;cases rx;obtain⟨u,rfl,ru⟩:=rv.one;obtain⟨t,rfl⟩:=ru;obtain⟨z,its,n,r,hl,e⟩:=I.lstM hH;obtain⟨w,hw,rw'⟩:=r.get hy;refine AA F.slot_list_pop ⟨_,e,rfl⟩ F.entry_list_pop (F.args_list_pop_2 _ _)
  (MeetsSeq.list_pop_at l its.toArray n i t k w (fitsIndex_both h1 h2) (by rw[Vb,← hl];exact hk) (by rw[← Array.getElem?_toList];exact hw) (by rw[Vb];lia)) ⟨e,?_⟩
 refine⟨y,_,I.lset (its':=its.eraseIdx k) hH e ?_ (r.eraseIdx k) ?_,rw',q⟩
 ·show its.toArray.eraseIdxIfInBounds k=(its.eraseIdx k).toArray;rw[List.eraseIdxIfInBounds_toArray]
 ·have:=oQ xs k;lia
def EQ:R2:=fun x y H Q=>∃l b xs zs,x=.ref l/\y=.ref b/\H l=some (.lst xs)/\H b=some (.lst zs)/\xs.length+zs.length<=sizeLine/\∀p,H p=none->Q (.ref p) (upd H p (.lst (xs++zs)))
theorem op_cat:OpR X (binaryOp .Add) EQ:=by
 intro pins s σ H x y v u Q I rx ry h;obtain⟨l,b,xs,zs,rfl,rfl,hH,hB,hz,q⟩:=h;cases rx;cases ry;obtain⟨z,its,n,r,hl,e⟩:=I.lstM hH;obtain⟨z2,its2,n2,r2,hl2,e2⟩:=I.lstM hB;refine PySem.P.add_list e e2 ?_ (by rw[Vb,Vb];lia)
 have ea:its.toArray++its2.toArray=(its++its2).toArray:=by simp
 rw[ea];exact⟨.ref _,_,I.lnew (t':=s.toks) (r.append r2) (by rw[Xa];lia),rfl,q _ I.fresh⟩
end
end L2
namespace Att
open PySem PySem.W PySem.Calls PyProof.Rows
theorem mf {P:Params} {h:Heap}:∀(ns:List Int) (vs:List Value),WellAll P h vs (ns.map WData.int)->IntsAre vs ns:=by
 intro ns;induction ns with
 | nil =>
  intro vs w;rw[Bj]at w;cases w;exact .nil
 | cons n ns ih =>
  intro vs w;rw[Qc]at w;cases w with
  | cons a b =>
   cases a;exact .cons _ _ (ih _ b)
theorem script_of {l:OpenLaw} {n:Nat} (hn:l.most=some n) {P:Params} {h:Heap} {args:List WData} {vals:List Value}
  (hpre:l.row.toRowW.claim.pre args=true) (hwl:WellAll P h vals args) :
  ∃a vs ns,vals=[Value.ref a]/\args=[WData.list (ns.map WData.int)]/\h.get? a=some { cls:=.type "list",data:=.seq vs.toArray }/\IntsAre vs ns/\ns.length<=n:=by
 have hsh:WShape.hasAll [] args [.list .int]=true:=(pre_splitW hpre).1;have hc:l.pre.holds [] { args:=args }=true:=(pre_splitW hpre).2;obtain⟨d,r,rfl,h1,h2⟩:=hasAllW_cons hsh;obtain rfl:=hasAllW_nil h2;obtain⟨xs,rfl,h3⟩:=hasW_list h1;obtain⟨ns,rfl⟩:=items_int h3;have hlen:ns.length<=n:=by
  unfold OpenLaw.pre at hc;have h4:(WTm.not (.lt (.lit (.int (n:Int))) (.len (.arg 0)))).holds [] { args:=[.list (ns.map .int)] }=true:=by
   have h4:=(holds_andW hc).1;rw[hn]at h4;exact h4
  have h5:=condW_of h4 (w_not (w_lt w_lit (w_len_list (w_arg rfl))));rw[Ya]at h5;refine Nat.le_of_not_lt fun q=>?_;have q':(n:Int)<((ns.length:Nat):Int):=by lia
  first
   | (rw[Af q']at h5;exact absurd h5 (by decide))
   | (simp at h5;lia)
 cases hwl with
 | cons w1 w2 =>
  cases w2;cases w1 with
  | list ho hall=>exact⟨_,_,ns,rfl,rfl,ho,mf ns _ hall,hlen⟩
theorem post_true (l:OpenLaw) (args:List WData):l.row.toRowW.claim.post args (.bool true) args=true :=
 postW_of (r:=l.row.toRowW) (X:=(true == true))
  (show WShape.has [] (.bool true) .bool=true by first|rfl|decide|simp[WShape.has,WShape.arms,WShape.armsAll])
  (show(WTm.eq .res (.lit (.bool true))).value [] { args:=args,res:=some (.bool true),after:=args }=some (.bool (true == true)) from w_eq_bool (w_res rfl) w_lit) rfl
end Att
namespace L2
open PySem PySem.Spec PyProof.Rows
theorem oR:∀{vs:List Value} {ns:List Int},IntsAre vs ns->Vals (ns.map V.int) vs
 | _,_,.nil=>.nil
 | _,_,.cons n t h=>.cons ⟨t,rfl⟩ (oR h)
def ES (H:Hp):Prop:=∀b,H b=none∨∃o xs,H b=some (.frz o (.lst xs))
theorem xP {P:Program} {w:World} {K:PySem.W.Frag} {mg mb:Str->Option Value} {CX:w6} {k:Nat} {fa a:Addr} {fd:FuncData} {x:Str} {sp:Sp} {s₁:Shared} {vs:List Value} {ns:List Int}
  (KX:K.In s₁.heap) (hns:s₁.heap.Ns mainGlobals mg) (hb:s₁.heap.Ns builtinsNs mb) (hbb:∀x:Str,x≠"__name__"->mb x=bootBuiltins x) (hlim:s₁.heap.NoLimit) (hg:s₁.gens=#[]) (htk:0<s₁.toks)
  (ha:s₁.heap.get? a=some { cls:=.type "list",data:=.seq vs.toArray }) (hi:IntsAre vs ns) (hl:ns.length<=sizeLine) (hr:Room k callerA)
  (F:∀base:Heap,K.In base->base.Ns mainGlobals mg->FnOk P w K mg base CX k fa fd [x] sp) (hbind:∀(s:Shared) (u:Value),BindsTo s fd ⟨[u],[]⟩ [(x,u)])
  (hsp:∀H:Hp,ES H->hJ K H a (ns.map V.int)->sp [.ref a] H (fun v _=>v=.bl true) fun _ _ _=>False)
  (hCX:∀H e s',CX [] H s₁ (fun _ _ _=>False) e s'->False) :
  codeAny (model P w) callerA (.call (.ref fa) ⟨[.ref a],[]⟩) (fun r s'=>r=.ok (.ret (.bool true))/\OldK s₁.heap s'.heap/\s'.os=s₁.os/\AllBare s'.gens) s₁:=by
 have rv:=oR hi;have B3:=hi.length;have core:∀H:Hp,ES H->hJ K H a (ns.map V.int)->HOk P w H s₁.heap->(∀b,H b≠none->b=a)->(H a≠none->K.lookup a=none) ->
   codeAny (model P w) callerA (.call (.ref fa) ⟨[.ref a],[]⟩) (fun r s'=>r=.ok (.ret (.bool true))/\OldK s₁.heap s'.heap/\s'.os=s₁.os/\AllBare s'.gens) s₁:=by
  intro H hO hS hok hA hK;have base_of:∀{b:Addr} {o:Obj},s₁.heap.get? b=some o->H b=none->(pO s₁.heap H).get? b=some o:=fun e n=>xb e n;have noA:∀{b:Addr} {o:Obj} {es:Array DictEntry} {ep:Nat},s₁.heap.get? b=some o->o.data=.dict es ep->H b=none:=fun {b o es ep} e d=>by
   cases q:H b with
   | none=>rfl
   | some u =>
    have e':b=a:=hA b (by rw[q];simp)
    subst e';rw[ha]at e;cases e;have d':Data.seq vs.toArray _=Data.dict es ep:=d;cases d'
  have nsK:∀{b:Addr} {m:Str->Option Value},s₁.heap.Ns b m->(pO s₁.heap H).Ns b m:=fun {b m} ⟨o,es,ep,e,d,r⟩=>⟨o,es,ep,base_of e (noA e d),d,r⟩
  have hKb:K.In (pO s₁.heap H):=fun b o e=>base_of (KX b o e) (by
   cases q:H b with
   | none=>rfl
   | some u =>
    have e':b=a:=hA b (by rw[q];simp)
    subst e'
    rw[hK (by rw[q];simp)]at e;cases e)
  have hM:Mod K mg (pO s₁.heap H):=⟨hKb,nsK hns,⟨mb,nsK hb,hbb⟩,let ⟨mc,h1,h2⟩:=hlim;⟨mc,nsK h1,h2⟩⟩;have e0:Env0 P w K mg (pO s₁.heap H) callerA [] s₁ H:=⟨rfl,hM,fun b o e=>zY e,Nat.le_of_eq (v0 _ _),trivial,fun b hb=>absurd (show b∈([]:List Addr) from hb) (by simp),hok,.of_eq hg,htk⟩
  refine AG ((F _ hKb (nsK hns)).run callerA [] s₁ H ⟨[.ref a],[]⟩ [.ref a] [.ref a] _ _ hr e0 (hbind s₁ (.ref a)) (.cons rfl .nil) (hsp H hO hS)) fun r s' h=>?_;cases r with
  | error e=>exact(hCX H e s' h).elim
  | ok fl =>
   cases fl with
   | next=>exact False.elim h
   | brk=>exact False.elim h
   | cont=>exact False.elim h
   | ret u =>
    obtain⟨v,H',os,bare,un,hok',r',q⟩:=h;have q':v=.bl true:=q;subst q';obtain rfl:u=Value.bool true:=r';refine⟨rfl,OldK.of_keep fun b o e=>?_,os,bare⟩;cases q:H b with
    | none=>exact un.keep b o e q (by intro z;exact absurd (show b∈([]:List Addr) from z) (by simp)) (by simp)
    | some u =>
     rcases hO b with z|⟨ob,xs,z⟩
     ·rw[q]at z;cases z
     ·have z2:=un.frzs b ob _ z;obtain⟨e1,_⟩:=hok b _ z;obtain⟨e2,_⟩:=hok' b _ z2;rw[e]at e1;cases e1;exact e2
 cases hk:K.lookup a with
 | some o =>
  have e:=KX a o hk;rw[ha]at e;cases e;refine core (fun _=>none) (fun _=>.inl rfl) (.inr ⟨_,vs.toArray,_,hk,rfl,rfl,rfl,by rw[Vb,B3];exact hl,by simpa using rv⟩) (fun b u z=>by have z':(none:Option HO)=some u:=z;cases z') (fun b z=>absurd rfl z) fun z=>absurd rfl z
 | none =>
  refine core (fun b=>if b=a then some (.frz { cls:=.type "list",data:=.seq vs.toArray } (.lst (ns.map V.int))) else none) (fun b=>?_) (.inl (.inr ⟨{ cls:=.type "list",data:=.seq vs.toArray },Ad rfl⟩)) (fun b u z=>?_) (fun b z=>?_) fun _=>hk
  ·by_cases hb:b=a
   ·exact .inr ⟨_,_,Ad hb⟩
   ·exact .inl (Ag hb)
  ·by_cases hb:b=a
   ·have z':=(Ad hb).symm.trans z;cases z';subst hb;exact⟨ha,by rw[Ya];exact hl,vs,_,rv,ha⟩
   ·have z':=(Ag hb).symm.trans z;cases z'
  ·by_cases hb:b=a
   ·exact hb
   ·exact absurd (Ag hb) z
theorem rH:∀ns:List Int,PySem.W.ofPys (ns.map PyData.int)=ns.map PySem.W.WData.int
 | []=>rfl
 | n::r=>by
  show PySem.W.WData.int n::PySem.W.ofPys (r.map PyData.int)=_;rw[rH r];rfl
theorem walk_of {l:PySem.W.OpenLaw} {n k:Nat} {q:Program} {loose:List Str} {XP:(Str->Option Value)->Heap->Prop} {d:DefRec} {K:Params->PySem.W.Frag} {CX:World->w6} {sp:World->Sp} {x:Str} {as:List Addr} {sz t:Nat}
  (hn:l.most=some n) (hn2:n<=sizeLine) (hdf:d.params.defaults=[]) (hr:Room k callerA) (ht:0<t) (hK:∀P,as=(K P).map (·.1))
  (F:∀(w:World) (mg:Str->Option Value) (fa:Addr) (h:Heap),(K w.params).In h->h.Ns mainGlobals mg->mg d.name=some (.ref fa) ->
   ∃fd:FuncData,(∀(s:Shared) (u:Value),BindsTo s fd ⟨[u],[]⟩ [(x,u)]) /\
    ∀base:Heap,(K w.params).In base->base.Ns mainGlobals mg->FnOk l.prog w (K w.params) mg base (CX w) k fa fd [x] (sp w))
  (hsp:∀(w:World) (H:Hp) (a:Addr) (ns:List Int),ns.length<=n->ES H->hJ (K w.params) H a (ns.map V.int)->sp w [.ref a] H (fun v _=>v=.bl true) fun _ _ _=>False)
  (hCX:∀(w:World) (H:Hp) (s:Shared) (e:Value) (s':Shared),CX w [] H s (fun _ _ _=>False) e s'->False) :
  PySem.W.WalkX q loose XP (PySem.W.X.obsZ as) (PySem.W.X.valZ K sz t) l.row.toRowW d [] (fun f vs=>PySem.call f vs):=by
 intro w s₀ s₁ mg mb G y fa o pm cd doc dV kV ho hd hcd hD hmg hg args vals as' L hpre hlay hrd hwl hlo;obtain rfl:dV=.none:=PySem.W.Dflts.none hD hdf;obtain rfl:kV=.none:=PySem.W.Dflts.noKw hD;obtain⟨a,vs,ns,rfl,rfl,hobj,hints,hlen⟩:=Att.script_of hn hpre hwl;obtain⟨_,K0,_,T0⟩:=PySem.W.X.z_facts hK y;have KX:(K w.params).In s₁.heap:=fun b o e=>L.keeps b o ((show(K w.params).In s₀.heap from K0) b o e);have tk:0<s₁.toks:=by
  have e:[PySem.W.WData.list (ns.map PySem.W.WData.int)]=[PySem.W.ofPy (PyData.list (ns.map PyData.int))]:=by
   show _=[PySem.W.WData.list (PySem.W.ofPys (ns.map PyData.int))];rw[rH]
  rw[e]at L;exact Va ht (PySem.W.X.script_toks L T0)
 obtain⟨fd,hb,hF⟩:=F w mg fa _ KX G.T.g hmg;refine PySem.W.enter_call (AG (xP KX G.T.g G.T.b G.T.builtins G.T.nolimit hg tk hobj hints (Qb hlen hn2) hr hF hb (fun H hO hS=>hsp w H a ns hlen hO hS) fun H e s'=>hCX w H s₁ e s') fun r s' hq=>?_);obtain⟨rfl,h2,h3,h4⟩:=hq;exact⟨.inl ⟨.bool true,.bool true,[],rfl,fun _=>rfl,.bool true,Att.post_true l _,fun _=>⟨List.Pairwise.nil,fun _ hm=>(nomatch hm)⟩⟩,h2,h3,h4⟩
end L2
namespace L2
open PySem PySem.Spec PyProof.Rows
def fV (s:Stmt):Arguments:=match s with
 | .FunctionDef _ a _ _ _ _ _ _ _ _=>a
 | _=>{ posonlyargs:=[],args:=[],vararg:=none,kwonlyargs:=[],kw_defaults:=[],kwarg:=none,defaults:=[] }
def cz (s:Stmt):List Stmt:=match s with
 | .FunctionDef _ _ b _ _ _ _ _ _ _=>b
 | _=>[]
def ak (s:Stmt):Scope:=match s with
 | .FunctionDef _ _ _ _ _ _ sc _ _ _=>sc
 | _=>{ kind:=.function,names:=[],isGenerator:=false,isCoroutine:=false }
abbrev mD:w6:=fun _ _ _ _ _ _=>False
abbrev E0:XK:=fun _ _ _=>False
theorem Hr {X:Cx}:tu mD X E0:=fun _ _ _ _ _ _ _ h=>h.elim
structure Fun (K:PySem.W.Frag) (x qual:Str) (st:Stmt) (f:Addr) (fd:FuncData):Prop where
 ex:∃(oc:Value) (od:Option Addr) (kV doc pm:Value) (an:Option Addr) (cdv ct:Value) (osl:Array (Option Value)),
  fd=PySem.W.fnOf x qual (fV st) (cz st) (ak st) .none kV doc pm an cdv ct/\K.lookup f=some ⟨oc,od,.func fd,osl⟩/\PySem.W.codeIn K cdv qual=true
 kp:PySem.W.keepIn K (.ref f)=true
section
variable {P:Program} {w:World} {K:PySem.W.Frag} {mg:Str->Option Value} {base:Heap}
theorem Fun.ok {x qual:Str} {st:Stmt} {f:Addr} {fd:FuncData} {N ps:List Str} {k:Nat} {sp:Sp} (F:Fun K x qual st f fd) (S:FnScope N ps (ak st)) (len:∀vs H Q E,sp vs H Q E->vs.length=ps.length)
  (hbody:∀(cdv:Value) (A:Around) (outer:List Env) (s:Shared) (H:Hp) (vs:List V) (Q:VK) (E:XK),Room k (A.deeper (envOfC qual (ak st) s.heap.objs.size f cdv))->sp vs H Q E ->
   ∃t,PSs (bw mD P w K mg base N qual (ak st) f cdv A outer s H E).nox (cz st) t/\t { nx:=fun _ H'=>Q .non H',rt:=Q } (start N vs) H):FnOk P w K mg base mD (k+1) f fd ps sp:=by
 obtain⟨oc,od,kV,doc,pm,an,cdv,ct,osl,rfl,lk,hcd⟩:=F.ex;refine Dt lk hcd S len fun A outer s H vs Q E hr hsp=>?_;obtain⟨t,h,q⟩:=hbody cdv A outer s H vs Q E hr hsp;exact⟨t,h.nox,q⟩
theorem Fun.binds {x qual:Str} {st:Stmt} {f:Addr} {fd:FuncData} {ps:List Str} (F:Fun K x qual st f fd)
  (h:∀(kV doc pm:Value) (an:Option Addr) (cdv ct:Value) (us:List Value),us.length=ps.length->bindArgs (PySem.W.fnOf x qual (fV st) (cz st) (ak st) .none kV doc pm an cdv ct) ⟨us,[]⟩=pure (ps.zip us)):Binds K fd ps []:=by
 obtain⟨oc,od,kV,doc,pm,an,cdv,ct,osl,rfl,lk,hcd⟩:=F.ex;exact .all (h kV doc pm an cdv ct)
theorem ET {x qual:Str} {st:Stmt} {f:Addr} {oc:Value} {od an:Option Addr} {osl:Array (Option Value)} {kV doc pm cdv ct:Value} (l:K.lookup f=some ⟨oc,od,.func (PySem.W.fnOf x qual (fV st) (cz st) (ak st) .none kV doc pm an cdv ct),osl⟩)
  (c:PySem.W.codeIn K cdv qual=true) (k:PySem.W.keepIn K (.ref f)=true):Fun K x qual st f (PySem.W.fnOf x qual (fV st) (cz st) (ak st) .none kV doc pm an cdv ct):=⟨⟨oc,od,kV,doc,pm,an,cdv,ct,osl,rfl,l,c⟩,k⟩
end
theorem uN {A:Around} {k:Nat} (hr:Room k A):A.units+1<cLine:=Xn (Nat.add_le_add_left (by decide:1<=64) _) hr.units
theorem wm {n:Nat} (h:n<=1000):n<sizeLine:=Xn h (by decide)
section
variable {X:Cx}
theorem pv (i:Nat) {x:Str} {pos:Pos} (hN:X.N[i]?=some x:=by rfl) (hv:Jf X.env.scope x:=by first|exact Or.inl rfl|exact Or.inr (Or.inl rfl)|exact Or.inr (Or.inr rfl)) (hd:(x == ("__debug__":Str))=false:=by decide)
  (hcd:(x == ("__classdict__":Str))=false:=by decide):PE X (.Name x pos) (mV i):=Er hN hv hd hcd
end
def Same (H H':Hp):Prop:=∀b o,H b=some o->H' b=some o
theorem Same.refl (H:Hp):Same H H:=fun _ _ h=>h
end L2
namespace L2
open PySem PySem.Spec PyProof.Rows
def bE (env:Env):List (Str×NameKind)->List (Str×Addr)->List (Str×Addr)
 | [],acc=>acc
 | (n,k)::r,acc=>if k=.free then bE env r ((n,(env.cells.lookup n).getD 0)::acc) else bE env r acc
theorem gI {env:Env} {f:Str×NameKind->List (Str×Addr)->Sem (ForInStep (List (Str×Addr)))}
  (h1:∀n k cs c,k=NameKind.free->env.cells.lookup n=some c->f (n,k) cs=pure (.yield ((n,c)::cs)))
  (h2:∀n k cs,k≠NameKind.free->f (n,k) cs=pure (.yield cs)) :
  ∀(names:List (Str×NameKind)) (acc:List (Str×Addr)),(∀x∈names,x.2=.free->∃c,env.cells.lookup x.1=some c)->forIn names acc f=pure (bE env names acc)
 | [],_,_=>rfl
 | (n,k)::r,acc,h=>by
  have hr:∀x∈r,x.2=.free->∃c,env.cells.lookup x.1=some c:=fun x hx=>h x (Yb _ hx);by_cases hk:k=.free
  ·obtain⟨c,hc⟩:=h (n,k) Qa hk;have e:bE env ((n,k)::r) acc=bE env r ((n,c)::acc):=by
    show(if k=.free then _ else _)=_;rw[Ad hk];have hc':env.cells.lookup n=some c:=hc;rw[hc'];rfl
   rw[List.forIn_cons,h1 n k acc c hk hc,pure_bind,e];exact gI h1 h2 r _ hr
  ·have e:bE env ((n,k)::r) acc=bE env r acc:=by
    show(if k=.free then _ else _)=_;rw[Ag hk]
   rw[List.forIn_cons,h2 n k acc hk,pure_bind,e];exact gI h1 h2 r _ hr
theorem fW {scope:Scope} {env:Env} (h:∀x∈scope.names,x.2=.free->∃c,env.cells.lookup x.1=some c):closureFor scope env=pure (bE env scope.names []):=by
 simp only[closureFor];have key:=fun f h1 h2=>gI (env:=env) (f:=f) h1 h2 scope.names [] h
 rw[key _ (fun n k cs c hk hc=>by subst hk;simp[cellOf,hc]) (fun n k cs hk=>by
  have:(k == NameKind.free)=false:=by simpa using hk
  simp only[this,Ve,if_false])]
 rfl
theorem cA {α β:Type} [BEq α] {x n:α} {k:β} {r:List (α×β)}:List.lookup x ((n,k)::r)=if (x == n)=true then some k else List.lookup x r:=by
 rw[Vk];cases x == n<;>rfl
theorem gj {env:Env} {x:Str} {c:Addr}:∀(names:List (Str×NameKind)) (acc:List (Str×Addr)),(∀x∈names,x.2=.free->∃c,env.cells.lookup x.1=some c) ->
  (∀y c,acc.lookup y=some c->env.cells.lookup y=some c)->(bE env names acc).lookup x=some c->env.cells.lookup x=some c
 | [],acc,_,ha,e=>ha x c e
 | (n,k)::r,acc,h,ha,e=>by
  have hr:∀x∈r,x.2=.free->∃c,env.cells.lookup x.1=some c:=fun x hx=>h x (Yb _ hx);by_cases hk:k=.free
  ·obtain⟨c',hc⟩:=h (n,k) Qa hk;have hc':env.cells.lookup n=some c':=hc;have q:bE env ((n,k)::r) acc=bE env r ((n,c')::acc):=by
    show(if k=.free then _ else _)=_;rw[Ad hk,hc'];rfl
   rw[q]at e;refine gj r _ hr (fun y d hy=>?_) e;rw[cA]at hy;by_cases hyn:(y == n)=true
   ·rw[Ad hyn]at hy;have:y=n:=by simpa using hyn
    rw[this,hc',hy]
   ·rw[Ag hyn]at hy;exact ha y d hy
  ·have q:bE env ((n,k)::r) acc=bE env r acc:=by
    show(if k=.free then _ else _)=_;rw[Ag hk]
   rw[q]at e;exact gj r _ hr ha e
theorem jo {env:Env} {x:Str} {c:Addr} (hx:env.cells.lookup x=some c):∀(names:List (Str×NameKind)) (acc:List (Str×Addr)),(acc.lookup x=some c∨(x,NameKind.free)∈names)->(bE env names acc).lookup x=some c
 | [],acc,h=>by
  rcases h with h|h
  ·exact h
  ·cases h
 | (n,k)::r,acc,h=>by
  by_cases hk:k=.free
  ·have q:bE env ((n,k)::r) acc=bE env r ((n,(env.cells.lookup n).getD 0)::acc):=by
    show(if k=.free then _ else _)=_;rw[Ad hk]
   rw[q];refine jo hx r _ ?_;by_cases hxn:(x == n)=true
   ·left;have e:x=n:=by simpa using hxn
    rw[cA,Ad hxn,← e,hx];rfl
   ·rcases h with h|h
    ·left;rw[cA,Ag hxn];exact h
    ·right;rcases Vc.mp h with h|h
     ·cases h;exact absurd (by simp) hxn
     ·exact h
  ·have q:bE env ((n,k)::r) acc=bE env r acc:=by
    show(if k=.free then _ else _)=_;rw[Ag hk]
   rw[q];refine jo hx r _ ?_;rcases h with h|h
   ·exact .inl h
   ·rcases Vc.mp h with h|h
    ·cases h;exact absurd rfl hk
    ·exact .inr h
theorem fB {env:Env} {x:Str}:∀(names:List (Str×NameKind)),
  ((names.map fun(n,k)=>if (k == NameKind.free&&env.scope.kind == .function&&env.kindOf n == some .cell) then(n,NameKind.cell) else(n,k)).lookup x=none/\names.lookup x=none) ∨
  ∃k k',names.lookup x=some k/\(names.map fun(n,k)=>if (k == NameKind.free&&env.scope.kind == .function&&env.kindOf n == some .cell) then(n,NameKind.cell) else(n,k)).lookup x=some k'/\(k'=k∨(k=.free/\k'=.cell))
 | []=>.inl ⟨rfl,rfl⟩
 | (n,k)::r=>by
  have ih:=@fB env x r;show(List.lookup x ((if (k == NameKind.free&&env.scope.kind == .function&&env.kindOf n == some .cell)=true then(n,NameKind.cell) else(n,k))::_)=none/\_)∨∃k' k'',_/\List.lookup x ((if (k == NameKind.free&&env.scope.kind == .function&&env.kindOf n == some .cell)=true then(n,NameKind.cell) else(n,k))::_)=_/\_;by_cases hc:(k == NameKind.free&&env.scope.kind == .function&&env.kindOf n == some .cell)=true
  ·rw[Ad hc,cA,cA];have hk:k=.free:=by
    simp only[We]at hc;simpa using hc.1.1
   by_cases hx:(x == n)=true
   ·rw[Ad hx,Ad hx];exact .inr ⟨k,.cell,rfl,rfl,.inr ⟨hk,rfl⟩⟩
   ·rw[Ag hx,Ag hx];exact ih
  ·rw[Ag hc,cA,cA];by_cases hx:(x == n)=true
   ·rw[Ad hx,Ad hx];exact .inr ⟨k,k,rfl,rfl,.inl rfl⟩
   ·rw[Ag hx,Ag hx];exact ih
abbrev hZ (X:Cx) (N:List Str) (scope:Scope) (C:Addr) (s:Shared) (H:Hp) (fp:List Addr):Cx :=
 { X with N:=N,s₀:=s,H₀:=H,env:=compEnvC scope (bE X.env scope.names []) C X.env,outer:=X.stack,stack:=X.stack,ex:=fp,fn:=fun _=>false,pn:=[],xe:=fun _ _=>False }
structure BlkScope (X:Cx) (N:List Str) (k:Nat) (caps:List Nat) (scope:Scope):Prop where
 kind:scope.kind=.function
 nocell:∀y∈scope.names,y.2≠.cell
 loc:∀y∈scope.names,y.2=.local->scope.names.lookup y.1=some .local
 free:∀y∈scope.names,y.2=.free->(X.env.kindOf y.1=some .cell∨X.env.kindOf y.1=some .free)
 len:N.length=k+caps.length
 cap:∀(j i:Nat),caps[j]?=some i->∃x,N[k+j]?=some x/\X.N[i]?=some x/\scope.names.lookup x=some .free
def ia (k:Nat) (caps:List Nat) (σ:St):St:=List.replicate k none++caps.map fun i=>(σ[i]?).getD none
section
variable {X:Cx} {N:List Str} {k:Nat} {caps:List Nat} {scope:Scope}
theorem BlkScope.cells (S:BlkScope X N k caps scope) (ok:X.Ok):∀x∈scope.names,x.2=.free->∃c,X.env.cells.lookup x.1=some c:=fun x hx hk=>ok.has x.1 (S.free x hx hk)
theorem BlkScope.sub (S:BlkScope X N k caps scope) (ok:X.Ok) {x:Str} {c:Addr} (e:(bE X.env scope.names []).lookup x=some c):X.env.cells.lookup x=some c :=
 gj _ _ (S.cells ok) (fun y c h=>by cases h) e
theorem BlkScope.has (S:BlkScope X N k caps scope) (ok:X.Ok) {x:Str} (h:scope.names.lookup x=some .free):∃c,X.env.cells.lookup x=some c/\(bE X.env scope.names []).lookup x=some c:=by
 have hm:=PySem.mem_of_lookup h;obtain⟨c,hc⟩:=S.cells ok _ hm rfl;exact⟨c,hc,jo hc _ _ (.inr hm)⟩
theorem p7 (σ:St):(ia k caps σ).length=k+caps.length:=by unfold ia;simp
theorem p8 {σ:St} {i:Nat} {v:V} (h:(ia k caps σ)[i]?=some (some v)):∃j i',i=k+j/\caps[j]?=some i'/\σ[i']?=some (some v):=by grind [ia]
theorem EU {pins:List (Addr×Obj)} {σ:St} {H:Hp} {s:Shared} {fp:List Addr} {C:Addr} (S:BlkScope X N k caps scope) (I:Inv X pins σ H s) (hf:∀b∈fp,mZ X pins H b) (hlt:∀b∈fp,b<s.heap.objs.size) (hC:s.heap.objs.size<=C) :
  (hZ X N scope C s H fp).Ok:=by
 have nfs:∀b∈fp,b∉fA X.stack:=fun b hb z=>by
  rcases Vc.mp (I.stkSub b z) with e|e
  ·exact(hf b hb).2.1 e
  ·exact(hf b hb).2.2.1 e
 refine⟨I.ok.mod,S.kind,I.ok.glob,I.ok.blt,hC,fun x y c h1 h2=>I.ok.inj x y c (S.sub I.ok h1) (S.sub I.ok h2),fun x hx=>?_,fun x c h=>(by cases h),I.ok.hd,I.ok.frames,.inl rfl,fun b hb=>⟨?_,fun x c e=>?_⟩,I.bs,Qb I.ok.bsz I.sz,fun b o e hb=>?_,nfs,I.stack,I.stkFree⟩
 ·have hx':(relabel scope X.env).names.lookup x=some .cell∨(relabel scope X.env).names.lookup x=some .free:=hx;rcases fB (env:=X.env) (x:=x) scope.names with⟨e,_⟩|⟨k1,k2,e1,e2,e3⟩
  ·rcases hx' with z|z<;>(have z':=e.symm.trans z;cases z')
  ·have hk2:k2=.cell∨k2=.free:=by
    rcases hx' with z|z
    ·exact .inl (Option.some.inj (e2.symm.trans z))
    ·exact .inr (Option.some.inj (e2.symm.trans z))
   have hfree:k1=.free:=by
    rcases e3 with z|⟨z,_⟩
    ·rcases hk2 with q|q
     ·exact absurd (z.symm.trans q) (S.nocell _ (PySem.mem_of_lookup e1))
     ·exact z.symm.trans q
    ·exact z
   rw[hfree]at e1;obtain⟨c,_,hc⟩:=S.has I.ok e1;exact⟨c,hc⟩
 ·exact Zf (Va (hlt b hb) hC)
 ·exact(hf b hb).2.2.2.2.1 x c (S.sub I.ok e)
 ·rcases(hf b hb).2.2.2.1 with z|z
  ·exact I.ok.noex b o e z
  ·exact absurd (Va (Ac (I.ok.bs b o e).1) z) (Ye _)
theorem uO {pins:List (Addr×Obj)} {σ:St} {H:Hp} {s s3:Shared} {fp:List Addr} {C:Addr} {m:Str->Option Value} (S:BlkScope X N k caps scope) (I:Inv X pins σ H s) (hf:∀b∈fp,mZ X pins H b) (hlt:∀b∈fp,b<s.heap.objs.size)
  (hC:s.heap.objs.size<=C) (hos:s3.os=s.os) (hg:s3.gens=s.gens) (kp:∀b o,s.heap.get? b=some o->s3.heap.get? b=some o) (hn:s3.heap.Ns C m) (ht:0<s3.toks):Inv (hZ X N scope C s H fp) [] (ia k caps σ) H s3:=by
 refine⟨EU S I hf hlt hC,hos,by rw[hg];exact I.bare,Un.kept kp,⟨m,hn,fun i x v e1 e2 e3=>?_⟩,fun x c e=>?_,I.hok.fresh hC,fun x c e=>I.freeC x c (S.sub I.ok e),fun p hp=>absurd hp (by simp),I.hok.kept kp,by rw[p7];exact S.len.symm,ht⟩
 ·obtain⟨j,i',rfl,hc,hv⟩:=p8 e2;obtain⟨y,h1,h2,h3⟩:=S.cap j i' hc;have exy:y=x:=Option.some.inj (h1.symm.trans e1);subst exy;obtain⟨c,hc1,hc2⟩:=S.has I.ok h3;obtain⟨m0,hn0,hl0⟩:=I.loc;have hkind:=S.free _ (PySem.mem_of_lookup h3) rfl;obtain⟨u,ru,lu⟩:=hl0 i' y v h2 hv (hkind.elim (fun z=>.inr (.inl z)) (fun z=>.inr (.inr z)));refine⟨u,ru,.inr ⟨?_,c,hc2,?_⟩⟩
  ·rcases fB (env:=X.env) (x:=y) scope.names with⟨_,e⟩|⟨k1,k2,q1,q2,q3⟩
   ·rw[e]at h3;cases h3
   ·have hk1:k1=.free:=Option.some.inj (q1.symm.trans h3);rcases q3 with z|⟨_,z⟩
    ·right;show(relabel scope X.env).names.lookup y=_;exact q2.trans (by rw[z,hk1])
    ·left;show(relabel scope X.env).names.lookup y=_;exact q2.trans (by rw[z])
  ·rcases lu with⟨hk,_⟩|⟨_,c',hc',cell⟩
   ·rcases hkind with z|z<;>(have z':=hk.symm.trans z;cases z')
   ·have:c'=c:=Option.some.inj (hc'.symm.trans hc1);subst this;obtain⟨o,ho,hd⟩:=cell;exact⟨o,kp _ o ho,hd⟩
 ·obtain⟨v,o,ho,hd⟩:=I.cell x c (S.sub I.ok e);exact⟨v,o,kp _ o ho,hd⟩
end
def GY (X:Cx) (ifs:List Expr) (t:TT):Prop :=
 ∀(pins:List (Addr×Obj)) (s:Shared) (σ:St) (H:Hp) (Q:Bool->Hp->Prop),Inv X pins σ H s->t σ H Q ->
  wpAny (model X.prog X.w) X.A (forIn ifs true fun c r=>if r=true then do let ok ← isTrue c X.env (eval c X.env);pure (ForInStep.yield ok) else pure (ForInStep.yield r)) (TP X pins σ Q) X.xe s
def Hs:TT:=fun _ H Q=>Q true H
theorem iQ {X:Cx}:GY X [] Hs:=fun _ _ _ H _ I h=>wpAny_tests_nil ⟨H,I,h⟩
theorem BW {X:Cx} {c:Expr} {t:TT} (h:PT X c t):GY X [c] t:=fun pins s σ H Q I hw=>wpAny_tests_one (h pins s σ H Q I hw)
theorem iq {prog:Program} {w:World} {A:Around} {R:Result->Shared->Prop} {s:Shared} {elt target iter:Expr} {ifs:List Expr} {scope:Scope} {pos:Pos} {it acc:Value} {env:Env} (I:Nat->Shared->Prop)
  (turn:∀n s,I n s->wpAny (model prog w) A (pyNext it) (fun r s₁=>match r with
   | none=>R (.ok .next) s₁
   | some v=>wpAny (model prog w) A (letOwnedTupleGo target it v) (fun _ s₀=>wpAny (model prog w) A (assign target env v) (fun _ s₂ =>
     wpAny (model prog w) A (forIn ifs true fun c r=>if r=true then do let ok ← isTrue c env (eval c env);pure (ForInStep.yield ok) else pure (ForInStep.yield r)) (fun ok s₃ =>
      if ok=true then wpAny (model prog w) A (eval elt env) (fun x s₄ =>
       wpAny (model prog w) A (call (.builtin "list.append") [acc,x]) (fun _ s₅=>∃m,m<n/\I m s₅) (fun _ _=>False) s₄) (fun _ _=>False) s₃
      else ∃m,m<n/\I m s₃) (fun _ _=>False) s₂) (fun _ _=>False) s₀) (fun _ _=>False) s₁) (fun _ _=>False) s)
  (n:Nat) (h:I n s) :
  codeAny (model prog w) A (.compLoop (.ListComp elt [⟨target,iter,ifs,0⟩] scope pos) 0 it acc env) R s:=by
 refine codeAny_loop rfl I (fun n s hI=>?_) n h;show wpAny _ A ((compTurn (.ListComp elt [⟨target,iter,ifs,0⟩] scope pos) 0 it acc env).onRaise (fun x=>do noteFrame x env;theTreesLotGoes x)) _ _ s
 refine wpAny_noted ?_;rw[compTurn_list];refine Aa (AB (Aa (Ak (turn n s hI) (fun r s₁ h₁=>?_) fun _ _ h'=>False.elim h')));cases r with
 | none=>exact Ah h₁
 | some v =>
  refine Aa (Ak h₁ (fun _ s₀ h₀=>?_) fun _ _ h'=>False.elim h');refine Aa (Ak h₀ (fun _ s₂ h₂=>Aa (Ak h₂ (fun ok s₃ h₃=>?_) fun _ _ h'=>False.elim h')) fun _ _ h'=>False.elim h');cases ok with
  | false=>exact Ah ⟨rfl,h₃⟩
  | true =>
   exact Aa (Aa (Ak h₃ (fun x s₄ h₄=>Aa (Ak h₄ (fun _ s₅ h₅=>Ah (Ah ⟨rfl,h₅⟩)) fun _ _ h'=>False.elim h')) fun _ _ h'=>False.elim h'))
def oS (k:Nat) (caps:List Nat) (wi:TI) (g:TG) (tc:TT) (te:TE):TE:=fun σ H Q=>wi σ H fun J H1=>∃(n:Nat) (W:Nat->List V->Hp->Prop),W 0 [] H1 /\
 (∀xs H,W n xs H->J.stop n H/\∀p,H p=none->Q (.ref p) (upd H p (.lst xs))) /\
 ∀i xs H,i<n->W i xs H->J.go i H/\xs.length<sizeLine/\∀x H',J.yld i H x H'->g x (ia k caps σ) H' fun σ2 H2=>tc σ2 H2 fun ok H3 =>
  if ok=true then te σ2 H3 fun y H4=>σ2.drop k=(ia k caps σ).drop k/\W (i+1) (xs++[y]) H4
  else σ2.drop k=(ia k caps σ).drop k/\W (i+1) xs H3
abbrev bR (its:List Value) (n:Nat):Obj:={ cls:=.type "list",data:=.seq its.toArray n }
def xQ (X:Cx) (pins:List (Addr×Obj)) (H:Hp) (C:Addr):Prop :=
 H C=none/\C≠X.env.locals/\(C∈X.ex∨X.s₀.heap.objs.size<=C)/\(∀x c,X.env.cells.lookup x=some c->c≠C)/\∀p∈X.pn++pins,p.1≠C
inductive CI (X':Cx) (A:Addr) (σ:St) (tn:Nat->Heap->Prop) (fp:List Addr) (n0:Nat) (W:Nat->List V->Hp->Prop) (n:Nat) (s':Shared):Prop
 | mk (i:Nat) (xs:List V) (its:List Value) (nn:Nat) (H':Hp) (J:Inv X' [(A,bR its nn)] σ H' s') (st:tn i s'.heap) (fr:∀b∈fp,H' b=none) (vs:Vals xs its) (hz:xs.length<=sizeLine) (hn:n=n0-i) (hi:i<=n0) (w:W i xs H')
theorem xR {X:Cx} {elt iter tg:Expr} {ifs:List Expr} {scope:Scope} {pos cpos:Pos} {N:List Str} {k:Nat} {caps:List Nat} {wi:TI} {g:TG} {tc:TT} {te:TE} {use:Option (Value->Sem Unit)} {Q':Value->Shared->Prop}
  {pins:List (Addr×Obj)} {s:Shared} {σ:St} {H:Hp} {Q:VK} (S:BlkScope X N k caps scope) (hc:X.calm=true) (hi:PI X tg iter wi)
  (hg:∀C s H fp,PG (hZ X N scope C s H fp) tg g) (ht:∀C s H fp,GY (hZ X N scope C s H fp) ifs tc) (he:∀C s H fp,PE (hZ X N scope C s H fp) elt te)
  (hs:∀x,foldedSetIterable iter X.env x=pure x) (I:Inv X pins σ H s) (h:oS k caps wi g tc te σ H Q)
  (fin:∀(D C:Addr) (H4:Hp) (s4:Shared) (m:Str->Option Value),Inv X pins σ H4 s4->s4.heap.Ns C m->xQ X pins H4 C->Q (.ref D) H4->compPost (model X.prog X.w) X.A X.xe use Q' (.ref D) C (.ok .next) s4) :
  wpAny (model X.prog X.w) X.A (comprehension (.ListComp elt [⟨tg,iter,ifs,0⟩] scope pos) scope X.env cpos (newList []) false (eval iter X.env) use) Q' X.xe s:=by
 refine wpAny_comprehension_free rfl hs (fW (S.cells I.ok)) S.kind S.loc ?_;refine b7 (hi pins s σ H _ I h) fun v s1 h1=>b7 h1 fun itv s2 h2=>?_;obtain⟨it,fp,tn,J,H2,e,I2,T,st2,f2,n0,W,w0,wstop,turn⟩:=h2;subst e;refine Aw (wpAny_newFunctionEnv S.nocell (by intro y hy;simp at hy) (fun h₁ hns₁ hsb₁=>?_) S.kind)
 dsimp only at hns₁ hsb₁ ⊢;generalize hG:s2.heap.push { cls:=.type "list",dict:=none,data:=.seq ([]:List Value).toArray }=G at hns₁ hsb₁ ⊢;have hCG:G.objs.size=s2.heap.objs.size+1:=by rw[← hG,A8]
 have hDC:s2.heap.objs.size≠G.objs.size:=by lia
 have below:∀b,b<s2.heap.objs.size->b≠G.objs.size/\b≠s2.heap.objs.size:=fun b hb=>⟨by lia,by lia⟩
 have old:∀b o,s2.heap.get? b=some o->h₁.get? b=some o:=fun b o e=>hsb₁.extBut b o (below b (Ac e)).1 (Ab _ (hG ▸ Ab _ e));have hacc:h₁.get? s2.heap.objs.size=some (bR [] 0):=hsb₁.extBut _ _ hDC (Ab _ (hG ▸ Aj _ rfl));have hlt:∀b∈fp,b<s2.heap.objs.size:=fun b hb=>by obtain⟨o,ho,_⟩:=T.obj 0 _ st2 b hb;exact Ac ho
 have hDf:s2.heap.objs.size∉fp:=fun z=>Ye _ (hlt _ z);have hle:s2.heap.objs.size<=G.objs.size:=by lia
 have hDcell:∀x c,(bE X.env scope.names []).lookup x=some c->c≠s2.heap.objs.size:=fun x c e z=>by
  obtain⟨v,q⟩:=I2.cell x c (S.sub I2.ok e);exact absurd q.lt (by rw[z];exact Ye _)
 have hDfs:s2.heap.objs.size∉fA X.stack:=fun z=>by
  obtain⟨_,o,ho,_⟩:=I2.stack.mem z;exact absurd (Ac ho) (Ye _)
 have nfs:∀b∈fp,b∉fA X.stack:=fun b hb z=>by
  rcases Vc.mp (I2.stkSub b z) with e|e
  ·exact(f2 b hb).2.1 e
  ·exact(f2 b hb).2.2.1 e
 have fpk:∀{H':Hp} {its:List Value} {n:Nat},(∀b∈fp,H' b=none)->∀b∈fp,mZ (hZ X N scope G.objs.size s2 H2 fp) [(s2.heap.objs.size,bR its n)] H' b:=fun {H' its n} hn b hb =>
  ⟨hn b hb,(below b (hlt b hb)).1,nfs b hb,.inl hb,fun x c e=>(f2 b hb).2.2.2.2.1 x c (S.sub I2.ok e),fun p hp=>by
   have e:p=(s2.heap.objs.size,bR its n):=by simpa using hp
   rw[e];exact Al (below b (hlt b hb)).2⟩
 have pinD:∀{H':Hp} {s':Shared} {σ':St} {its:List Value} {n:Nat},Inv (hZ X N scope G.objs.size s2 H2 fp) [] σ' H' s'->s'.heap.get? s2.heap.objs.size=some (bR its n)->H' s2.heap.objs.size=none->Inv (hZ X N scope G.objs.size s2 H2 fp) [(s2.heap.objs.size,bR its n)] σ' H' s':=fun {H' s' σ' its n} J e hn =>
  J.pins_of fun p hp=>by
   have q:p=(s2.heap.objs.size,bR its n):=by simpa using hp
   rw[q];exact⟨e,hn,hDC,hDfs,fun v z=>by cases z⟩
 have I3:Inv (hZ X N scope G.objs.size s2 H2 fp) [] (ia k caps σ) H2 { s2 with heap:=h₁,toks:=s2.toks+([]:List (Str×Value)).length }:=uO S I2 f2 hlt hle rfl rfl old hns₁ (Va I2.tk (Qm _ _));have loop:codeAny (model X.prog X.w) X.A (.compLoop (.ListComp elt [⟨tg,iter,ifs,0⟩] scope pos) 0 (.ref it) (.ref s2.heap.objs.size) (compEnvC scope (bE X.env scope.names []) G.objs.size X.env))
   (compPost (model X.prog X.w) X.A X.xe use Q' (.ref s2.heap.objs.size) G.objs.size) { s2 with heap:=h₁,toks:=s2.toks+([]:List (Str×Value)).length }:=by
  refine iq (CI (hZ X N scope G.objs.size s2 H2 fp) s2.heap.objs.size (ia k caps σ) tn fp n0 W) ?_ n0
   ⟨0,[],[],0,H2,pinD I3 hacc (I2.hok.fresh (Wa _)),T.keep _ _ _ st2 fun b _ o e=>old b o e,fun b hb=>(f2 b hb).1,.nil,Vj _,rfl,Vj _,w0⟩
  rintro n s3 ⟨i,xs,its,nn,H3,J3,st3,fr3,vs3,hz3,hn3,hi3,w3⟩;by_cases hin:i<n0
  rotate_left
  ·have ein:i=n0:=by lia
   subst ein;obtain⟨stop,qn⟩:=wstop xs H3 w3;refine b7 (T.done (hZ X N scope G.objs.size s2 H2 fp) rfl rfl rfl hc i _ s3 _ H3 _ J3 (fpk fr3) st3 stop) fun r s4 zz9=>?_;obtain⟨hr,J4⟩:=zz9;subst hr;obtain⟨eD,nD,_⟩:=J4.pin (s2.heap.objs.size,bR its nn) (by simp)
   have eD:s4.heap.get? s2.heap.objs.size=some (bR its nn):=eD;have nD:H3 s2.heap.objs.size=none:=nD;obtain⟨m4,hm4,_⟩:=J4.loc;have U:Un (fA X.stack) fp H2 H3 s2.heap s4.heap:=J4.base;have neC:∀b o,s2.heap.get? b=some o->b≠G.objs.size:=fun b o e=>(below b (Ac e)).1;have neD:∀b o,s2.heap.get? b=some o->b≠s2.heap.objs.size:=fun b o e=>(below b (Ac e)).2;have H2D:H2 s2.heap.objs.size=none:=I2.hok.fresh (Wa _);have HC:H3 G.objs.size=none:=J4.free;refine fin s2.heap.objs.size G.objs.size (upd H3 s2.heap.objs.size (.lst xs)) s4 m4 (I2.call' (s':=s4) (ch:=fp) J4.os ?_ ?_ J4.bare ?_ J4.tk) hm4 ?_ (qn _ nD)
   ·refine⟨fun b o e n hb hx=>U.keep b o e n hb hx,fun b o e n hb hx=>U.slot b o e n hb hx,fun b o e n hx=>?_,fun b o e hx=>U.there b o e hx,fun b ys e=>?_,fun b o u e=>?_,fun b ps e=>?_⟩
    ·rw[ag (neD b o e)];exact U.free b o e n hx
    ·rw[ag (aN e H2D)];exact U.tups b ys e
    ·rw[ag (aN e H2D)];exact U.frzs b o u e
    ·obtain⟨more,q⟩:=U.tbls b ps e;exact⟨more,by rw[ag (aN e H2D)];exact q⟩
   ·intro b u e;by_cases hb:b=s2.heap.objs.size
    ·subst hb;rw[aq]at e;cases e;exact⟨hz3,its,nn,vs3,eD⟩
    ·rw[ag hb]at e;exact(J4.hok b u e).stay (fun c v _ q=>q) (fun c q=>by rw[ag (aN q nD)];exact q) fun c ys q=>by rw[ag (aN q nD)];exact q
   ·exact fun b hb=>⟨(f2 b hb).2.2.2.1,(f2 b hb).2.1,(f2 b hb).2.2.2.2.1,(f2 b hb).2.2.2.2.2⟩
   ·refine⟨by rw[ag (Al hDC)];exact HC,Qj (Va I2.lt hle),.inr (Qb I2.sz hle),fun x c e z=>?_,fun p hp z=>?_⟩
    ·obtain⟨v,q⟩:=I2.cell x c e;exact absurd (Va q.lt (by rw[z];exact hle)) (Ye _)
    ·exact absurd (Va (Ac (I2.pin p hp).1) (by rw[z];exact hle)) (Ye _)
  ·obtain⟨go,hz,step⟩:=turn i xs H3 hin w3;refine b7 (T.item (hZ X N scope G.objs.size s2 H2 fp) rfl rfl rfl hc i _ s3 _ H3 _ J3 (fpk fr3) st3 go) fun r s4 zz9=>?_;obtain⟨u,hr,h4⟩:=zz9;subst hr;refine b7 h4 fun _ s5 zz9=>?_;obtain⟨x,H5,J5,r5,y5,st5,fr5⟩:=zz9;have J5':=J5.pinned (fpk fr5) (T.obj _ _ st5);refine b7 (hg _ _ _ _ _ s5 _ H5 x u _ J5' r5 (step x H5 y5)) fun _ s6 zz9=>?_;obtain⟨σ6,H6,J6,q6⟩:=zz9;refine b7 (ht _ _ _ _ _ s6 σ6 H6 _ J6 q6) fun ok s7 zz9=>?_;obtain⟨H7,J7,q7⟩:=zz9;have wk:∀{σ8:St} {H8:Hp} {s8:Shared} {pl:List (Addr×Obj)},Inv (hZ X N scope G.objs.size s2 H2 fp) pl σ8 H8 s8->σ8.drop k=(ia k caps σ).drop k->Inv (hZ X N scope G.objs.size s2 H2 fp) pl (ia k caps σ) H8 s8:=fun {σ8 H8 s8 pl} J8 hd =>
    J8.weak (by rw[p7,J8.len];exact S.len.symm) fun j v e=>by
     obtain⟨j',i',rfl,hc',hv'⟩:=p8 e;have e1:((ia k caps σ).drop k)[j']?=some (some v):=by rw[Qe];exact e
     rw[← hd,Qe]at e1;exact e1
   have recs:∀{σ8:St} {H8:Hp} {s8:Shared},Inv (hZ X N scope G.objs.size s2 H2 fp) ([(s2.heap.objs.size,bR its nn)]++kK fp s5.heap) σ8 H8 s8->(∀b∈fp,∀o,s5.heap.get? b=some o->s8.heap.get? b=some o)/\(∀b∈fp,H8 b=none):=fun {σ8 H8 s8} J8 =>
    ⟨fun b hb o e=>(J8.pin (b,o) (Xd _ (Xd _ (cY hb e)))).1,fun b hb=>by
     obtain⟨o,e,d⟩:=T.obj _ _ st5 b hb
     exact(J8.pin (b,o) (Xd _ (Xd _ (cY hb e)))).2.1⟩
   cases ok with
   | false =>
    rw[Ag (by decide)]at q7 ⊢
    obtain⟨hd,w7⟩:=q7;obtain⟨k1,k2⟩:=recs J7;exact⟨n0-(i+1),by lia,i+1,xs,its,nn,H7,wk J7.unpinned hd,T.keep _ _ _ st5 k1,k2,vs3,hz3,rfl,hin,w7⟩
   | true =>
    rw[Ad rfl]at q7 ⊢;refine b7 (he _ _ _ _ _ s7 σ6 H7 _ J7 q7) fun uy s8 zz9=>?_;obtain⟨y,H8,J8,r8,hd,w8⟩:=zz9;obtain⟨k1,k2⟩:=recs J8;obtain⟨eD,nD,_⟩:=J8.pin (s2.heap.objs.size,bR its nn) (by simp)
    have eD:s8.heap.get? s2.heap.objs.size=some (bR its nn):=eD;have nD:H8 s2.heap.objs.size=none:=nD;have hl3:=vs3.length;refine AA F.slot_list_append ⟨_,eD,rfl⟩ F.entry_list_append (F.args_list_append_2 _ _) (PySem.list_append s2.heap.objs.size its.toArray nn uy (by rw[Vb];lia)) ⟨eD,?_⟩
    have q:=PySem.IsL.update eD (fun a:Array Value=>a.push uy);have qe:its.toArray.push uy=(its++[uy]).toArray:=by simp
    rw[qe]at q;have oth:∀b o,b≠s2.heap.objs.size->s8.heap.get? b=some o->(s8.heap.update s2.heap.objs.size (Obj.mapSeq fun a=>a.push uy)).get? b=some o:=fun b o hb e=>(Ai s8.heap _ (Al hb)).trans e;have J9:Inv (hZ X N scope G.objs.size s2 H2 fp) [] σ6 H8 { s8 with heap:=s8.heap.update s2.heap.objs.size (Obj.mapSeq fun a=>a.push uy),toks:=s8.toks } :=
     (J8.pins_of (pins':=[]) fun p hp=>absurd hp (by simp)).turned oth nD hDC (.inr (Wa _)) hDcell (fun p hp=>absurd hp (by simp))
    refine⟨n0-(i+1),by lia,i+1,xs++[y],its++[uy],_,H8,wk (pinD J9 q nD) hd,T.keep _ _ _ st5 fun b hb o e=>oth b o (fun z=>hDf (z ▸ hb)) (k1 b hb o e),k2,vs3.append (.cons r8 .nil),?_,rfl,hin,w8⟩
    rw[Xa,Qg];lia
 exact codeAny_compStart_list loop (T.self _ 0 _ _ _ (T.keep _ _ _ st2 fun b _ o e=>old b o e) loop)
theorem Inv.aside {X:Cx} {pins:List (Addr×Obj)} {σ:St} {H:Hp} {s:Shared} {C:Addr} {h':Heap} (I:Inv X pins σ H s) (a:xQ X pins H C) (hs:Heap.SameBut C s.heap h'):Inv X pins σ H { s with heap:=h' } :=
 I.turned (t':=s.toks) (fun b o hb e=>hs.extBut b o hb e) a.1 a.2.1 a.2.2.1 a.2.2.2.1 a.2.2.2.2
theorem iR {X:Cx} {elt iter tg:Expr} {ifs:List Expr} {scope:Scope} {pos:Pos} {N:List Str} {k:Nat} {caps:List Nat} {wi:TI} {g:TG} {tc:TT} {te:TE} (S:BlkScope X N k caps scope) (hc:X.calm=true) (hi:PI X tg iter wi)
  (hg:∀C s H fp,PG (hZ X N scope C s H fp) tg g) (ht:∀C s H fp,GY (hZ X N scope C s H fp) ifs tc) (he:∀C s H fp,PE (hZ X N scope C s H fp) elt te)
  (hs:∀x,foldedSetIterable iter X.env x=pure x:=by intro _;rfl):PE X (.ListComp elt [⟨tg,iter,ifs,0⟩] scope pos) (oS k caps wi g tc te):=by
 intro pins s σ H Q I h;rw[eval_ListComp];exact xR (use:=none) S hc hi hg ht he hs I h fun D C H4 s4 m I4 hm a q=>⟨m,hm,fun h' hs'=>⟨.ref D,H4,I4.aside a hs',rfl,q⟩⟩
end L2
namespace L2
open PySem PySem.Spec PyProof.Rows
def Jm (x:Str):It:=⟨fun i _=>i<x.cps.size,fun i H v H'=>H'=H/\∃c,x.cps[i]?=some c/\v=.str ⟨#[c]⟩,fun i _=>x.cps.size<=i⟩
theorem wn {P:Program} {w:World} {K:PySem.W.Frag} {tg:Expr} (it:Addr) (x:Str) (t:Tok):Turn P w K tg (Jm x) [it] it (fun i h=>h.IsStrIter it "str_ascii_iterator" x t i) where
 mem:=by simp
 obj:=fun i h st b hb=>by
  have e:b=it:=by simpa using hb
  subst e;obtain⟨o,e,c,d⟩:=st;exact⟨o,e,fun v z=>by rw[d]at z;cases z⟩
 keep:=fun i h h' st k=>let ⟨o,ho,r⟩:=st;⟨o,k it (by simp) o ho,r⟩
 item:=by
  intro X hP hw hK hc i pins s σ H E I hf st hg;subst hP hw hK;obtain⟨f0,f1,f2,f3,f4,f5⟩:=hf it (by simp)
  have hg':i<x.cps.size:=hg;refine wpAny_pyNext_ascii_item st (c:=x.cps[i]) (by simp[hg']) fun h' st' sb=>?_
  have I1:Inv X pins σ H { s with heap:=h',toks:=s.toks+1 }:=I.turned (fun b o hb e=>sb.extBut b o hb e) f0 f1 f3 f4 f5;obtain⟨o,e,c,d⟩:=id st';exact⟨_,rfl,oG (s:={ s with heap:=h',toks:=s.toks+1 }) e c d (by decide) ⟨.str ⟨#[x.cps[i]]⟩,H,I1,⟨_,rfl⟩,⟨rfl,_,by simp[hg'],rfl⟩,st',fun b hb=>(hf b hb).1⟩⟩
 done:=by
  intro X hP hw hK hc i pins s σ H E I hf st hg;subst hP hw hK;obtain⟨f0,f1,f2,f3,f4,f5⟩:=hf it (by simp)
  have hg':x.cps.size<=i:=hg;exact wpAny_pyNext_ascii_end (I.ok.hd hc) st (by simp[hg']) fun h' eb=>⟨rfl,I.turned (t':=s.toks) (fun b o hb e=>eb b o hb e) f0 f1 f3 f4 f5⟩
 self:=fun _ _ _ _ _ st h=>wpAny_pyIter_striter_ascii st h
theorem wo {P:Program} {w:World} {K:PySem.W.Frag} {tg:Expr} (it:Addr) (x:Str) (t:Tok):Turn P w K tg (Jm x) [it] it (fun i h=>h.IsStrIter it "str_iterator" x t i) where
 mem:=by simp
 obj:=fun i h st b hb=>by
  have e:b=it:=by simpa using hb
  subst e;obtain⟨o,e,c,d⟩:=st;exact⟨o,e,fun v z=>by rw[d]at z;cases z⟩
 keep:=fun i h h' st k=>let ⟨o,ho,r⟩:=st;⟨o,k it (by simp) o ho,r⟩
 item:=by
  intro X hP hw hK hc i pins s σ H E I hf st hg;subst hP hw hK;obtain⟨f0,f1,f2,f3,f4,f5⟩:=hf it (by simp)
  have hg':i<x.cps.size:=hg;refine wpAny_pyNext_wide_item st (c:=x.cps[i]) (by simp[hg']) fun h' st' sb=>?_
  have I1:Inv X pins σ H { s with heap:=h',toks:=s.toks+1 }:=I.turned (fun b o hb e=>sb.extBut b o hb e) f0 f1 f3 f4 f5;obtain⟨o,e,c,d⟩:=id st';exact⟨_,rfl,oG (s:={ s with heap:=h',toks:=s.toks+1 }) e c d (by decide) ⟨.str ⟨#[x.cps[i]]⟩,H,I1,⟨_,rfl⟩,⟨rfl,_,by simp[hg'],rfl⟩,st',fun b hb=>(hf b hb).1⟩⟩
 done:=by
  intro X hP hw hK hc i pins s σ H E I hf st hg;subst hP hw hK;obtain⟨f0,f1,f2,f3,f4,f5⟩:=hf it (by simp)
  have hg':x.cps.size<=i:=hg;exact wpAny_pyNext_wide_end (I.ok.hd hc) st (by simp[hg']) fun h' eb=>⟨rfl,I.turned (t':=s.toks) (fun b o hb e=>eb b o hb e) f0 f1 f3 f4 f5⟩
 self:=fun _ _ _ _ _ st h=>wpAny_pyIter_striter_wide st h
section
variable {X:Cx} {tg:Expr}
def EV (tl:TE):TI:=fun σ H R=>tl σ H fun x H1=>∃z,x=.str z/\R (Jm z) H1
theorem EW {l:Expr} {tl:TE} (hl:PE X l tl):PI X tg l (EV tl):=by
 intro pins s σ H R I h;refine b7 (hl pins s σ H _ I h) fun v s1 zz9=>?_;obtain⟨x,H1,I1,r1,q1⟩:=zz9;obtain⟨z,e,q⟩:=q1;subst e;obtain⟨t,rfl⟩:=r1;have fpk:∀b∈[s1.heap.objs.size],mZ X pins H1 b:=fun b hb=>by
  have e:b=s1.heap.objs.size:=by simpa using hb
  subst e;exact I1.fpOk (Wa _) (I1.hok.fresh (Wa _))
 cases ha:z.cps.all (·<128) with
 | true=>exact wpAny_pyIter_ascii ha ⟨s1.heap.objs.size,[s1.heap.objs.size],_,_,H1,rfl,I1.kept (t':=s1.toks) fun b o e=>Ab _ e,wn _ z t,⟨_,Aj _ rfl,rfl,rfl⟩,fpk,q⟩
 | false=>exact wpAny_pyIter_wide ha ⟨s1.heap.objs.size,[s1.heap.objs.size],_,_,H1,rfl,I1.kept (t':=s1.toks) fun b o e=>Ab _ e,wo _ z t,⟨_,Aj _ rfl,rfl,rfl⟩,fpk,q⟩
theorem range_all (bs:List Bool):(List.range bs.length).all (fun i=>bs.getD i true)=bs.all id:=by
 induction bs with
 | nil=>rfl
 | cons b r ih =>
  rw[Yc,List.range_succ_eq_map,Vn,List.all_map,Vn,← ih];rfl
theorem m8 (hc:X.calm=true):CallR X (.builtin "all") (fun xs H Q=>∃(p:Addr) (bs:List Bool),xs=[.ref p]/\hJ X.K H p (bs.map V.bl)/\Q (.bl (bs.all id)) H):=by
 intro pins s σ H xs us Q I rv h;obtain⟨p,bs,rfl,hq,q⟩:=h;obtain⟨u,rfl,ru⟩:=vals1 rv;cases ru;obtain⟨its,r,pl,hz⟩:=I.list hq;have hlen:its.length=bs.length:=by have:=r.length;simpa using this.symm
 obtain⟨op,np,ep,cp,dp,sp⟩:=id pl;have hne:p≠s.heap.objs.size:=Zf (Ac ep);refine bu (call_all_walk (wpAny_pyIter_list pl.isList ?_));refine⟨s.heap.objs.size,_,_,_,_,_,fun i=>bs.getD i true,rfl,Walks.list (show X.A.in1.handled=none from I.ok.hd hc) s.heap.objs.size p hne its.toArray,⟨⟨_,Aj _ rfl,rfl,rfl⟩,⟨op,Ab _ ep,cp,np,sp⟩⟩,?_,fun h' tk kp hle=>?_⟩
 ·intro i v s' Q' E' hv hQ';have hv':its[i]?=some v:=by simpa using hv
  have hi:i<its.length:=(Yd.mp hv').1;have hb:(bs.map V.bl)[i]?=some (V.bl (bs[i]'(by lia))):=by
   rw[Wg,Zc (by lia)];rfl
  obtain⟨u',e1,e2⟩:=r.get hb;rw[hv']at e1;cases e1;cases e2;have:bs.getD i true=bs[i]'(by lia):=by rw[List.getD_eq_getElem?_getD,Zc (by lia)];rfl
  have hQ2:Q' (bs.getD i true) s':=hQ';rw[this]at hQ2;exact Az hQ2
 ·have e:(List.range its.toArray.size).all (fun i=>bs.getD i true)=bs.all id:=by
   rw[Vb,hlen];exact range_all bs
  rw[e]
  exact⟨.bl (bs.all id),H,I.kept (fun b o e=>kp b o (by
   intro z;have z':b=s.heap.objs.size:=by simpa using z
   exact absurd (Ac e) (by rw[z'];exact Ye _)) (Ab _ e)) (I.tkl' hle),rfl,q⟩
theorem m9:∀{ys:List Str} {us:List Value},Vals (ys.map V.str) us->StrsAre us ys
 | [],_,r=>by cases r;exact .nil
 | y::ys,_,r=>by
  cases r with
  | cons a b =>
   obtain⟨t,rfl⟩:=a;exact .cons y t (m9 b)
theorem BX:Hn X "str.join" (fun x vs H Q=>∃(sep:Str) (p:Addr) (ys:List Str),x=.str sep/\vs=[.ref p]/\hJ X.K H p (ys.map V.str)/\(ys.map (·.length)).sum+ys.length*sep.length<=16777216/\Q (.str (Txt.join sep ys)) H):=by
 intro pins s σ H x vs v us Q I rx rv h;obtain⟨sep,p,ys,rfl,rfl,hq,hz,q⟩:=h;obtain⟨t,rfl⟩:=rx;obtain⟨u,rfl,ru⟩:=vals1 rv;cases ru;obtain⟨its,r,pl,_⟩:=I.list hq;exact bu (join_list pl.isList (m9 (by simpa using r)) hz fun t' k hle=>⟨.str _,H,I.tok k (I.tkl' hle),⟨t',rfl⟩,q⟩)
def sgn (x:Str):List V:=x.cps.toList.map fun c=>.str ⟨#[c]⟩
theorem rJ {x:Str} {acc:Array Value} (h:ItemsOf (SignAt x) acc x.cps.size):Vals (sgn x) acc.toList:=by
 obtain⟨h1,h2⟩:=h;have gen:∀(cs:List Nat) (us:List Value),us.length=cs.length->(∀(j:Nat) v,us[j]?=some v->∃c u,cs[j]?=some c/\v=Value.str ⟨#[c]⟩ u)->Vals (cs.map fun c=>V.str ⟨#[c]⟩) us:=by
  intro cs;induction cs with
  | nil=>intro us hl _;cases us with
   | nil=>exact .nil
   | cons _ _=>cases hl
  | cons c cs ih =>
   intro us hl hu;cases us with
   | nil=>cases hl
   | cons u us =>
    obtain⟨c',tk,e1,e2⟩:=hu 0 u rfl;have:c=c':=by simpa using e1
    subst this;subst e2;refine .cons ⟨tk,rfl⟩ (ih us (by simpa using hl) fun j v e=>?_)
    have:=hu (j+1) v (by simpa using e)
    simpa using this
 refine gen x.cps.toList acc.toList (by simp[h1]) fun j v e=>?_
 obtain⟨c,u,e1,e2⟩:=h2 j v (by simpa using e)
 exact⟨c,u,by simpa using e1,e2⟩
theorem uP (x:Str):(sgn x).length=x.cps.size:=by simp[sgn]
theorem na (hc:X.calm=true):CallR X (.type "list") (fun xs H Q=>∃z:Str,xs=[.str z]/\z.cps.size<=sizeLine/\∀l,H l=none->Q (.ref l) (upd H l (.lst (sgn z)))):=by
 intro pins s σ H xs us Q I rv h;obtain⟨z,rfl,hz,q⟩:=h;obtain⟨u,rfl,ru⟩:=vals1 rv;obtain⟨t,rfl⟩:=ru;refine bu (call_list_str (I.ok.hd hc) z t (fun h' tk acc' c' kp hS hi hle=>?_) hz);refine⟨.ref s.heap.objs.size,upd H s.heap.objs.size (.lst (sgn z)),I.laid kp (Wa _) ⟨by rw[uP];exact hz,acc'.toList,c',rJ hi,by simpa using hS⟩ (I.tkl' hle),rfl,q _ (I.hok.fresh (Wa _))⟩
theorem ObjOk.there {P:Program} {w:World} {H:Hp} {h:Heap} {a:Addr} {o:HO} (x:ObjOk P w H h a o):∃ob,h.get? a=some ob:=by
 cases o with
 | lst xs=>obtain⟨_,_,_,_,e⟩:=x;exact⟨_,e⟩
 | tup xs=>obtain⟨_,_,_,o,e,_⟩:=x;exact⟨_,e⟩
 | dK kvs=>obtain⟨_,_,_,_,o,_,_,e,_⟩:=x;exact⟨_,e⟩
 | dT ep kvs=>obtain⟨_,_,_,_,_,o,_,e,_⟩:=x;exact⟨_,e⟩
 | set S n=>obtain⟨o,_,_,_,e,_⟩:=x;exact⟨_,e⟩
 | ins C dx fs=>obtain⟨_,_,_,e,_⟩:=x;exact⟨_,e⟩
 | own y=>exact x
 | xd fs=>obtain⟨_,⟨_,_,_,e,_⟩,_⟩:=x;exact⟨_,e⟩
 | rng lo hi=>obtain⟨_,_,_,e⟩:=x;exact⟨_,e⟩
 | frz ob u=>obtain⟨e,_⟩:=x;exact⟨_,e⟩
 | tbl ps=>exact⟨_,x⟩
 | met f y=>exact⟨_,x⟩
 | ext φ=>obtain⟨_,e,_⟩:=x;exact e
theorem Inv.laid2 {pins:List (Addr×Obj)} {σ:St} {H:Hp} {s:Shared} {h':Heap} {a:Addr} {o:HO} {t':Nat} (I:Inv X pins σ H s) (k:∀b u,s.heap.get? b=some u->h'.get? b=some u) (hne:∀b u,s.heap.get? b=some u->b≠a) (hn:H a=none) (new:ObjOk X.prog X.w (upd H a o) h' a o) (ht:0<t':=by first|assumption|exact Vg _|exact Inv.tk (by assumption)|exact Inv.tkl (by assumption) (by assumption)|lia) :
  Inv X pins σ (upd H a o) { s with heap:=h',toks:=t' }:=by
 refine I.un ⟨fun b u e _ _ _=>k b u e,fun b u e _ _ _=>⟨u.slots,k b u e⟩,fun b u e n _=>by rw[ag (hne b u e)];exact n,fun b u e _=>⟨u,k b u e⟩,fun b xs e=>by rw[ag (aN e hn)];exact e,fun b u v e=>by rw[ag (aN e hn)];exact e,fun b ps e=>⟨#[],by rw[ag (aN e hn),e];simp⟩⟩ ?_
 intro b u e;by_cases hb:b=a
 ·subst hb;rw[aq]at e;cases e;exact new
 ·rw[ag hb]at e;exact(I.hok b u e).stay (fun c v _ q=>k c v q) (fun c q=>by rw[ag (aN q hn)];exact q) fun c xs q=>by rw[ag (aN q hn)];exact q
theorem mh (hc:X.calm=true):CallR X (.type "tuple") (fun xs H Q=>∃z:Str,xs=[.str z]/\z.cps.size<=sizeLine/\∀l,H l=none->Q (.ref l) (upd H l (.tup (sgn z)))):=by
 intro pins s σ H xs us Q I rv h;obtain⟨z,rfl,hz,q⟩:=h;obtain⟨u,rfl,ru⟩:=vals1 rv;obtain⟨t,rfl⟩:=ru;refine bu (call_tuple_str (I.ok.hd hc) z t (fun h' tk acc kp hi hle=>?_) hz);have hne:∀b u,s.heap.get? b=some u->b≠h'.objs.size:=fun b u e z=>absurd (Ac (kp b u e)) (by rw[z];exact Ye _)
 have hn:H h'.objs.size=none:=by
  cases e:H h'.objs.size with
  | none=>rfl
  | some o =>
   obtain⟨ob,eo⟩:=(I.hok _ _ e).there;exact absurd rfl (hne _ _ eo)
 refine⟨.ref h'.objs.size,upd H h'.objs.size (.tup (sgn z)),I.laid2 (fun b u e=>Ab _ (kp b u e)) hne hn ⟨by rw[uP];exact hz,acc.toList,rJ hi,⟨_,Aj _ rfl,rfl,0,by simp⟩⟩ (I.tkl' hle),rfl,q _ hn⟩
theorem EX:SlR X (fun x lo hi H Q=>∃z:Str,x=.str z/\z.length<=sizeLine/\Q (.str (Txt.slice z lo hi)) H):=by
 intro pins s σ H x v vl vu lo hi sl Q I rx hs pl pu h;obtain⟨z,rfl,hz,q⟩:=h;obtain⟨t,rfl⟩:=rx;refine⟨"str",_,F.slot_str_getitem.lookup,AJ _ _ _,?_⟩;have fin:∀(o p:Option Int),lo=o->hi=p->∀t' k,s.toks<=k->EP X pins σ Q (.str (Txt.slice z o p) t') { s with toks:=k }:=fun o p e1 e2 t' k hle=>⟨.str _,H,I.tok k (I.tkl' hle),⟨t',rfl⟩,by rw[← e1,← e2];exact q⟩
 refine bu ?_;cases pl with
 | none =>
  cases pu with
  | none=>exact AE (l:=none) (u:=none) (st:=none) hs rfl (A2 ⟨Qb (Bi z _ _) hz,fun t' k=>fin _ _ rfl rfl t' k⟩)
  | int j uj=>exact AE (l:=none) (u:=some (j,uj)) (st:=none) hs rfl (A2 ⟨Qb (Bi z _ _) hz,fun t' k=>fin _ _ rfl rfl t' k⟩)
 | int i ui =>
  cases pu with
  | none=>exact AE (l:=some (i,ui)) (u:=none) (st:=none) hs rfl (A2 ⟨Qb (Bi z _ _) hz,fun t' k=>fin _ _ rfl rfl t' k⟩)
  | int j uj=>exact AE (l:=some (i,ui)) (u:=some (j,uj)) (st:=none) hs rfl (A2 ⟨Qb (Bi z _ _) hz,fun t' k=>fin _ _ rfl rfl t' k⟩)
end
end L2
namespace L2
open PySem PySem.Spec PyProof.Rows
structure Cal (P:Program) (w:World) (K:PySem.W.Frag) (mg:Str->Option Value) (base:Heap) (x:Str) (k:Nat) (ps:List Str) (sp:Sp):Prop where
 ex:∃f fd,FnOk P w K mg base mD k f fd ps sp/\mg x=some (.ref f)/\PySem.W.keepIn K (.ref f)=true/\Binds K fd ps []
def wq (sp:Sp) (t:TA):TE:=fun σ H Q=>t σ H fun vs H1=>sp vs H1 Q E0
section
variable {X:Cx}
theorem aI (C:Cal X.prog X.w X.K X.mg X.base x k ps sp) (hr:Room k' X.A) (hg:Gl X x) (ha:PA X (e::es) t) (hk:k<=k':=by decide)
  (hdb:(x == ("__debug__":Str))=false:=by decide) (he:starEach (e::es) X.env=(false,eval e X.env)::starEach es X.env:=by rfl) (hpl:(backTo pos (starEach es X.env)).any (·.1)=false:=by rfl) :
  PE X (.Call (.Name x p) (e::es) [] pos) (wq sp t):=by
 obtain⟨f,fd,F,hm,hkp,hb⟩:=C.ex;intro pins s σ H Q I h;refine z8 F (hr.mono hk) hg hm hkp hb .nil Hr ha hdb he hpl pins s σ H Q I ?_;have e0:wq sp t=xC sp [] E0 t:=by
  funext σ H Q
  unfold wq xC;simp only[Xc]
 rw[e0]at h;exact h
def noStar:Expr->Bool
 | .Starred ..=>false
 | _=>true
theorem fu (h:noStar e=true):starEach (e::es) env=(false,eval e env)::starEach es env:=by
 cases e<;>first|rfl|cases h
theorem au (ha:PE X e te) (hr:PA X es t) (h:noStar e=true:=by rfl):PA X (e::es) (dM te t):=uE ha hr (fu h)
def strsOf:List Expr->Option (List Str)
 | []=>some []
 | .Constant (.str x) _ _::r=>(strsOf r).map (x::·)
 | _=>none
def DD (xs:List Str):TA:=fun _ H Q=>Q (xs.map V.str) H
theorem dS:∀{es:List Expr} {xs:List Str},strsOf es=some xs->PA X es (DD xs)
 | [],xs,h=>by
  have e:xs=[]:=(Option.some.inj h).symm;subst e;exact fun pos pins s σ H Q I q=>ah pos pins s σ H Q I q
 | e::r,xs,h=>by
  cases e with
  | Constant c j p =>
   cases c with
   | str x =>
    have h':(strsOf r).map (x::·)=some xs:=h;obtain⟨ys,h1,h2⟩:=Yg.mp h';subst h2;intro pos pins s σ H Q I q;exact uE (aF (x:=x)) (dS h1) (fu rfl) pos pins s σ H Q I q
   | _=>cases h
  | _=>cases h
theorem BY (hg:Gl X x) (hm:∃t,X.mg x=some (.str z t)) (hd:(x == ("__debug__":Str))=false:=by decide):PE X (.Name x pos) (tC (.str z)):=by
 obtain⟨t,h⟩:=hm;exact pQ hg h ⟨t,rfl⟩ hd
theorem BZ (hg:Gl X x) (hm:∃t,X.mg x=some (.int i t)) (hd:(x == ("__debug__":Str))=false:=by decide):PE X (.Name x pos) (tC (.int i)):=by
 obtain⟨t,h⟩:=hm;exact pQ hg h ⟨t,rfl⟩ hd
theorem aX (i:Nat) {pos' pos:Pos} (hN:X.N.Nodup) (he:PE X e te) (hi:X.N[i]?=some x:=by rfl) (hx:Loc X.env.scope x:=by first|exact Or.inl rfl|exact Or.inr rfl) (hf:X.fn x=true∨X.env.scope.names.lookup x=some .local:=by first|exact .inl rfl|exact .inr rfl|assumption)
  (hs:swapsWithSole [.Name x pos'] e pos.line X.env=pure false:=by rfl) (hw:swappedStores [.Name x pos'] e X.env=pure none:=by rfl) (h1:(assignEach [.Name x pos'] X.env).map (·.2)=[assign (.Name x pos') X.env]:=by rfl) :
  PS X (.Assign [.Name x pos'] e pos) (v4 te (jR i)):=ib he (ux hN hi hx hf) hs hw h1
theorem eO (i:Nat) (hN:X.N.Nodup) (hi:X.N[i]?=some x:=by rfl) (hx:Loc X.env.scope x:=by first|exact Or.inl rfl|exact Or.inr rfl) (hf:X.fn x=true∨X.env.scope.names.lookup x=some .local:=by first|exact .inl rfl|exact .inr rfl|assumption):PG X (.Name x pos) (jR i):=ux hN hi hx hf
end
theorem cZ:bootBuiltins "list"=some (.type "list"):=by decide +kernel
theorem ir:bootBuiltins "tuple"=some (.type "tuple"):=by decide +kernel
theorem fv:bootBuiltins "str"=some (.type "str"):=by decide +kernel
theorem oT:bootBuiltins "int"=some (.type "int"):=by decide +kernel
theorem gJ:bootBuiltins "bool"=some (.type "bool"):=by decide +kernel
theorem EY {K:PySem.W.Frag} {T S:String} {b:Bool} (h:(if (Value.type T == Value.type S)=true then some true else if PySem.W.kitMeta S=true then(fastBuiltinMro T).map (·.contains (Value.type S)) else none)=some b):PySem.W.kitOne K (.type T) (.type S)=some b:=h
theorem boot_isinstance:bootBuiltins "isinstance"=some (.builtin "isinstance"):=by decide +kernel
theorem boot_all:bootBuiltins "all"=some (.builtin "all"):=by decide +kernel
def DE (osc:Scope) (ON N:List Str) (k:Nat) (caps:List Nat) (scope:Scope):Bool :=
 decide (scope.kind=.function)&&scope.names.all (fun y=>decide (y.2≠.cell))&&scope.names.all (fun y=>decide (y.2=.local->scope.names.lookup y.1=some .local)) &&
 scope.names.all (fun y=>decide (y.2=.free->(osc.names.lookup y.1=some .cell∨osc.names.lookup y.1=some .free)))&&decide (N.length=k+caps.length) &&
 (List.range caps.length).all fun j=>match caps[j]?,N[k+j]? with
  | some i,some x=>decide (ON[i]?=some x)&&decide (scope.names.lookup x=some .free)
  | _,_=>false
theorem jp {X:Cx} (h:DE osc ON N k caps scope=true) (ho:X.env.scope=osc) (hN:X.N=ON):BlkScope X N k caps scope:=by
 unfold DE at h;simp only[We,decide_eq_true_eq,Xg]at h;obtain⟨⟨⟨⟨⟨h1,h2⟩,h3⟩,h4⟩,h5⟩,h6⟩:=h;refine⟨h1,h2,h3,fun y hy hf=>?_,h5,fun j i hj=>?_⟩
 ·show X.env.scope.names.lookup y.1=_∨X.env.scope.names.lookup y.1=_;rw[ho];exact h4 y hy hf
 ·have hlt:j<caps.length:=(Yd.mp hj).1;have q:=h6 j (List.mem_range.mpr hlt);rw[hj]at q;cases e:N[k+j]? with
  | none=>rw[e]at q;cases q
  | some x =>
   rw[e]at q;have q':(decide (ON[i]?=some x)&&decide (scope.names.lookup x=some .free))=true:=q;simp only[We,decide_eq_true_eq]at q';exact⟨x,rfl,by rw[hN];exact q'.1,q'.2⟩
theorem be (h:H p=none) (o:HO):Same H (upd H p o):=fun b u q=>by rw[ag (aN q h)];exact q
theorem Ht:i8 (x::r) 0=some x:=mz (j:=0) rfl
theorem gK {xs:List α} {i:Int} (h0:0<=i) (h1:i<xs.length):∃v,i8 xs i=some v/\v∈xs/\xs[i.toNat]?=some v:=by
 have hk:i.toNat<xs.length:=by lia
 have ek:i=((i.toNat:Nat):Int):=by lia
 refine⟨xs[i.toNat],?_,List.getElem_mem hk,Zc hk⟩;have q:i8 xs ((i.toNat:Nat):Int)=some xs[i.toNat]:=mz (Zc hk);rw[← ek]at q;exact q
end L2
namespace L2
open PySem PySem.Spec PyProof.Rows
section
variable {X:Cx}
theorem oA:Hn X "str.startswith" (fun x vs H Q=>∃(a b:Str),x=.str a/\vs=[.str b]/\Q (.bl (Txt.startswith a b)) H):=by
 intro pins s σ H x vs v us Q I rx rv h;obtain⟨a,b,rfl,rfl,q⟩:=h;obtain⟨t,rfl⟩:=rx;obtain⟨u,rfl,ru⟩:=vals1 rv;obtain⟨t',rfl⟩:=ru;exact SC.startswith ⟨.bl _,H,I,rfl,q⟩
theorem mulOk_of {x:Str} {n:Int} (h0:0<=n) (hn:n<=1000) (hx:x.length<=1000):MulOk x n:=by
 have hx':(x.length:Int)<=1000:=by lia
 have hm:(x.length:Int)*n<=1000*1000:=Int.mul_le_mul hx' hn h0 (by decide)
 have hm2:x.length*n.toNat<=1000*1000:=Nat.mul_le_mul hx (by lia)
 refine⟨?_,fun h1 _=>?_,fun h1 h2=>?_⟩
 ·rw[Ae (by lia),Ae (by lia)];rfl
 ·have:(x.length:Int)<=(2 ^ 63-1) / n:=(Int.le_ediv_iff_mul_le (by lia)).mpr (Int.le_trans hm (by decide))
  lia
 ·unfold Builtin.Str.tooLong;have:=wm (Wa 1000);exact Ae (by rw[AF];lia)
theorem tH:OpR X (binaryOp .Mult) (fun x y H Q=>∃(a:Str) (n:Int),x=.str a/\y=.int n/\MulOk a n/\Q (.str (Txt.mul a n)) H):=by
 intro pins s σ H x y v u Q I rx ry h;obtain⟨a,n,rfl,rfl,hok,q⟩:=h;obtain⟨t,rfl⟩:=rx;obtain⟨t',rfl⟩:=ry;exact bu (SB.mul hok fun t2 k hle=>⟨.str _,H,I.tok k (I.tkl' hle),⟨t2,rfl⟩,q⟩)
theorem EZ (hu:X.A.units<cLine):OpR X (compareOp .NotEq) (fun x y H Q=>∃(a b:Addr) (xs:List V),x=.ref a/\y=.ref b/\hJ X.K H a xs/\hJ X.K H b []/\Q (.bl (!xs.isEmpty)) H):=by
 intro pins s σ H x y v u Q I rx ry h;obtain⟨a,b,xs,rfl,rfl,ha,hb,q⟩:=h;cases rx;cases ry;obtain⟨its,r,pl,_⟩:=I.list ha;obtain⟨its2,r2,pl2,_⟩:=I.list hb;cases r2;cases xs with
 | nil =>
  cases r;exact SeqAt.RcNeAt.lists (e:=fun _=>true) pl.isList pl2.isList rfl hu (fun j h1 _=>absurd h1 (by simp)) _ _ _ _ ⟨.bl _,H,I,rfl,q⟩
 | cons x1 xr =>
  cases r;exact Bz pl.isList pl2.isList (by simp) hu _ _ _ _ ⟨.bl _,H,I,rfl,q⟩
end
theorem uQ {X:Cx} {K:PySem.W.Frag} (h:X.K=K):IxR X (IU K):=h ▸ EL
theorem rK {α:Type} [DecidableEq α]:∀(l m:List α),l.Nodup->(∀x∈l,x∈m)->l.length<=m.length
 | [],_,_,_=>Vj _
 | a::l,m,h,hs=>by
  have hm:a∈m:=hs a Qa;have h1:=Zh.mp h;have ih:=rK l (m.erase a) h1.2 fun x hx=>by
   have hne:x≠a:=fun e=>h1.1 (e ▸ hx);exact(List.mem_erase_of_ne hne).mpr (hs x (Yb _ hx))
  have hl:=BH hm;have hp:0<m.length:=BN hm;rw[Yc];lia
end L2
namespace VX
open PySem
def yφ (C e:Addr) (dx:Option Addr) (T:Addr):Heap->Prop:=fun h=>∃vs sl,h.get? e=some ⟨.ref C,dx,.fields vs,sl⟩/\vs[1]?=some (.ref T)
def tφ (T:Addr) (fl:Value):Heap->Prop:=fun h=>∃o ts,h.get? T=some o/\o.data=.fields ts/\ts[3]?=some fl
end VX
namespace VF
open PySem L2
abbrev AS:=Addr->Prop
theorem cx {α β γ:Type} {o:Option (α×β)} {f:α×β->Option γ} {z:γ} {P:Prop} (h:o.bind f=some z) (k:∀a b,o=some (a,b)->f (a,b)=some z->P):P:=by
 obtain⟨⟨a,b⟩,e,h⟩:=Yl.mp h;exact k a b e h
theorem bx {α γ:Type} {o:Option α} {f:α->Option γ} {z:γ} {P:Prop} (h:o.bind f=some z) (k:∀a,o=some a->f a=some z->P):P:=by
 obtain⟨a,e,h⟩:=Yl.mp h;exact k a e h
theorem aK {i:Decidable c} (h:(if c then x else none)=some z):c/\x=some z:=by simp_all
abbrev U (O Z:AS):AS:=fun p=>O p∨Z p
abbrev ins (p:Addr) (O:AS):AS:=fun b=>b=p∨O b
inductive D where
 | non|bl (b:Bool)|int (i:Int)|str (x:Str)|tup (ds:List D)|lst (ds:List D)|fl (ds:List D)|ty (n:String)|dk (kvs:List (Key×D))|dt (kvs:List (List Key×D))|xc (c n:Str) (x:Option Str)
def oV:Option Str->V
 | none=>.non
 | some x=>.str x
def Fd (Y:AS) (H:Hp) (dx:Option Addr) (n:Str) (v:V):Prop:=(n=""/\dx=none)∨∃d,dx=some d/\¬ Y d/\H d=some (.xd [(n,v)])
def XO (K:PySem.W.Frag) (Y:AS) (H:Hp) (a:Addr) (c n:Str) (x:Option Str):Prop:=∃C dx T,PySem.W.nsIn K mainGlobals c=some (some (.ref C))/\T≠a/\(¬ Y a/\¬ Y T)/\H a=some (.ext (VX.yφ C a dx T))/\Fd Y H dx n (oV x)/\H T=some (.ext (VX.tφ T .none))
theorem Fd.go (h:Fd Y H dx n v) (k:∀b o,H b=some o->¬ Y b->H' b=some o) (m:∀b,Y' b->Y b∨H b=none):Fd Y' H' dx n v:=by
 rcases h with h|⟨d,e,ny,h⟩
 ·exact .inl h
 ·refine .inr ⟨d,e,fun z=>?_,k _ _ h ny⟩;rcases m d z with w|w
  ·exact ny w
  ·rw[h]at w;cases w
theorem XO.go (h:XO K Y H a c n x) (k:∀b o,H b=some o->¬ Y b->H' b=some o) (m:∀b,Y' b->Y b∨H b=none):XO K Y' H' a c n x:=by
 obtain⟨C,dx,T,h1,h2,⟨q1,q3⟩,h4,h5,h6⟩:=h;refine⟨C,dx,T,h1,h2,⟨fun z=>?_,fun z=>?_⟩,k _ _ h4 q1,h5.go k m,k _ _ h6 q3⟩
 ·rcases m a z with w|w
  ·exact q1 w
  ·rw[h4]at w;cases w
 ·rcases m T z with w|w
  ·exact q3 w
  ·rw[h6]at w;cases w
def TupA (K:PySem.W.Frag) (Y:AS) (H:Hp) (a:Addr) (vs:List V):Prop:=H a=some (.tup vs)/\¬ Y a
def LstA (K:PySem.W.Frag) (Y:AS) (H:Hp) (a:Addr) (vs:List V):Prop:=(Rd H a (.lst vs)/\¬ Y a)∨∀H',hJ K H' a vs
theorem TupA.sq (h:TupA K Y H a vs):kJ K H a vs:=.inl (.inl h.1)
theorem LstA.sq (h:LstA K Y H a vs):hJ K H a vs:=by
 rcases h with h|h
 ·exact .inl h.1
 ·exact h H
def KA (Y:AS) (H:Hp) (as:List Addr):Prop:=∀b∈as,¬ Y b/\H b≠none
theorem KA.go (h:KA Y H as) (k:∀b o,H b=some o->¬ Y b->H' b=some o) (n:∀b,Y' b->Y b∨H b=none):KA Y' H' as:=fun b hb=>by
 obtain⟨h1,h2⟩:=h b hb;refine⟨fun z=>(n b z).elim h1 h2,?_⟩;cases e:H b with
 | none=>exact absurd e h2
 | some o=>rw[k b o e h1];simp
theorem KA.less (h:KA Y H as) (n:∀b,Y' b->Y b):KA Y' H as:=fun b hb=>⟨fun z=>(h b hb).1 (n b z),(h b hb).2⟩
inductive DA (K:PySem.W.Frag) (Y:AS) (H:Hp):V->D->Prop where
 | non:DA K Y H .non .non
 | bl (b:Bool):DA K Y H (.bl b) (.bl b)
 | int (i:Int):DA K Y H (.int i) (.int i)
 | str (x:Str):DA K Y H (.str x) (.str x)
 | tup {a:Addr} {vs:List V} {ds:List D}:TupA K Y H a vs->vs.length=ds.length->(∀(i:Nat) v d,vs[i]?=some v->ds[i]?=some d->DA K Y H v d)->DA K Y H (.ref a) (.tup ds)
 | ty (n:String):DA K Y H (.ty n) (.ty n)
 | lst {a:Addr} {vs:List V} {ds:List D}:¬ Y a->H a=some (.lst vs)->vs.length=ds.length->(∀(i:Nat) v d,vs[i]?=some v->ds[i]?=some d->DA K Y H v d)->DA K Y H (.ref a) (.lst ds)
 | fl {a:Addr} {vs:List V} {ds:List D}:LstA K Y H a vs->vs.length=ds.length->(∀(i:Nat) v d,vs[i]?=some v->ds[i]?=some d->DA K Y H v d)->DA K Y H (.ref a) (.fl ds)
 | dk {a:Addr} {kvs:List (Key×V)} {ds:List (Key×D)}:¬ Y a->H a=some (.dK kvs)->kvs.map (·.1)=ds.map (·.1)->(∀(i:Nat) v d,kvs[i]?=some v->ds[i]?=some d->DA K Y H v.2 d.2)->DA K Y H (.ref a) (.dk ds)
 | dt {a:Addr} {ep:Nat×List Addr} {kvs:List (List Key×V)} {ds:List (List Key×D)}:¬ Y a->KA Y H ep.2->H a=some (.dT ep kvs)->kvs.map (·.1)=ds.map (·.1)->(∀(i:Nat) v d,kvs[i]?=some v->ds[i]?=some d->DA K Y H v.2 d.2)->DA K Y H (.ref a) (.dt ds)
 | xc {a:Addr} {c n:Str} {x:Option Str}:XO K Y H a c n x->DA K Y H (.ref a) (.xc c n x)
def El (K:PySem.W.Frag) (Y:AS) (H:Hp) (vs:List V) (ds:List D):Prop:=vs.length=ds.length/\∀(i:Nat) v d,vs[i]?=some v->ds[i]?=some d->DA K Y H v d
def Lv (H:Hp) (p:Addr):Prop:=H p≠none/\∀vs,H p≠some (.tup vs)
theorem Lv.same (h:Lv H p) (s:∀o,H p=some o->H' p=some o):Lv H' p:=by
 cases e:H p with
 | none=>exact absurd e h.1
 | some o =>
  refine⟨by rw[s o e];simp,fun vs z=>h.2 vs ?_⟩
  rw[s o e]at z;rw[e];exact z
structure Ext (O:AS) (H:Hp) (O':AS) (H':Hp):Prop where
 kp:∀b o,H b=some o->¬ O b->H' b=some o
 nw:∀b,O' b->O b∨H b=none
 al:∀b,H b≠none->H' b≠none
 lv:∀b,Lv H b->Lv H' b
section
variable {K:PySem.W.Frag} {Y Y' O O' O1 O2 Z:AS} {H H' H1 H2:Hp} {v:V} {d:D} {vs:List V} {ds:List D} {a p:Addr}
theorem Ext.refl (O:AS) (H:Hp):Ext O H O H:=⟨fun _ _ h _=>h,fun _ h=>.inl h,fun _ h=>h,fun _ h=>h⟩
theorem Ext.trans (a:Ext O H O1 H1) (b:Ext O1 H1 O2 H2):Ext O H O2 H2:=by
 refine⟨fun c o h n=>b.kp c o (a.kp c o h n) fun z=>?_,fun c h=>?_,fun c h=>b.al c (a.al c h),fun c h=>b.lv c (a.lv c h)⟩
 ·rcases a.nw c z with q|q
  ·exact n q
  ·rw[h]at q;cases q
 ·rcases b.nw c h with q|q
  ·exact a.nw c q
  ·right;cases e:H c with
   | none=>rfl
   | some o=>exact absurd q (a.al c (by rw[e];simp))
theorem Same.ext (h:Same H H'):Ext O H O H':=⟨fun b o e _=>h b o e,fun _ z=>.inl z,fun b z=>by
 cases e:H b with
 | none=>exact absurd e z
 | some o=>rw[h b o e];simp,fun b z=>z.same fun o e=>h b o e⟩
theorem Rd.keep (r:Rd H a u) (k:∀o,H a=some o->H' a=some o):Rd H' a u:=by
 rcases r with r|⟨o,r⟩
 ·exact .inl (k _ r)
 ·exact .inr ⟨o,k _ r⟩
theorem Rd.live (r:Rd H a u):H a≠none:=by
 rcases r with r|⟨o,r⟩<;>(rw[r];simp)
theorem TupA.go (h:TupA K Y H a vs) (k:∀b o,H b=some o->¬ Y b->H' b=some o) (n:∀b,Y' b->Y b∨H b=none):TupA K Y' H' a vs:=by grind [TupA]
theorem LstA.go (h:LstA K Y H a vs) (k:∀b o,H b=some o->¬ Y b->H' b=some o) (n:∀b,Y' b->Y b∨H b=none):LstA K Y' H' a vs:=by
 rcases h with⟨h1,h2⟩|h
 ·refine .inl ⟨Rd.keep h1 fun o e=>k a o e h2,fun z=>?_⟩;rcases n a z with q|q
  ·exact h2 q
  ·exact Rd.live h1 q
 ·exact .inr h
theorem DA.go (h:DA K Y H v d) (k:∀b o,H b=some o->¬ Y b->H' b=some o) (n:∀b,Y' b->Y b∨H b=none):DA K Y' H' v d:=by
 have no:∀a u,H a=some u->¬ Y a->¬ Y' a:=fun a u e ny z=>by
  rcases n a z with q|q
  ·exact ny q
  ·rw[e]at q;cases q
 induction h with
 | non=>exact .non
 | bl b=>exact .bl b
 | int i=>exact .int i
 | str x=>exact .str x
 | tup h1 h2 _ ih=>exact .tup (h1.go k n) h2 ih
 | ty n=>exact .ty n
 | lst h0 h1 h2 _ ih=>exact .lst (no _ _ h1 h0) (k _ _ h1 h0) h2 ih
 | fl h1 h2 _ ih=>exact .fl (h1.go k n) h2 ih
 | dk h0 h1 h2 _ ih=>exact .dk (no _ _ h1 h0) (k _ _ h1 h0) h2 ih
 | dt h0 ka h1 h2 _ ih=>exact .dt (no _ _ h1 h0) (ka.go k n) (k _ _ h1 h0) h2 ih
 | xc h=>exact .xc (h.go k n)
theorem DA.ext (h:DA K (U O Z) H v d) (e:Ext O H O' H'):DA K (U O' Z) H' v d :=
 h.go (fun b o q n=>e.kp b o q fun z=>n (.inl z)) fun b z=>z.elim (fun q=>(e.nw b q).elim (fun x=>.inl (.inl x)) .inr) fun q=>.inl (.inr q)
theorem DA.less (h:DA K Y H v d) (n:∀b,Y' b->Y b):DA K Y' H v d:=h.go (fun _ _ e _=>e) fun b z=>.inl (n b z)
theorem DA.same (h:DA K Y H v d) (s:Same H H'):DA K Y H' v d:=h.go (fun b o e _=>s b o e) fun _ z=>.inl z
theorem DA.away (h:DA K Y H v d) (s:Same H H') (hp:H p=none):DA K (ins p Y) H' v d:=h.go (fun b o e _=>s b o e) fun b z=>z.elim (fun q=>.inr (q ▸ hp)) .inl
theorem El.go (h:El K Y H vs ds) (k:∀b o,H b=some o->¬ Y b->H' b=some o) (n:∀b,Y' b->Y b∨H b=none):El K Y' H' vs ds:=⟨h.1,fun i v d a b=>(h.2 i v d a b).go k n⟩
theorem El.ext (h:El K (U O Z) H vs ds) (e:Ext O H O' H'):El K (U O' Z) H' vs ds:=⟨h.1,fun i v d a b=>(h.2 i v d a b).ext e⟩
theorem El.less (h:El K Y H vs ds) (n:∀b,Y' b->Y b):El K Y' H vs ds:=⟨h.1,fun i v d a b=>(h.2 i v d a b).less n⟩
theorem El.same (h:El K Y H vs ds) (s:Same H H'):El K Y H' vs ds:=⟨h.1,fun i v d a b=>(h.2 i v d a b).same s⟩
theorem El.away (h:El K Y H vs ds) (s:Same H H') (hp:H p=none):El K (ins p Y) H' vs ds:=⟨h.1,fun i v d a b=>(h.2 i v d a b).away s hp⟩
theorem El.nil:El K Y H [] []:=⟨rfl,fun i v d h=>by simp at h⟩
theorem El.cons (h:DA K Y H v d) (r:El K Y H vs ds):El K Y H (v::vs) (d::ds):=by grind [El]
theorem El.uncons (h:El K Y H vs (d::ds)):∃v r,vs=v::r/\DA K Y H v d/\El K Y H r ds:=by
 cases vs with
 | nil=>have:=h.1;simp at this
 | cons v r =>
  refine⟨v,r,rfl,h.2 0 v d rfl rfl,?_,fun i v' d' h1 h2=>h.2 (i+1) v' d' (by simpa using h1) (by simpa using h2)⟩
  have:=h.1;simpa using this
theorem El.unnil (h:El K Y H vs []):vs=[]:=by
 have:=h.1;simpa using this
theorem El.app (h:El K Y H vs ds) (r:El K Y H ws es):El K Y H (vs++ws) (ds++es):=by grind [El]
theorem El.at (h:El K Y H vs ds) {i:Nat} {d:D} (e:ds[i]?=some d):∃v,vs[i]?=some v/\DA K Y H v d:=by
 have hi:i<ds.length:=(Yd.mp e).1;have hv:i<vs.length:=by rw[h.1];exact hi
 exact⟨vs[i],Zc hv,h.2 i _ d (Zc hv) e⟩
theorem El.one (h:DA K Y H v d):El K Y H [v] [d]:=El.cons h El.nil
theorem El.take (h:El K Y H vs ds) (n:Nat):El K Y H (vs.take n) (ds.take n):=by grind [El]
theorem El.drop (h:El K Y H vs ds) (n:Nat):El K Y H (vs.drop n) (ds.drop n):=by
 refine⟨by simp[h.1],fun i v d h1 h2=>?_⟩
 rw[Qe]at h1 h2;exact h.2 _ v d h1 h2
theorem El.set (h:El K Y H vs ds) (hv:DA K Y H v d) (j:Nat):El K Y H (vs.set j v) (ds.set j d):=by grind [El]
theorem El.erase (h:El K Y H vs ds) (j:Nat):El K Y H (vs.eraseIdx j) (ds.eraseIdx j):=by grind [El]
def OA (K:PySem.W.Frag) (Y:AS) (H:Hp) (p:Addr):D->Prop
 | .lst ds=>∃vs,H p=some (.lst vs)/\El K Y H vs ds
 | .dk ds=>∃kvs,H p=some (.dK kvs)/\kvs.map (·.1)=ds.map (·.1)/\∀(i:Nat) v d,kvs[i]?=some v->ds[i]?=some d->DA K Y H v.2 d.2
 | .dt ds=>∃ep kvs,KA Y H ep.2/\H p=some (.dT ep kvs)/\kvs.map (·.1)=ds.map (·.1)/\∀(i:Nat) v d,kvs[i]?=some v->ds[i]?=some d->DA K Y H v.2 d.2
 | _=>False
theorem OA.live (h:OA K Y H p d):H p≠none:=by
 cases d with
 | lst ds=>obtain⟨vs,e,_⟩:=h;rw[e];simp
 | dk ds=>obtain⟨vs,e,_⟩:=h;rw[e];simp
 | dt ds=>obtain⟨_,vs,_,e,_⟩:=h;rw[e];simp
 | _=>exact h.elim
theorem OA.lv (h:OA K Y H p d):Lv H p:=by
 cases d with
 | lst ds=>obtain⟨vs,e,_⟩:=h;exact⟨by rw[e];simp,fun _ z=>by rw[e]at z;cases z⟩
 | dk ds=>obtain⟨vs,e,_⟩:=h;exact⟨by rw[e];simp,fun _ z=>by rw[e]at z;cases z⟩
 | dt ds=>obtain⟨_,vs,_,e,_⟩:=h;exact⟨by rw[e];simp,fun _ z=>by rw[e]at z;cases z⟩
 | _=>exact h.elim
theorem OA.go (h:OA K Y H p d) (hp:H' p=H p) (k:∀b o,H b=some o->¬ Y b->H' b=some o) (n:∀b,Y' b->Y b∨H b=none):OA K Y' H' p d:=by
 cases d with
 | lst ds=>obtain⟨vs,e,q⟩:=h;exact⟨vs,hp.trans e,q.go k n⟩
 | dk ds=>obtain⟨vs,e,q1,q2⟩:=h;exact⟨vs,hp.trans e,q1,fun i v d a b=>(q2 i v d a b).go k n⟩
 | dt ds=>obtain⟨ep,vs,ka,e,q1,q2⟩:=h;exact⟨ep,vs,ka.go k n,hp.trans e,q1,fun i v d a b=>(q2 i v d a b).go k n⟩
 | _=>exact h.elim
theorem OA.da (h:OA K Y H p d) (hp:¬ Y' p) (n:∀b,Y' b->Y b):DA K Y' H (.ref p) d:=by
 cases d with
 | lst ds=>obtain⟨vs,e,q⟩:=h;exact .lst hp e q.1 (q.less n).2
 | dk ds=>obtain⟨vs,e,q1,q2⟩:=h;exact .dk hp e q1 fun i v d a b=>(q2 i v d a b).less n
 | dt ds=>obtain⟨ep,vs,ka,e,q1,q2⟩:=h;exact .dt hp (ka.less n) e q1 fun i v d a b=>(q2 i v d a b).less n
 | _=>exact h.elim
def BA (K:PySem.W.Frag) (Y:AS) (H:Hp) (v:V):D->Prop
 | .non=>v=.non
 | .bl b=>v=.bl b
 | .int i=>v=.int i
 | .str x=>v=.str x
 | .tup ds=>∃a vs,v=.ref a/\TupA K Y H a vs/\El K Y H vs ds
 | .ty n=>v=.ty n
 | .lst ds=>∃a vs,v=.ref a/\H a=some (.lst vs)/\El K Y H vs ds
 | .fl ds=>∃a vs,v=.ref a/\LstA K Y H a vs/\El K Y H vs ds
 | .dk ds=>∃a kvs,v=.ref a/\H a=some (.dK kvs)/\kvs.map (·.1)=ds.map (·.1)/\∀(i:Nat) v d,kvs[i]?=some v->ds[i]?=some d->DA K Y H v.2 d.2
 | .dt ds=>∃a ep kvs,v=.ref a/\KA Y H ep.2/\H a=some (.dT ep kvs)/\kvs.map (·.1)=ds.map (·.1)/\∀(i:Nat) v d,kvs[i]?=some v->ds[i]?=some d->DA K Y H v.2 d.2
 | .xc c n x=>∃a,v=.ref a/\XO K Y H a c n x
theorem DA.ba (h:DA K Y H v d):BA K Y H v d:=by
 cases h with
 | non=>rfl
 | bl b=>rfl
 | int i=>rfl
 | str x=>rfl
 | tup h1 h2 h3=>exact⟨_,_,rfl,h1,h2,h3⟩
 | ty n=>rfl
 | lst h0 h1 h2 h3=>exact⟨_,_,rfl,h1,h2,h3⟩
 | fl h1 h2 h3=>exact⟨_,_,rfl,h1,h2,h3⟩
 | dk h0 h1 h2 h3=>exact⟨_,_,rfl,h1,h2,h3⟩
 | dt h0 ka h1 h2 h3=>exact⟨_,_,_,rfl,ka,h1,h2,h3⟩
 | xc h=>exact⟨_,rfl,h⟩
theorem OA.ba (h:OA K Y H p d):BA K Y H (.ref p) d:=by
 cases d with
 | lst ds=>obtain⟨vs,e,q⟩:=h;exact⟨p,vs,rfl,e,q⟩
 | dk ds=>obtain⟨vs,e,q1,q2⟩:=h;exact⟨p,vs,rfl,e,q1,q2⟩
 | dt ds=>obtain⟨ep,vs,ka,e,q1,q2⟩:=h;exact⟨p,ep,vs,rfl,ka,e,q1,q2⟩
 | _=>exact h.elim
end
end VF
namespace VF
open PySem L2
inductive Sl where
 | e|v (d:D)|o (d:D)|io (d:D)
abbrev En:=List Sl
def Sl.get:Sl->Option D
 | .e=>none
 | .v d=>some d
 | .o d=>some d
 | .io d=>some d
def Sl.ow:Sl->Option D
 | .o d=>some d
 | .io d=>some d
 | _=>none
def Sl.put (y:D):Sl->Sl
 | .io _=>.io y
 | _=>.o y
theorem Sl.put_ow (y:D) (s:Sl):(s.put y).ow=some y:=by cases s<;>rfl
theorem Sl.put_v (y z:D) (s:Sl):s.put y≠.v z:=by cases s<;>(intro e;cases e)
inductive Rs where
 | d (x:D)|f (x:D)|s (i:Nat)
structure ER (K:PySem.W.Frag) (st:En) (σ:St) (H:Hp) (O Z:AS):Prop where
 len:st.length=σ.length
 val:∀(i:Nat) d,st[i]?=some (.v d)->∃v,σ[i]?=some (some v)/\DA K (U O Z) H v d
 own:∀(i:Nat) s d,st[i]?=some s->s.ow=some d->∃p,σ[i]?=some (some (.ref p))/\O p/\OA K (U O Z) H p d
 uni:∀(i j:Nat) s t d d' p,st[i]?=some s->s.ow=some d->st[j]?=some t->t.ow=some d'->σ[i]?=some (some (.ref p))->σ[j]?=some (some (.ref p))->i=j
 dis:∀p,O p->¬ Z p
 liv:∀p,U O Z p->Lv H p
structure Kp (st st':En):Prop where
 len:st'.length=st.length
 has:∀(i:Nat) s,st[i]?=some s->s.get≠none->∃s',st'[i]?=some s'/\s'.get≠none
 io:∀(i:Nat) d,st[i]?=some (.io d)->∃d',st'[i]?=some (.io d')
theorem Kp.refl (st:En):Kp st st:=⟨rfl,fun i s h g=>⟨s,h,g⟩,fun i d h=>⟨d,h⟩⟩
theorem Kp.trans (x:Kp a b) (y:Kp b c):Kp a c:=by
 refine⟨y.len.trans x.len,fun i s h g=>?_,fun i d h=>?_⟩
 ·obtain⟨s',h',g'⟩:=x.has i s h g;exact y.has i s' h' g'
 ·obtain⟨d',h'⟩:=x.io i d h;exact y.io i d' h'
def RVal (K:PySem.W.Frag) (Z:AS) (st:En) (σ:St) (H:Hp) (O:AS) (v:V):Rs->Prop
 | .d x=>DA K (U O Z) H v x
 | .f x=>∃p,v=.ref p/\¬ O p/\¬ Z p/\OA K (ins p (U O Z)) H p x/\ER K st σ H (ins p O) Z
 | .s i=>σ[i]?=some (some v)/\∃s,st[i]?=some s/\s.get≠none
def cont (st:En):Rs->Option D
 | .d x=>some x
 | .f x=>some x
 | .s i=>(st[i]?).bind Sl.get
def Rs.nf:Rs->Rs
 | .f x=>.d x
 | r=>r
section
variable {K:PySem.W.Frag} {Y Y' O O' O1 O2 Z:AS} {H H' H1 H2:Hp} {v:V} {d:D} {vs:List V} {ds:List D} {a p:Addr} {st st' st1 st2:En} {σ σ':St}
theorem fX (st:En) (r:Rs):cont st r.nf=cont st r:=by cases r<;>rfl
theorem RVal.nf {r:Rs} (h:RVal K Z st σ H O v r):RVal K Z st σ H O v r.nf:=by
 cases r with
 | d x=>exact h
 | s i=>exact h
 | f x =>
  obtain⟨p,rfl,h1,h2,h3,_⟩:=h;exact h3.da (fun z=>z.elim h1 h2) fun b z=>.inr z
theorem RVal.ba (h:RVal K Z st σ H O v r) (E:ER K st σ H O Z) (c:cont st r=some d):BA K (U O Z) H v d:=by
 cases r with
 | d x=>cases c;exact DA.ba h
 | f x =>
  cases c;have:=RVal.nf h;exact DA.ba (show DA K (U O Z) H v _ from this)
 | s i =>
  obtain⟨h1,s,h2,h3⟩:=h;have c':(st[i]?).bind Sl.get=some d:=c;rw[h2]at c';cases s with
  | e=>cases c'
  | v x =>
   cases c';obtain⟨u,g1,g2⟩:=E.val i _ h2;rw[h1]at g1;cases g1;exact g2.ba
  | o x =>
   cases c';obtain⟨p,g1,g2,g3⟩:=E.own i _ _ h2 rfl;rw[h1]at g1;cases g1;exact g3.ba
  | io x =>
   cases c';obtain⟨p,g1,g2,g3⟩:=E.own i _ _ h2 rfl;rw[h1]at g1;cases g1;exact g3.ba
theorem RVal.ext {r:Rs} (h:RVal K Z st σ H O v r.nf) (e:Ext O H O' H') (k:Kp st st'):RVal K Z st' σ H' O' v r.nf:=by
 cases r with
 | d x=>exact DA.ext (show DA K (U O Z) H v x from h) e
 | f x=>exact DA.ext (show DA K (U O Z) H v x from h) e
 | s i =>
  obtain⟨h1,s,h2,h3⟩:=h;exact⟨h1,k.has i s h2 h3⟩
theorem ER.same (E:ER K st σ H O Z) (s:Same H H'):ER K st σ H' O Z:=by
 refine⟨E.len,fun i d h=>?_,fun i s' d h1 h2=>?_,E.uni,E.dis,fun p hp=>?_⟩
 ·obtain⟨v,h1,h2⟩:=E.val i d h;exact⟨v,h1,h2.same s⟩
 ·obtain⟨p,g1,g2,g3⟩:=E.own i s' d h1 h2;refine⟨p,g1,g2,g3.go ?_ (fun b o e _=>s b o e) fun b z=>.inl z⟩;cases e:H p with
  | none=>exact absurd e g3.live
  | some o=>exact s p o e
 ·exact(E.liv p hp).same fun o e=>s p o e
theorem ER.away (E:ER K st σ H O Z) (s:Same H H') (hp:H p=none) (hp':Lv H' p):ER K st σ H' (ins p O) Z:=by
 have sub:∀b,U (ins p O) Z b->ins p (U O Z) b:=fun b z=>by
  rcases z with(z|z)|z
  ·exact .inl z
  ·exact .inr (.inl z)
  ·exact .inr (.inr z)
 refine⟨E.len,fun i d h=>?_,fun i s' d h1 h2=>?_,E.uni,fun q hq=>?_,fun q hq=>?_⟩
 ·obtain⟨v,h1,h2⟩:=E.val i d h;exact⟨v,h1,(h2.away s hp).less sub⟩
 ·obtain⟨q,g1,g2,g3⟩:=E.own i s' d h1 h2;refine⟨q,g1,.inr g2,g3.go ?_ (fun b o e _=>s b o e) fun b z=>?_⟩
  ·cases e:H q with
   | none=>exact absurd e g3.live
   | some o=>exact s q o e
  ·rcases sub b z with z|z
   ·exact .inr (z ▸ hp)
   ·exact .inl z
 ·rcases hq with rfl|hq
  ·exact fun z=>(E.liv _ (.inr z)).1 hp
  ·exact E.dis q hq
 ·rcases hq with(rfl|hq)|hq
  ·exact hp'
  ·exact(E.same s).liv q (.inl hq)
  ·exact(E.same s).liv q (.inr hq)
theorem ER.free (E:ER K st σ H O Z) (hp:H p=none):¬ O p/\¬ Z p:=⟨fun z=>(E.liv p (.inl z)).1 hp,fun z=>(E.liv p (.inr z)).1 hp⟩
theorem ER.new (E:ER K st σ H O Z) (hp:H p=none) (el:El K (U O Z) H vs ds):ER K st σ (upd H p (.lst vs)) O Z/\RVal K Z st σ (upd H p (.lst vs)) O (.ref p) (.f (.lst ds)):=by
 have s:=be hp (.lst vs);have hf:=E.free hp;refine⟨E.same s,p,rfl,hf.1,hf.2,⟨vs,aq,el.away s hp⟩,E.away s hp ⟨by rw[aq];simp,fun _ z=>by rw[aq]at z;cases z⟩⟩
theorem ER.newT (E:ER K st σ H O Z) (hp:H p=none) (el:El K (U O Z) H vs ds):ER K st σ (upd H p (.tup vs)) O Z/\RVal K Z st σ (upd H p (.tup vs)) O (.ref p) (.d (.tup ds)):=by
 have s:=be hp (.tup vs);have hf:=E.free hp;exact⟨E.same s,.tup ⟨aq,fun z=>z.elim hf.1 hf.2⟩ el.1 (el.same s).2⟩
def wr (st:En) (i:Nat):Option En:=match st[i]? with
 | some (.v _)=>some st
 | some (.o d)=>some (st.set i (.v d))
 | _=>none
def xS (st:En):Rs->Option En
 | .s i=>wr st i
 | _=>some st
theorem aw {l:List α} (h:i≠j):(l.set i x)[j]?=l[j]?:=by rw[Wm,Ag h]
theorem aU {l:List α} (h:l[i]?=some y):(l.set i x)[i]?=some x:=by
 have hi:=(Yd.mp h).1;rw[Wm,Ad rfl,Ad hi]
theorem B0 (h:wr st i=some st'):Kp st st'/\∃d,st'[i]?=some (.v d)/\(st[i]?).bind Sl.get=some d:=by
 unfold wr at h;split at h
 ·rename_i d e
  cases h;exact⟨Kp.refl st,d,e,by rw[e];rfl⟩
 ·rename_i d e
  cases h;refine⟨⟨by simp,fun j s hj g=>?_,fun j d' hj=>?_⟩,d,aU e,by rw[e];rfl⟩
  ·by_cases q:i=j
   ·subst q;exact⟨.v d,aU e,by simp[Sl.get]⟩
   ·exact⟨s,by rw[aw q];exact hj,g⟩
  ·have q:i≠j:=fun z=>by subst z;rw[e]at hj;cases hj
   exact⟨d',by rw[aw q];exact hj⟩
 ·cases h
theorem ER.frz (E:ER K st σ H O Z) (h:wr st i=some st'):∃O',Ext O H O' H/\ER K st' σ H O' Z/\(∀b,O' b->O b):=by
 unfold wr at h;split at h
 ·cases h;exact⟨O,Ext.refl O H,E,fun _ z=>z⟩
 ·rename_i d e
  cases h;obtain⟨p,g1,g2,g3⟩:=E.own i _ _ e rfl;have less:∀b,U (fun b=>O b/\b≠p) Z b->U O Z b:=fun b z=>z.elim (fun q=>.inl q.1) .inr;refine⟨fun b=>O b/\b≠p,⟨fun b o q _=>q,fun b z=>.inl z.1,fun b z=>z,fun b z=>z⟩,⟨by simp[E.len],fun j x hj=>?_,fun j s x hj hs=>?_,fun j k s t x y q hj hs hk ht e1 e2=>?_,fun q hq=>E.dis q hq.1,fun q hq=>E.liv q (less q hq)⟩,fun b z=>z.1⟩
  ·by_cases q:i=j
   ·subst q;rw[aU e]at hj;cases hj;exact⟨.ref p,g1,g3.da (fun z=>z.elim (fun y=>y.2 rfl) (E.dis p g2)) less⟩
   ·rw[aw q]at hj;obtain⟨v,h1,h2⟩:=E.val j x hj;exact⟨v,h1,h2.less less⟩
  ·have q:i≠j:=fun z=>by
    subst z;rw[aU e]at hj;cases hj;cases hs
   rw[aw q]at hj;obtain⟨r,h1,h2,h3⟩:=E.own j s x hj hs;refine⟨r,h1,⟨h2,fun z=>q ?_⟩,h3.go rfl (fun _ _ e _=>e) fun b z=>.inl (less b z)⟩;subst z;exact E.uni i j _ _ _ _ r e rfl hj hs g1 h1
  ·have q1:i≠j:=fun z=>by
    subst z;rw[aU e]at hj;cases hj;cases hs
   have q2:i≠k:=fun z=>by
    subst z;rw[aU e]at hk;cases hk;cases ht
   rw[aw q1]at hj;rw[aw q2]at hk;exact E.uni j k s t x y q hj hs hk ht e1 e2
 ·cases h
theorem RVal.frz (h:RVal K Z st σ H O v r) (E:ER K st σ H O Z) (f:xS st r=some st') (c:cont st r=some d):∃O',Ext O H O' H/\Kp st st'/\ER K st' σ H O' Z/\DA K (U O' Z) H v d:=by
 cases r with
 | d x=>cases f;cases c;exact⟨O,Ext.refl O H,Kp.refl st,E,h⟩
 | f x=>cases f;cases c;exact⟨O,Ext.refl O H,Kp.refl st,E,RVal.nf h⟩
 | s i =>
  obtain⟨h1,s,h2,h3⟩:=h;have f':wr st i=some st':=f;obtain⟨k,x,k1,k2⟩:=B0 f';obtain⟨O',e1,e2,_⟩:=E.frz f';have c':(st[i]?).bind Sl.get=some d:=c;have ex:x=d:=Option.some.inj (k2.symm.trans c');subst ex;obtain⟨u,g1,g2⟩:=e2.val i _ k1;rw[h1]at g1;cases g1;exact⟨O',e1,k,e2,g2⟩
theorem ER.write {s:Sl} (E:ER K st σ H O Z) (hs:st[i]?=some s) (ho:s.ow=some x) (hp:σ[i]?=some (some (.ref p))) (new:OA K (U O Z) (upd H p o) p y) :
  ER K (st.set i (s.put y)) σ (upd H p o) O Z/\Ext O H O (upd H p o)/\Kp st (st.set i (s.put y)):=by
 obtain⟨q,g1,g2,g3⟩:=E.own i s x hs ho;have eq:q=p:=by rw[hp]at g1;cases g1;rfl
 subst eq;have keep:∀b u,H b=some u->¬ U O Z b->upd H q o b=some u:=fun b u e n=>by
  have hb:b≠q:=fun z=>n (.inl (by rw[z];exact g2))
  rw[ag hb];exact e
 refine⟨⟨by simp[E.len],fun j d hj=>?_,fun j t d hj ht=>?_,fun j k t t' d d' r hj ht hk ht' e1 e2=>?_,E.dis,fun r hr=>?_⟩,⟨fun b u e n=>?_,fun b z=>.inl z,fun b z=>?_,fun b z=>?_⟩,⟨by simp,fun j t hj ht=>?_,fun j d hj=>?_⟩⟩
 ·by_cases e:i=j
  ·subst e;rw[aU hs]at hj;exact absurd (Option.some.inj hj) (Sl.put_v _ _ _)
  ·rw[aw e]at hj;obtain⟨v,h1,h2⟩:=E.val j d hj;exact⟨v,h1,h2.go keep fun b z=>.inl z⟩
 ·by_cases e:i=j
  ·subst e;rw[aU hs]at hj;have:=Option.some.inj hj;subst this;rw[Sl.put_ow]at ht;cases ht;exact⟨q,hp,g2,new⟩
  ·rw[aw e]at hj;obtain⟨r,h1,h2,h3⟩:=E.own j t d hj ht;have hne:r≠q:=fun z=>by subst z;exact e (E.uni i j s t x d r hs ho hj ht hp h1)
   exact⟨r,h1,h2,h3.go (ag hne) keep fun b z=>.inl z⟩
 ·have own':∀(m:Nat) (t:Sl) (d:D),(st.set i (s.put y))[m]?=some t->t.ow=some d->∃t2 d2,st[m]?=some t2/\t2.ow=some d2:=fun m t d hm ht=>by
   by_cases e:i=m
   ·subst e;exact⟨s,x,hs,ho⟩
   ·rw[aw e]at hm;exact⟨t,d,hm,ht⟩
  obtain⟨t1,d1,a1,b1⟩:=own' j t d hj ht;obtain⟨t2,d2,a2,b2⟩:=own' k t' d' hk ht';exact E.uni j k t1 t2 d1 d2 r a1 b1 a2 b2 e1 e2
 ·by_cases e:r=q
  ·subst e;exact new.lv
  ·exact(E.liv r hr).same fun o' eo=>by rw[ag e];exact eo
 ·have hb:b≠q:=fun z=>n (by rw[z];exact g2)
  rw[ag hb];exact e
 ·by_cases e:b=q
  ·subst e;rw[aq];simp
  ·rw[ag e];exact z
 ·by_cases e:b=q
  ·subst e;exact new.lv
  ·exact z.same fun o' eo=>by rw[ag e];exact eo
 ·by_cases e:i=j
  ·subst e;exact⟨s.put y,aU hs,by cases s<;>simp[Sl.put,Sl.get]⟩
  ·exact⟨t,by rw[aw e];exact hj,ht⟩
 ·by_cases e:i=j
  ·subst e;rw[hs]at hj;cases hj;exact⟨y,aU hs⟩
  ·exact⟨d,by rw[aw e];exact hj⟩
end
end VF
namespace VF
open PySem L2
abbrev FE:=En->Option (Rs×En)
abbrev FA:=En->Option (List Rs×En)
abbrev FT:=En->Option (Bool×En)
abbrev Rz:=D×Bool
def mk:Rz->Rs
 | (d,true)=>.f d
 | (d,false)=>.d d
def RES (K:PySem.W.Frag) (Y:AS) (H H':Hp) (v:V):Rz->Prop
 | (d,true)=>∃p,v=.ref p/\H p=none/\OA K (ins p Y) H' p d
 | (d,false)=>DA K Y H' v d
def Fsh (H:Hp) (v:V):Rs->Prop
 | .f _=>∀p,v=.ref p->H p=none
 | _=>True
theorem Ext.dead (e:Ext O H O' H') (h:H' p=none):H p=none:=by
 cases q:H p with
 | none=>rfl
 | some o=>exact absurd h (e.al p (by rw[q];simp))
theorem Fsh.back (h:Fsh H' v r) (e:Ext O H O' H'):Fsh H v r:=by
 cases r with
 | f x=>exact fun p hp=>e.dead (h p hp)
 | d x=>trivial
 | s i=>trivial
def cT (K:PySem.W.Frag) (te:TE) (f:FE):Prop:=∀(st:En) (σ:St) (H:Hp) (O Z:AS) (Q:VK),ER K st σ H O Z->∀r st',f st=some (r,st') ->
 (∀v H' O',Ext O H O' H'->Kp st st'->ER K st' σ H' O' Z->RVal K Z st' σ H' O' v r->Fsh H v r->Q v H')->te σ H Q
inductive RVs (K:PySem.W.Frag) (Z:AS) (st:En) (σ:St) (H:Hp) (O:AS):List V->List Rs->Prop where
 | nil:RVs K Z st σ H O [] []
 | cons {v:V} {vs:List V} {r:Rs} {rs:List Rs}:RVal K Z st σ H O v r.nf->RVs K Z st σ H O vs rs->RVs K Z st σ H O (v::vs) (r::rs)
def oq (K:PySem.W.Frag) (ta:TA) (f:FA):Prop:=∀(st:En) (σ:St) (H:Hp) (O Z:AS) (Q:List V->Hp->Prop),ER K st σ H O Z->∀rs st',f st=some (rs,st') ->
 (∀vs H' O',Ext O H O' H'->Kp st st'->ER K st' σ H' O' Z->RVs K Z st' σ H' O' vs rs->Q vs H')->ta σ H Q
def oU (K:PySem.W.Frag) (tt:TT) (f:FT):Prop:=∀(st:En) (σ:St) (H:Hp) (O Z:AS) (Q:Bool->Hp->Prop),ER K st σ H O Z->∀c st',f st=some (c,st') ->
 (∀H' O',Ext O H O' H'->Kp st st'->ER K st' σ H' O' Z->Q c H')->tt σ H Q
def RdOp (K:PySem.W.Frag) (r:R2) (b:D->D->Option Rz):Prop:=∀(Y:AS) (H:Hp) (x y:V) (d1 d2:D) (z:Rz) (Q:VK),(∀p,Y p->Lv H p)->BA K Y H x d1->BA K Y H y d2->b d1 d2=some z ->
 (∀v H',Same H H'->RES K Y H H' v z->Q v H')->r x y H Q
def Hu (K:PySem.W.Frag) (r:V->Hp->VK->Prop) (b:D->Option Rz):Prop:=∀(Y:AS) (H:Hp) (x:V) (d1:D) (z:Rz) (Q:VK),(∀p,Y p->Lv H p)->BA K Y H x d1->b d1=some z ->
 (∀v H',Same H H'->RES K Y H H' v z->Q v H')->r x H Q
inductive BAs (K:PySem.W.Frag) (Y:AS) (H:Hp):List V->List D->Prop where
 | nil:BAs K Y H [] []
 | cons {v:V} {vs:List V} {d:D} {ds:List D}:BA K Y H v d->BAs K Y H vs ds->BAs K Y H (v::vs) (d::ds)
def RdCB (K:PySem.W.Frag) (r:List V->Hp->VK->Prop) (b:List D->Option Rz):Prop:=∀(Y:AS) (H:Hp) (xs:List V) (ds:List D) (z:Rz) (Q:VK),(∀p,Y p->Lv H p)->BAs K Y H xs ds->b ds=some z ->
 (∀v H',Same H H'->RES K Y H H' v z->Q v H')->r xs H Q
section
variable {K:PySem.W.Frag} {Y Y' O O' O1 O2 Z:AS} {H H' H1 H2:Hp} {v:V} {d:D} {vs:List V} {ds:List D} {a p:Addr} {st st' st1 st2:En} {σ σ':St}
theorem RES.rv (E:ER K st σ H O Z) (s:Same H H') (h:RES K (U O Z) H H' v z):ER K st σ H' O Z/\RVal K Z st σ H' O v (mk z):=by
 obtain⟨d,fr⟩:=z;cases fr with
 | false=>exact⟨E.same s,h⟩
 | true =>
  obtain⟨p,rfl,hp,ho⟩:=h;have hf:=E.free hp;exact⟨E.same s,p,rfl,hf.1,hf.2,ho,E.away s hp ho.lv⟩
theorem RES.fsh (h:RES K Y H H' v z):Fsh H v (mk z):=by
 obtain⟨d,fr⟩:=z;cases fr with
 | false=>trivial
 | true=>obtain⟨p,rfl,hp,_⟩:=h;exact fun q e=>by cases e;exact hp
theorem RVs.ext (h:RVs K Z st σ H O vs rs) (e:Ext O H O' H') (k:Kp st st'):RVs K Z st' σ H' O' vs rs:=by
 induction h with
 | nil=>exact .nil
 | cons h1 _ ih=>exact .cons (h1.ext e k) ih
def di (st:En):List Rs->Option (List D)
 | []=>some []
 | r::rs=>(cont st r).bind fun d=>(di st rs).bind fun ds=>some (d::ds)
theorem RVs.bas (h:RVs K Z st σ H O vs rs) (E:ER K st σ H O Z):∀{ds:List D},di st rs=some ds->BAs K (U O Z) H vs ds:=by
 induction h with
 | nil=>intro ds e;cases e;exact .nil
 | @cons v vs r rs h1 _ ih =>
  intro ds e;refine bx e fun d e1 e=>?_;refine bx e fun ds' e2 e=>?_;cases e;exact .cons (h1.ba E (by rw[fX];exact e1)) (ih e2)
def bK:List Rs->En->Option (List D×En)
 | [],st=>some ([],st)
 | r::rs,st=>(cont st r).bind fun d=>(xS st r).bind fun st1=>(bK rs st1).bind fun x=>some (d::x.1,x.2)
theorem B1 (st:En) (r:Rs):xS st r.nf=xS st r:=by cases r<;>rfl
theorem RVs.esc:∀{rs:List Rs} {vs:List V} {st:En} {O:AS} {ds:List D} {st':En},RVs K Z st σ H O vs rs->ER K st σ H O Z->bK rs st=some (ds,st')->∃O',Ext O H O' H/\Kp st st'/\ER K st' σ H O' Z/\El K (U O' Z) H vs ds
 | [],_,st,O,ds,st',.nil,E,e=>by cases e;exact⟨O,Ext.refl O H,Kp.refl _,E,El.nil⟩
 | r::rs,_,st,O,ds,st',.cons h1 h2,E,e=>by
  refine bx e fun d e1 e=>?_;refine bx e fun st1 e2 e=>?_;refine cx e fun ds2 st2 e3 e=>?_;cases e;obtain⟨O1,x1,k1,E1,da⟩:=h1.frz E (by rw[B1];exact e2) (by rw[fX];exact e1)
  obtain⟨O2,x2,k2,E2,el⟩:=RVs.esc (h2.ext x1 k1) E1 e3;exact⟨O2,x1.trans x2,k1.trans k2,E2,El.cons (da.ext x2) el⟩
def aJ (i:Nat):FE:=fun st=>match st[i]? with
 | some (.v d)=>some (.d d,st)
 | some (.o _)=>some (.s i,st)
 | some (.io _)=>some (.s i,st)
 | _=>none
theorem ac (i:Nat):cT K (mV i) (aJ i):=by
 intro st σ H O Z Q E r st' h q;unfold aJ at h;split at h
 ·rename_i d e
  cases h;obtain⟨v,h1,h2⟩:=E.val i d e;exact⟨v,h1,q v H O (Ext.refl O H) (Kp.refl _) E h2 True.intro⟩
 ·rename_i d e
  cases h;obtain⟨p,h1,h2,h3⟩:=E.own i _ _ e rfl;exact⟨.ref p,h1,q _ H O (Ext.refl O H) (Kp.refl _) E ⟨h1,_,e,by simp[Sl.get]⟩ True.intro⟩
 ·rename_i d e
  cases h;obtain⟨p,h1,h2,h3⟩:=E.own i _ _ e rfl;exact⟨.ref p,h1,q _ H O (Ext.refl O H) (Kp.refl _) E ⟨h1,_,e,by simp[Sl.get]⟩ True.intro⟩
 ·cases h
def fC (d:D):FE:=fun st=>some (.d d,st)
theorem fS (h:∀Y H,DA K Y H v d):cT K (tC v) (fC d):=by
 intro st σ H O Z Q E r st' e q;cases e;exact q v H O (Ext.refl O H) (Kp.refl _) E (h _ _) True.intro
theorem ap (i:Int):cT K (tC (.int i)) (fC (.int i)):=fS fun _ _=>.int i
theorem aO (x:Str):cT K (tC (.str x)) (fC (.str x)):=fS fun _ _=>.str x
theorem jb (b:Bool):cT K (tC (.bl b)) (fC (.bl b)):=fS fun _ _=>.bl b
theorem xT:cT K (tC .non) (fC .non):=fS fun _ _=>.non
def aL (b:D->D->Option Rz) (fa fb:FE):FE:=fun st=>(fa st).bind fun x=>(fb x.2).bind fun y=>(cont y.2 x.1).bind fun d1=>(cont y.2 y.1).bind fun d2=>(b d1 d2).bind fun z=>some (mk z,y.2)
theorem ar (hr:RdOp K r b) (ha:cT K ta fa) (hb:cT K tb fb):cT K (w5 r ta tb) (aL b fa fb):=by
 intro st σ H O Z Q E r' st' h q;refine cx h fun r1 st1 e1 h=>?_;refine cx h fun r2 st2 e2 h=>?_;refine bx h fun d1 e3 h=>?_;refine bx h fun d2 e4 h=>?_;refine bx h fun z e5 h=>?_;cases h;refine ha st σ H O Z _ E r1 st1 e1 fun v1 H1 O1 x1 k1 E1 rv1 w1=>?_;refine hb st1 σ H1 O1 Z _ E1 r2 st2 e2 fun v2 H2 O2 x2 k2 E2 rv2 w2=>?_;have b1:=(rv1.nf.ext x2 k2).ba E2 (by rw[fX];exact e3)
 refine hr (U O2 Z) H2 v1 v2 d1 d2 z _ E2.liv b1 (rv2.ba E2 e4) e5 fun v H3 s hres=>?_;obtain⟨E3,rv3⟩:=hres.rv E2 s;exact q v H3 O2 ((x1.trans x2).trans (Same.ext s)) (k1.trans k2) E3 rv3 (hres.fsh.back (x1.trans x2))
def uR (b:D->Option Rz) (fa:FE):FE:=fun st=>(fa st).bind fun x=>(cont x.2 x.1).bind fun d1=>(b d1).bind fun z=>some (mk z,x.2)
theorem oW (hr:Hu K r b) (ha:cT K ta fa):cT K (JG r ta) (uR b fa):=by
 intro st σ H O Z Q E r' st' h q;refine cx h fun r1 st1 e1 h=>?_;refine bx h fun d1 e3 h=>?_;refine bx h fun z e5 h=>?_;cases h;refine ha st σ H O Z _ E r1 st1 e1 fun v1 H1 O1 x1 k1 E1 rv1 w1=>?_;refine hr (U O1 Z) H1 v1 d1 z _ E1.liv (rv1.ba E1 e3) e5 fun v H3 s hres=>?_;obtain⟨E3,rv3⟩:=hres.rv E1 s;exact q v H3 O1 (x1.trans (Same.ext s)) k1 E3 rv3 (hres.fsh.back x1)
def GZ (st:En) (r:Rs):Option Bool:=match cont st r with
 | some (.bl c)=>some c
 | _=>none
theorem DF (E:ER K st σ H O Z) (h:RVal K Z st σ H O v r) (t:GZ st r=some c):v=.bl c:=by
 unfold GZ at t;split at t
 ·rename_i b e
  cases t;exact h.ba E e
 ·cases t
def aE (fa:FE):FT:=fun st=>(fa st).bind fun x=>(GZ x.2 x.1).bind fun c=>some (c,x.2)
theorem aR (ha:cT K ta fa):oU K (uD ta) (aE fa):=by
 intro st σ H O Z Q E c st' h q;refine cx h fun r1 st1 e1 h=>?_;refine bx h fun c' e2 h=>?_;cases h;exact ha st σ H O Z _ E r1 st1 e1 fun v1 H1 O1 x1 k1 E1 rv1 w1=>⟨c,DF E1 rv1 e2,q H1 O1 x1 k1 E1⟩
theorem dg (ha:cT K ta fa):oU K (tB ta) (aE fa):=aR ha
def fY (f:FT):FT:=fun st=>(f st).bind fun x=>some (!x.1,x.2)
theorem dU (h:oU K t f):oU K (Hf t) (fY f):=by
 intro st σ H O Z Q E c st' e q;refine cx e fun c1 st1 e1 e=>?_;cases e;exact h st σ H O Z _ E c1 st1 e1 q
def hX (f g:FT):FT:=fun st=>(f st).bind fun x=>if x.1=true then g x.2 else some (false,x.2)
theorem iS (h:oU K t f) (h':oU K u g):oU K (He t u) (hX f g):=by
 intro st σ H O Z Q E c st' e q;refine cx e fun c1 st1 e1 e=>?_;refine h st σ H O Z _ E c1 st1 e1 fun H1 O1 x1 k1 E1=>?_;cases c1 with
 | true =>
  rw[Ad rfl]at e ⊢;exact h' st1 σ H1 O1 Z _ E1 c st' e fun H2 O2 x2 k2 E2=>q H2 O2 (x1.trans x2) (k1.trans k2) E2
 | false =>
  simp only[Ve,if_false]at e ⊢;cases e;exact q H1 O1 x1 k1 E1
def jU (f g:FT):FT:=fun st=>(f st).bind fun x=>if x.1=true then some (true,x.2) else g x.2
theorem jq (h:oU K t f) (h':oU K u g):oU K (JC t u) (jU f g):=by
 intro st σ H O Z Q E c st' e q;refine cx e fun c1 st1 e1 e=>?_;refine h st σ H O Z _ E c1 st1 e1 fun H1 O1 x1 k1 E1=>?_;cases c1 with
 | true =>
  rw[Ad rfl]at e ⊢;cases e;exact q H1 O1 x1 k1 E1
 | false =>
  simp only[Ve,if_false]at e ⊢;exact h' st1 σ H1 O1 Z _ E1 c st' e fun H2 O2 x2 k2 E2=>q H2 O2 (x1.trans x2) (k1.trans k2) E2
def fD:FT:=fun st=>some (true,st)
theorem kP:oU K Hs fD:=by
 intro st σ H O Z Q E c st' e q;cases e;exact q H O (Ext.refl O H) (Kp.refl _) E
def jV (fa fb:FE):FE:=fun st=>(fa st).bind fun x=>(GZ x.2 x.1).bind fun c=>if c=true then fb x.2 else some (.d (.bl false),x.2)
theorem iT (ha:cT K ta fa) (hb:cT K tb fb):cT K (Do ta tb) (jV fa fb):=by
 intro st σ H O Z Q E r st' h q;refine cx h fun r1 st1 e1 h=>?_;refine bx h fun c e2 h=>?_;refine ha st σ H O Z _ E r1 st1 e1 fun v1 H1 O1 x1 k1 E1 rv1 w1=>⟨c,DF E1 rv1 e2,?_⟩;cases c with
 | true =>
  rw[Ad rfl]at h ⊢;exact hb st1 σ H1 O1 Z _ E1 r st' h fun v H2 O2 x2 k2 E2 rv w2=>q v H2 O2 (x1.trans x2) (k1.trans k2) E2 rv (w2.back x1)
 | false =>
  rw[Ag (by decide)]at h ⊢
  cases h;exact q _ H1 O1 x1 k1 E1 (.bl false) True.intro
def G0 (f:FT) (fa fb:FE):FE:=fun st=>(f st).bind fun x=>if x.1=true then fa x.2 else fb x.2
theorem Hv (h:oU K t f) (ha:cT K ta fa) (hb:cT K tb fb):cT K (JD t ta tb) (G0 f fa fb):=by
 intro st σ H O Z Q E r st' e q;refine cx e fun c1 st1 e1 e=>?_;refine h st σ H O Z _ E c1 st1 e1 fun H1 O1 x1 k1 E1=>?_;cases c1 with
 | true =>
  rw[Ad rfl]at e ⊢;exact ha st1 σ H1 O1 Z _ E1 r st' e fun v H2 O2 x2 k2 E2 rv w2=>q v H2 O2 (x1.trans x2) (k1.trans k2) E2 rv (w2.back x1)
 | false =>
  simp only[Ve,if_false]at e ⊢;exact hb st1 σ H1 O1 Z _ E1 r st' e fun v H2 O2 x2 k2 E2 rv w2=>q v H2 O2 (x1.trans x2) (k1.trans k2) E2 rv (w2.back x1)
def p9 (b b':D->D->Option Rz) (fa fb fc:FE):FE:=fun st=>(fa st).bind fun x=>(fb x.2).bind fun y=>(cont y.2 x.1).bind fun d1=>(cont y.2 y.1).bind fun d2=>(b d1 d2).bind fun z=>match z with
 | (.bl true,false)=>(fc y.2).bind fun w=>(cont w.2 y.1).bind fun d2'=>(cont w.2 w.1).bind fun d3=>(b' d2' d3).bind fun z'=>some (mk z',w.2)
 | (.bl false,false)=>some (.d (.bl false),y.2)
 | _=>none
theorem xU (hr:RdOp K r b) (hr':RdOp K r' b') (ha:cT K ta fa) (hb:cT K tb fb) (hc:cT K tc fc):cT K (xA r r' ta tb tc) (p9 b b' fa fb fc):=by
 intro st σ H O Z Q E r0 st' h q;refine cx h fun r1 st1 e1 h=>?_;refine cx h fun r2 st2 e2 h=>?_;refine bx h fun d1 e3 h=>?_;refine bx h fun d2 e4 h=>?_;refine bx h fun z e5 h=>?_;refine ha st σ H O Z _ E r1 st1 e1 fun v1 H1 O1 x1 k1 E1 rv1 w1=>?_;refine hb st1 σ H1 O1 Z _ E1 r2 st2 e2 fun v2 H2 O2 x2 k2 E2 rv2 w2=>?_;have b1:=(rv1.nf.ext x2 k2).ba E2 (by rw[fX];exact e3)
 refine hr (U O2 Z) H2 v1 v2 d1 d2 z _ E2.liv b1 (rv2.ba E2 e4) e5 fun v H3 s hres=>?_;obtain⟨dz,fr⟩:=z;cases dz with
 | bl c =>
  cases fr with
  | true=>cases c<;>cases h
  | false =>
   have ev:v=.bl c:=DA.ba (show DA K (U O2 Z) H3 v (.bl c) from hres);refine⟨c,ev,?_⟩;have E3:=E2.same s;have x3:Ext O2 H2 O2 H3:=Same.ext s;cases c with
   | false =>
    rw[Ag (by decide)]
    cases h;exact q _ H3 O2 ((x1.trans x2).trans x3) (k1.trans k2) E3 (.bl false) True.intro
   | true =>
    rw[Ad rfl];refine cx h fun r3 st3 g1 h=>?_;refine bx h fun d2' g2 h=>?_;refine bx h fun d3 g3 h=>?_;refine bx h fun z' g4 h=>?_;cases h;refine hc st2 σ H3 O2 Z _ E3 r3 st3 g1 fun v3 H4 O4 x4 k4 E4 rv4 w4=>?_;have b2:=(rv2.nf.ext (x3.trans x4) k4).ba E4 (by rw[fX];exact g2)
    refine hr' (U O4 Z) H4 v2 v3 d2' d3 z' _ E4.liv b2 (rv4.ba E4 g3) g4 fun w H5 s5 hres5=>?_;obtain⟨E5,rv5⟩:=hres5.rv E4 s5;exact q w H5 O4 ((((x1.trans x2).trans x3).trans x4).trans (Same.ext s5)) ((k1.trans k2).trans k4) E5 rv5 (hres5.fsh.back (((x1.trans x2).trans x3).trans x4))
 | _=>cases fr<;>cases h
def aj:FA:=fun st=>some ([],st)
theorem ae:oq K kN aj:=by
 intro st σ H O Z Q E rs st' e q;cases e;exact q [] H O (Ext.refl O H) (Kp.refl _) E .nil
def ab (fa:FE) (fr:FA):FA:=fun st=>(fa st).bind fun x=>(fr x.2).bind fun y=>some (x.1::y.1,y.2)
theorem aa (ha:cT K ta fa) (hr:oq K tr fr):oq K (dM ta tr) (ab fa fr):=by
 intro st σ H O Z Q E rs st' h q;refine cx h fun r1 st1 e1 h=>?_;refine cx h fun rs2 st2 e2 h=>?_;cases h;refine ha st σ H O Z _ E r1 st1 e1 fun v1 H1 O1 x1 k1 E1 rv1 w1=>?_;refine hr st1 σ H1 O1 Z _ E1 rs2 st2 e2 fun vs H2 O2 x2 k2 E2 rvs=>?_;exact q (v1::vs) H2 O2 (x1.trans x2) (k1.trans k2) E2 (.cons (rv1.nf.ext x2 k2) rvs)
theorem lL (h:n<=1000000):n<=sizeLine:=Qb h (by decide)
def jW (fa:FA):FE:=fun st=>(fa st).bind fun x=>(bK x.1 x.2).bind fun y=>if y.1.length<=1000000 then some (.d (.tup y.1),y.2) else none
theorem gL (ha:oq K ta fa):cT K (Hj ta) (jW fa):=by
 intro st σ H O Z Q E r st' h q;refine cx h fun rs st1 e1 h=>?_;refine cx h fun ds st2 e2 h=>?_;refine ha st σ H O Z _ E rs st1 e1 fun vs H1 O1 x1 k1 E1 rvs=>?_;obtain⟨O2,x2,k2,E2,el⟩:=rvs.esc E1 e2;obtain⟨hz,h⟩:=aK h;cases h;refine⟨by rw[el.1];exact lL hz,fun p hp=>?_⟩
 obtain⟨E3,rv⟩:=E2.newT hp el;exact q _ _ O2 ((x1.trans x2).trans (Same.ext (be hp _))) (k1.trans k2) E3 rv True.intro
def bU (fa:FA):FE:=fun st=>(fa st).bind fun x=>(bK x.1 x.2).bind fun y=>if y.1.length<=1000000 then some (.f (.lst y.1),y.2) else none
theorem bm (ha:oq K ta fa):cT K (z7 ta) (bU fa):=by
 intro st σ H O Z Q E r st' h q;refine cx h fun rs st1 e1 h=>?_;refine cx h fun ds st2 e2 h=>?_;refine ha st σ H O Z _ E rs st1 e1 fun vs H1 O1 x1 k1 E1 rvs=>?_;obtain⟨O2,x2,k2,E2,el⟩:=rvs.esc E1 e2;obtain⟨hz,h⟩:=aK h;cases h;refine⟨by rw[el.1];exact lL hz,fun p hp=>?_⟩
 obtain⟨E3,rv⟩:=E2.new hp el;exact q _ _ O2 ((x1.trans x2).trans (Same.ext (be hp _))) (k1.trans k2) E3 rv fun p' e=>by cases e;exact(x1.trans x2).dead hp
def d6 (b:List D->Option Rz) (fa:FA):FE:=fun st=>(fa st).bind fun x=>(di x.2 x.1).bind fun ds=>(b ds).bind fun z=>some (mk z,x.2)
theorem bv (hr:RdCB K r b) (ha:oq K ta fa):cT K (z9 r ta) (d6 b fa):=by
 intro st σ H O Z Q E r0 st' h q;refine cx h fun rs st1 e1 h=>?_;refine bx h fun ds e2 h=>?_;refine bx h fun z e3 h=>?_;cases h;refine ha st σ H O Z _ E rs st1 e1 fun vs H1 O1 x1 k1 E1 rvs=>?_;refine hr (U O1 Z) H1 vs ds z _ E1.liv (rvs.bas E1 e2) e3 fun v H3 s hres=>?_;obtain⟨E3,rv3⟩:=hres.rv E1 s;exact q v H3 O1 (x1.trans (Same.ext s)) k1 E3 rv3 (hres.fsh.back x1)
end
end VF
namespace VF
open PySem L2
def D.isSc:D->Bool
 | .non=>true
 | .bl _=>true
 | .int _=>true
 | .str _=>true
 | .ty _=>true
 | _=>false
def mE (K:PySem.W.Frag) (g:List D->Option Rz):Sp:=fun vs H Q _=>∃(Z:AS) (ds:List D) (z:Rz),El K Z H vs ds/\(∀p,Z p->Lv H p)/\g ds=some z/\∀v H',Same H H'->RES K Z H H' v z->Q v H'
def Jn (K:PySem.W.Frag) (Y:AS) (f:Addr) (x':D) (H H':Hp) (v:V):Rz->Prop
 | (d,true)=>∃p,v=.ref p/\H p=none/\OA K (ins p Y) H' p d/\OA K (ins p Y) H' f x'
 | (d,false)=>DA K Y H' v d/\OA K Y H' f x'
def jX (K:PySem.W.Frag) (g:D->List D->Option (Rz×D)):Sp:=fun vs H Q _=>∃(f:Addr) (ws:List V) (Z:AS) (x:D) (ds:List D) (z:Rz) (x':D),vs=.ref f::ws/\¬ Z f/\OA K (ins f Z) H f x/\El K (ins f Z) H ws ds/\(∀p,Z p->Lv H p)/\g x ds=some (z,x') /\
 ∀v H',(∀b o,H b=some o->b≠f->H' b=some o)->Jn K (ins f Z) f x' H H' v z->Q v H'
section
variable {K:PySem.W.Frag} {Y Y' O O' O1 O2 Z:AS} {H H' H1 H2:Hp} {v:V} {d:D} {vs:List V} {ds:List D} {a p:Addr} {st st' st1 st2:En} {σ σ':St}
def bV (g:List D->Option Rz) (fa:FA):FE:=fun st=>(fa st).bind fun x=>(bK x.1 x.2).bind fun y=>(g y.1).bind fun z=>some (mk z,y.2)
theorem fZ (ha:oq K ta fa):cT K (wq (mE K g) ta) (bV g fa):=by
 intro st σ H O Z Q E r0 st' h q;refine cx h fun rs st1 e1 h=>?_;refine cx h fun ds st2 e2 h=>?_;refine bx h fun z e3 h=>?_;cases h;refine ha st σ H O Z _ E rs st1 e1 fun vs H1 O1 x1 k1 E1 rvs=>?_;obtain⟨O2,x2,k2,E2,el⟩:=rvs.esc E1 e2;refine⟨U O2 Z,ds,z,el,E2.liv,e3,fun v H3 s hres=>?_⟩;obtain⟨E3,rv3⟩:=hres.rv E2 s;exact q v H3 O2 ((x1.trans x2).trans (Same.ext s)) (k1.trans k2) E3 rv3 (hres.fsh.back (x1.trans x2))
theorem RVal.da0 (h:RVal K Z st σ H O v r) (E:ER K st σ H O Z) (c:cont st r=some d):DA K (fun _=>False) H v d:=by
 cases r with
 | d x=>cases c;exact DA.less (show DA K (U O Z) H v d from h) fun b z=>z.elim
 | f x=>cases c;exact DA.less (show DA K (U O Z) H v d from RVal.nf h) fun b z=>z.elim
 | s i =>
  obtain⟨h1,s,h2,h3⟩:=h;have c':(st[i]?).bind Sl.get=some d:=c;rw[h2]at c';cases s with
  | e=>cases c'
  | v x =>
   cases c';obtain⟨u,g1,g2⟩:=E.val i _ h2;rw[h1]at g1;cases g1;exact g2.less fun b z=>z.elim
  | o x =>
   cases c';obtain⟨p,g1,g2,g3⟩:=E.own i _ _ h2 rfl;rw[h1]at g1;cases g1;exact g3.da (fun z=>z) fun b z=>z.elim
  | io x =>
   cases c';obtain⟨p,g1,g2,g3⟩:=E.own i _ _ h2 rfl;rw[h1]at g1;cases g1;exact g3.da (fun z=>z) fun b z=>z.elim
theorem RVs.el0 (h:RVs K Z st σ H O vs rs) (E:ER K st σ H O Z):∀{ds:List D},di st rs=some ds->El K (fun _=>False) H vs ds:=by
 induction h with
 | nil=>intro ds e;cases e;exact El.nil
 | @cons v vs r rs h1 _ ih =>
  intro ds e;refine bx e fun d e1 e=>?_;refine bx e fun ds' e2 e=>?_;cases e;exact El.cons (h1.da0 E (by rw[fX];exact e1)) (ih e2)
theorem DA.sc (h:DA K Y H v d) (s:d.isSc=true):DA K Y' H' v d:=by
 cases h with
 | non=>exact .non
 | bl b=>exact .bl b
 | int i=>exact .int i
 | str x=>exact .str x
 | ty n=>exact .ty n
 | _=>cases s
def cU (g:List D->Option Rz) (fa:FA):FE:=fun st=>(fa st).bind fun x=>(di x.2 x.1).bind fun ds=>(g ds).bind fun z=>if (z.1.isSc&&!z.2)=true then some (.d z.1,x.2) else none
theorem dj (ha:oq K ta fa):cT K (wq (mE K g) ta) (cU g fa):=by
 intro st σ H O Z Q E r0 st' h q;refine cx h fun rs st1 e1 h=>?_;refine bx h fun ds e2 h=>?_;refine cx h fun dz fr e3 h=>?_;obtain⟨hc,h⟩:=aK h;cases h;have h1:dz.isSc=true/\fr=false:=by simpa using hc
 obtain⟨h1,rfl⟩:=h1;refine ha st σ H O Z _ E rs _ e1 fun vs H1 O1 x1 k1 E1 rvs=>?_;refine⟨fun _=>False,ds,(dz,false),rvs.el0 E1 e2,fun p z=>z.elim,e3,fun v H3 s hres=>?_⟩;exact q v H3 O1 (x1.trans (Same.ext s)) k1 (E1.same s) (DA.sc (show DA K (fun _=>False) H3 v dz from hres) h1) True.intro
theorem rL {s:Sl} (E:ER K st σ H O Z) (hs:st[i]?=some s) (hx:s.ow=some x) (hv:σ[i]?=some (some v)) (el:El K (U O Z) H ws ds) (hg:g x ds=some (z,x'))
  (q:∀v H' O',Ext O H O' H'->Kp st (st.set i (s.put x'))->ER K (st.set i (s.put x')) σ H' O' Z->RVal K Z (st.set i (s.put x')) σ H' O' v (mk z)->Fsh H v (mk z)->Q v H'):jX K g (v::ws) H Q XE:=by
 obtain⟨p,g1,g2,g3⟩:=E.own i s x hs hx;have ev:v=.ref p:=by rw[hv]at g1;cases g1;rfl
 subst ev;have a1:∀b,ins p (fun b=>U O Z b/\b≠p) b->U O Z b:=fun b z=>z.elim (fun q=>by rw[q];exact .inl g2) fun q=>q.1
 have a2:∀b,U O Z b->ins p (fun b=>U O Z b/\b≠p) b:=fun b z=>by
  by_cases e:b=p
  ·exact .inl e
  ·exact .inr ⟨z,e⟩
 refine⟨p,ws,fun b=>U O Z b/\b≠p,x,ds,z,x',rfl,fun z=>z.2 rfl,g3.go rfl (fun _ _ e _=>e) (fun b z=>.inl (a1 b z)),el.less a1,fun b z=>E.liv b z.1,hg,fun u H' kp hres=>?_⟩;have ho:OA K (ins p fun b=>U O Z b/\b≠p) H' p x':=by
  obtain⟨dz,fr⟩:=z;cases fr with
  | false=>exact hres.2
  | true=>obtain⟨r,_,_,_,h⟩:=hres;exact h.go rfl (fun _ _ e _=>e) fun b z=>.inl (.inr z)
 have kp':∀b o,H b=some o->¬ U O Z b->H' b=some o:=fun b o e n=>kp b o e fun z=>n (by rw[z];exact .inl g2)
 have al:∀b,H b≠none->H' b≠none:=fun b hb=>by
  by_cases e:b=p
  ·rw[e];exact ho.live
  ·cases eb:H b with
   | none=>exact absurd eb hb
   | some o=>rw[kp b o eb e];simp
 have al':∀b,Lv H b->Lv H' b:=fun b hb=>by
  by_cases e:b=p
  ·rw[e];exact ho.lv
  ·exact hb.same fun o eb=>kp b o eb e
 have ex:Ext O H O H':=⟨fun b o e n=>kp b o e fun z=>n (by rw[z];exact g2),fun b z=>.inl z,al,al'⟩
 have ho':OA K (U O Z) H' p x':=ho.go rfl (fun _ _ e _=>e) fun b z=>.inl (a2 b z);have mkE:∀(O2:AS),(∀b,O b->O2 b)->(∀b,O2 b->O b∨H b=none)->(∀b,O2 b->¬ Z b)->(∀b,O2 b->Lv H' b)->OA K (U O2 Z) H' p x'->ER K (st.set i (s.put x')) σ H' O2 Z:=fun O2 up dn ds lv ho2=>by
  have nn:∀b,U O2 Z b->U O Z b∨H b=none:=fun b z=>z.elim (fun y=>(dn b y).elim (fun w=>.inl (.inl w)) .inr) fun y=>.inl (.inr y);refine⟨by simp[E.len],fun j d hj=>?_,fun j t d hj ht=>?_,fun j k t t' d d' r hj ht hk ht' e1 e2=>?_,ds,fun r hr=>hr.elim (lv r) fun y=>al' r (E.liv r (.inr y))⟩
  ·by_cases e:i=j
   ·subst e;rw[aU hs]at hj;exact absurd (Option.some.inj hj) (Sl.put_v _ _ _)
   ·rw[aw e]at hj;obtain⟨v,h1,h2⟩:=E.val j d hj;exact⟨v,h1,h2.go kp' nn⟩
  ·by_cases e:i=j
   ·subst e;rw[aU hs]at hj;have:=Option.some.inj hj;subst this;rw[Sl.put_ow]at ht;cases ht;exact⟨p,g1,up p g2,ho2⟩
   ·rw[aw e]at hj;obtain⟨r,h1,h2,h3⟩:=E.own j t d hj ht;have hne:r≠p:=fun z=>by subst z;exact e (E.uni i j s t x d r hs hx hj ht g1 h1)
    refine⟨r,h1,up r h2,h3.go ?_ kp' nn⟩;cases er:H r with
    | none=>exact absurd er h3.live
    | some o=>exact kp r o er hne
  ·have own':∀(m:Nat) (t:Sl) (d:D),(st.set i (s.put x'))[m]?=some t->t.ow=some d->∃t2 d2,st[m]?=some t2/\t2.ow=some d2:=fun m t d hm ht=>by
    by_cases e:i=m
    ·subst e;exact⟨s,x,hs,hx⟩
    ·rw[aw e]at hm;exact⟨t,d,hm,ht⟩
   obtain⟨t1,d1,a1,b1⟩:=own' j t d hj ht;obtain⟨t2,d2,a2,b2⟩:=own' k t' d' hk ht';exact E.uni j k t1 t2 d1 d2 r a1 b1 a2 b2 e1 e2
 have kk:Kp st (st.set i (s.put x')):=by
  refine⟨by simp,fun j t hj ht=>?_,fun j d hj=>?_⟩
  ·by_cases e:i=j
   ·subst e;exact⟨s.put x',aU hs,by cases s<;>simp[Sl.put,Sl.get]⟩
   ·exact⟨t,by rw[aw e];exact hj,ht⟩
  ·by_cases e:i=j
   ·subst e;rw[hs]at hj;cases hj;exact⟨x',aU hs⟩
   ·exact⟨d,by rw[aw e];exact hj⟩
 have E':=mkE O (fun _ z=>z) (fun _ z=>.inl z) E.dis (fun b z=>al' b (E.liv b (.inl z))) ho';refine q u H' O ex kk E' ?_ ?_
 rotate_left
 ·obtain⟨dz,fr⟩:=z;cases fr with
  | false=>trivial
  | true=>obtain⟨r,rfl,hr,_⟩:=hres;exact fun q e=>by cases e;exact hr
 obtain⟨dz,fr⟩:=z;cases fr with
 | false=>exact DA.less (show DA K _ H' u dz from hres.1) a2
 | true =>
  obtain⟨r,rfl,hr,hor,hof⟩:=hres;have hf:=E.free hr;have a3:∀b,ins r (U O Z) b->ins r (ins p fun b=>U O Z b/\b≠p) b:=fun b z=>z.elim .inl fun y=>.inr (a2 b y);refine⟨r,rfl,hf.1,hf.2,hor.go rfl (fun _ _ e _=>e) (fun b z=>.inl (a3 b z)),mkE (ins r O) (fun _ z=>.inr z) (fun b z=>z.elim (fun y=>.inr (by rw[y];exact hr)) .inl) (fun b z=>z.elim (fun y=>by rw[y];exact hf.2) (E.dis b)) (fun b z=>z.elim (fun y=>by rw[y];exact hor.lv) fun y=>al' b (E.liv b (.inl y))) ?_⟩
  exact hof.go rfl (fun _ _ e _=>e) fun b z=>.inl (a3 b (z.elim (fun y=>y.elim .inl fun w=>.inr (.inl w)) fun y=>.inr (.inr y)))
def d7 (g:D->List D->Option (Rz×D)) (i:Nat) (fr:FA):FE:=fun st=>(st[i]?).bind fun s0=>(s0.ow).bind fun _=>(fr st).bind fun x=>(bK x.1 x.2).bind fun y=>(y.2[i]?).bind fun s=>(s.ow).bind fun d=>(g d y.1).bind fun z=>some (mk z.1,y.2.set i (s.put z.2))
theorem bJ (hr:oq K tr fr):cT K (wq (jX K g) (dM (mV i) tr)) (d7 g i fr):=by
 intro st σ H O Z Q E r0 st' h q;refine bx h fun s0 f1 h=>?_;refine bx h fun x0 f2 h=>?_;refine cx h fun rs st1 e1 h=>?_;refine cx h fun ds st2 e2 h=>?_;refine bx h fun s e3 h=>?_;refine bx h fun x e4 h=>?_;refine cx h fun z x' e5 h=>?_;cases h;obtain⟨p,g1,_,_⟩:=E.own i s0 x0 f1 f2;refine⟨.ref p,g1,?_⟩;refine hr st σ H O Z _ E rs st1 e1 fun vs H1 O1 x1 k1 E1 rvs=>?_;obtain⟨O2,x2,k2,E2,el⟩:=rvs.esc E1 e2;exact rL E2 e3 e4 g1 el e5 fun v H' O' ex kk E' rv w=>q v H' O' ((x1.trans x2).trans ex) ((k1.trans k2).trans kk) E' rv (w.back (x1.trans x2))
end
end VF
namespace VF
open PySem L2
structure Kq (st:En) (σ:St) (st':En) (σ':St):Prop where
 len:st'.length=st.length
 io:∀(i:Nat) d,st[i]?=some (.io d)->σ'[i]?=σ[i]?/\∃d',st'[i]?=some (.io d')
theorem Kq.refl (st:En) (σ:St):Kq st σ st σ:=⟨rfl,fun i d h=>⟨rfl,d,h⟩⟩
theorem Kq.trans (h:Kq a x b y) (g:Kq b y c z):Kq a x c z:=by
 refine⟨g.len.trans h.len,fun i d e=>?_⟩;obtain⟨e1,d1,e2⟩:=h.io i d e;obtain⟨e3,d2,e4⟩:=g.io i d1 e2;exact⟨e3.trans e1,d2,e4⟩
theorem Kp.kq (k:Kp st st'):Kq st σ st' σ:=⟨k.len,fun i d h=>⟨rfl,k.io i d h⟩⟩
abbrev FG:=D->En->Option En
def DG (K:PySem.W.Frag) (g:TG) (fg:FG) (tg:List Nat):Prop:=∀(st:En) (σ:St) (H:Hp) (O Z:AS) (x:V) (d:D) (Q:St->Hp->Prop),ER K st σ H O Z->DA K (U O Z) H x d->∀st',fg d st=some st' ->
 (∀σ',(∀j,j∉tg->σ'[j]?=σ[j]?/\st'[j]?=st[j]?)->Kq st σ st' σ'->ER K st' σ' H O Z->Q σ' H)->g x σ H Q
def Sl.isIo:Sl->Bool
 | .io _=>true
 | _=>false
def ng (i:Nat) (s:Sl) (st:En):Option En:=(st[i]?).bind fun t=>if t.isIo=true then none else some (st.set i s)
section
variable {K:PySem.W.Frag} {Y Y' O O' O1 O2 Z:AS} {H H' H1 H2:Hp} {v:V} {d:D} {vs:List V} {ds:List D} {a p:Addr} {st st' st1 st2:En} {σ σ':St}
theorem mF (h:ng i s st=some st'):∃t,st[i]?=some t/\t.isIo=false/\st'=st.set i s:=by grind [ng]
theorem kQ {s t:Sl} (e:st[i]?=some t) (n:t.isIo=false):Kq st σ (st.set i s) (σ.set i w):=by
 refine⟨by simp,fun j d h=>?_⟩
 have q:i≠j:=fun z=>by subst z;rw[e]at h;cases h;cases n
 exact⟨aw q,d,by rw[aw q];exact h⟩
theorem ER.asg (E:ER K st σ H O Z) (e:st[i]?=some t) (h:DA K (U O Z) H v d):ER K (st.set i (.v d)) (σ.set i (some v)) H O Z:=by
 have hi:i<σ.length:=by rw[← E.len];exact(Yd.mp e).1
 have sg:(σ.set i (some v))[i]?=some (some v):=by rw[Wm,Ad rfl,Ad hi]
 have ne:∀(j:Nat) s x,(st.set i (.v d))[j]?=some s->s.ow=some x->i≠j/\st[j]?=some s:=fun j s x h1 h2=>by
  by_cases q:i=j
  ·subst q;rw[aU e]at h1;cases h1;cases h2
  ·exact⟨q,by rw[aw q]at h1;exact h1⟩
 refine⟨by simp[E.len],fun j x hj=>?_,fun j s x h1 h2=>?_,fun j k s s' x x' r h1 h2 h3 h4 h5 h6=>?_,E.dis,E.liv⟩
 ·by_cases q:i=j
  ·subst q;rw[aU e]at hj;cases hj;exact⟨v,sg,h⟩
  ·rw[aw q]at hj;obtain⟨w,g1,g2⟩:=E.val j x hj;exact⟨w,by rw[aw q];exact g1,g2⟩
 ·obtain⟨q,h1⟩:=ne j s x h1 h2;obtain⟨r,g1,g2⟩:=E.own j s x h1 h2;exact⟨r,by rw[aw q];exact g1,g2⟩
 ·obtain⟨q1,h1⟩:=ne j s x h1 h2;obtain⟨q2,h3⟩:=ne k s' x' h3 h4;rw[aw q1]at h5;rw[aw q2]at h6;exact E.uni j k s s' x x' r h1 h2 h3 h4 h5 h6
theorem ER.asgF (E0:ER K st σ H O Z) (E:ER K st σ H (ins p O) Z) (np:¬ O p) (e:st[i]?=some t) (h:OA K (ins p (U O Z)) H p x):ER K (st.set i (.o x)) (σ.set i (some (.ref p))) H (ins p O) Z:=by
 have hi:i<σ.length:=by rw[← E.len];exact(Yd.mp e).1
 have sg:(σ.set i (some (V.ref p)))[i]?=some (some (.ref p)):=by rw[Wm,Ad rfl,Ad hi]
 have fresh:∀(j:Nat) s y,st[j]?=some s->s.ow=some y->σ[j]?≠some (some (.ref p)):=fun j s y h1 h2 z=>by
  obtain⟨r,g1,g2,_⟩:=E0.own j s y h1 h2;rw[z]at g1;cases g1;exact np g2
 refine⟨by simp[E.len],fun j y hj=>?_,fun j s y h1 h2=>?_,fun j k s s' y y' r h1 h2 h3 h4 h5 h6=>?_,E.dis,E.liv⟩
 ·by_cases q:i=j
  ·subst q;rw[aU e]at hj;cases hj
  ·rw[aw q]at hj;obtain⟨w,g1,g2⟩:=E.val j y hj;exact⟨w,by rw[aw q];exact g1,g2⟩
 ·by_cases q:i=j
  ·subst q;rw[aU e]at h1;cases h1;cases h2;refine⟨p,sg,.inl rfl,h.go rfl (fun _ _ e _=>e) fun b z=>.inl ?_⟩;rcases z with(z|z)|z
   ·exact .inl z
   ·exact .inr (.inl z)
   ·exact .inr (.inr z)
  ·rw[aw q]at h1;obtain⟨r,g1,g2⟩:=E.own j s y h1 h2;exact⟨r,by rw[aw q];exact g1,g2⟩
 ·by_cases q1:i=j
  ·by_cases q2:i=k
   ·exact q1.symm.trans q2
   ·subst q1;rw[aw q2]at h3 h6;rw[sg]at h5;cases h5;exact absurd h6 (fresh k s' y' h3 h4)
  ·by_cases q2:i=k
   ·subst q2;rw[aw q1]at h1 h5;rw[sg]at h6;cases h6;exact absurd h5 (fresh j s y h1 h2)
   ·rw[aw q1]at h1 h5;rw[aw q2]at h3 h6;exact E.uni j k s s' y y' r h1 h2 h3 h4 h5 h6
def gN (i:Nat):FG:=fun d st=>ng i (.v d) st
theorem ci (i:Nat):DG K (jR i) (gN i) [i]:=by
 intro st σ H O Z x d Q E da st' h q;obtain⟨t,e,n,rfl⟩:=mF h;refine q (σ.set i (some x)) (fun j hj=>?_) (kQ e n) (E.asg e da);have q:i≠j:=fun z=>hj (by rw[z];simp)
 exact⟨aw q,aw q⟩
abbrev FI:=En->Option (List D×En)
def Hw (K:PySem.W.Frag) (Z:AS) (J:It) (items:List D) (H:Hp) (O:AS):Prop:=∀H' O',Ext O H O' H'->(∀p,U O' Z p->Lv H' p)->(∀i,items.length<=i->J.stop i H')/\∀(i:Nat) d,items[i]?=some d->J.go i H'/\∀x H'',J.yld i H' x H''->Same H' H''/\DA K (U O' Z) H'' x d
def RdI (K:PySem.W.Frag) (wi:TI) (fi:FI):Prop:=∀(st:En) (σ:St) (H:Hp) (O Z:AS) (R:It->Hp->Prop),ER K st σ H O Z->∀items st',fi st=some (items,st') ->
 (∀J H' O',Ext O H O' H'->Kp st st'->ER K st' σ H' O' Z->Hw K Z J items H' O'->R J H')->wi σ H R
def esc (r:Rs) (st:En):Option (D×En):=(cont st r).bind fun d=>(xS st r).bind fun st1=>some (d,st1)
theorem RVal.esc (h:RVal K Z st σ H O v r) (E:ER K st σ H O Z) (e:esc r st=some (d,st')):∃O',Ext O H O' H/\Kp st st'/\ER K st' σ H O' Z/\DA K (U O' Z) H v d:=by
 refine bx e fun x e1 e=>?_;refine bx e fun s1 e2 e=>?_;cases e;exact h.frz E e2 e1
def D.its:D->Option (List D)
 | .lst ds=>some ds
 | .fl ds=>some ds
 | _=>none
def D.itt:D->Option (List D)
 | .tup ds=>some ds
 | _=>none
def G1 (fe:FE):FI:=fun st=>(fe st).bind fun x=>(esc x.1 x.2).bind fun y=>(y.1.its).bind fun ds=>some (ds,y.2)
theorem B2 (h:cT K te fe):RdI K (uz K te) (G1 fe):=by
 intro st σ H O Z R E items st' e q;refine cx e fun r st1 e1 e=>?_;refine cx e fun d st2 e2 e=>?_;refine bx e fun ds e3 e=>?_;cases e;refine h st σ H O Z _ E r st1 e1 fun v H1 O1 x1 k1 E1 rv w1=>?_;obtain⟨O2,x2,k2,E2,da⟩:=rv.esc E1 e2;have fin:∀{a:Addr} {vs:List V},El K (U O2 Z) H1 vs items->(∀H' O',Ext O2 H1 O' H'->hJ K H' a vs)->uz K (fun _ H Q=>Q (.ref a) H) σ H1 R:=fun {a vs} el sq=>by
  refine⟨a,rfl,⟨vs,sq H1 O2 (Ext.refl _ _)⟩,q _ H1 O2 (x1.trans x2) (k1.trans k2) E2 fun H' O' ex _=>?_⟩;have g1:=sq H' O' ex;have el':=el.ext ex;have hl:=el.1;refine⟨fun i hi=>⟨vs,g1,by lia⟩,fun i d hd=>?_⟩
  obtain⟨v,hv,hdv⟩:=el'.at hd;refine⟨⟨vs,v,g1,hv⟩,fun x H'' hx=>?_⟩;obtain⟨rfl,hx⟩:=hx;have:=hx vs g1;rw[hv]at this;cases this;exact⟨Same.refl _,hdv⟩
 cases d with
 | lst ds' =>
  cases e3;cases da with
  | @lst a vs _ h0 h1 h2 h3=>exact fin ⟨h2,h3⟩ fun H' O' ex=>.inl (.inl (ex.kp a _ h1 fun z=>h0 (.inl z)))
 | fl ds' =>
  cases e3;cases da with
  | @fl a vs _ h1 h2 h3 =>
   refine fin ⟨h2,h3⟩ fun H' O' ex=>?_;rcases h1 with⟨h1,hn⟩|h1
   ·exact .inl (Rd.keep h1 fun o e=>ex.kp a o e fun z=>hn (.inl z))
   ·exact h1 H'
 | _=>cases e3
def IW (fe:FE):FI:=fun st=>(fe st).bind fun x=>(esc x.1 x.2).bind fun y=>(y.1.itt).bind fun ds=>some (ds,y.2)
theorem E8 (h:cT K te fe):RdI K (Ev K te) (IW fe):=by
 intro st σ H O Z R E items st' e q;refine cx e fun r st1 e1 e=>?_;refine cx e fun d st2 e2 e=>?_;refine bx e fun ds e3 e=>?_;cases e;refine h st σ H O Z _ E r st1 e1 fun v H1 O1 x1 k1 E1 rv w1=>?_;obtain⟨O2,x2,k2,E2,da⟩:=rv.esc E1 e2;cases d with
 | tup ds' =>
  cases e3;cases da with
  | @tup a vs _ h1 h2 h3 =>
   refine⟨a,rfl,⟨vs,h1.sq⟩,q _ H1 O2 (x1.trans x2) (k1.trans k2) E2 fun H' O' ex _=>?_⟩;have da':=(DA.tup h1 h2 h3).ext ex;cases da' with
   | @tup _ ws _ g1 g2 g3 =>
    refine⟨fun i hi=>⟨ws,g1.sq,by lia⟩,fun i d hd=>?_⟩
    obtain⟨v,hv,hdv⟩:=El.at ⟨g2,g3⟩ hd;refine⟨⟨ws,v,g1.sq,hv⟩,fun x H'' hx=>?_⟩;obtain⟨rfl,hx⟩:=hx;have:=hx ws g1.sq;rw[hv]at this;cases this;exact⟨Same.refl _,hdv⟩
 | _=>cases e3
def rng (lo:Int) (n:Nat):List D:=(List.range n).map fun(i:Nat)=>D.int (lo+(i:Int))
theorem xV (h:(rng lo n)[i]?=some d):i<n/\d=.int (lo+i):=by grind [rng]
theorem f7 (lo:Int) (n:Nat):(rng lo n).length=n:=by simp[rng]
theorem xW:Hw K Z (IR lo n) (rng lo n) H O:=fun H' O' ex _=>by
 refine⟨fun i hi=>by rw[f7]at hi;exact hi,fun i d hd=>?_⟩
 obtain⟨h1,rfl⟩:=xV hd;refine⟨h1,fun x H'' hx=>?_⟩;obtain⟨rfl,rfl⟩:=hx;exact⟨Same.refl _,.int _⟩
def E9:List D->Option Int
 | [.int j]=>some j
 | _=>none
def qa (fa:FA):FI:=fun st=>(fa st).bind fun x=>(di x.2 x.1).bind fun ds=>(E9 ds).bind fun j=>if -(2 ^ 62)<=j/\j<2 ^ 62 then some (rng 0 j.toNat,x.2) else none
theorem mG (h:oq K ta fa):RdI K (Dr ta) (qa fa):=by
 intro st σ H O Z R E items st' e q;refine cx e fun rs st1 e1 e=>?_;refine bx e fun ds e2 e=>?_;refine bx e fun j e3 e=>?_;obtain⟨hc,e⟩:=aK e;cases e;refine h st σ H O Z _ E rs _ e1 fun vs H1 O1 x1 k1 E1 rvs=>?_;have bs:=rvs.bas E1 e2;have ed:ds=[.int j]:=by
  unfold E9 at e3;split at e3
  ·cases e3;rfl
  ·cases e3
 subst ed;cases bs with
 | cons b1 b2 =>
  cases b2;obtain rfl:=(show _=V.int j from b1);exact⟨j,rfl,hc.1,hc.2,q _ H1 O1 x1 k1 E1 xW⟩
def nh (x:Str):List D:=x.cps.toList.map fun c=>D.str ⟨#[c]⟩
def JI (fe:FE):FI:=fun st=>(fe st).bind fun x=>match cont x.2 x.1 with
 | some (.str z)=>some (nh z,x.2)
 | _=>none
theorem Fa (h:cT K te fe):RdI K (EV te) (JI fe):=by
 intro st σ H O Z R E items st' e q;refine cx e fun r st1 e1 e=>?_;refine h st σ H O Z _ E r st1 e1 fun v H1 O1 x1 k1 E1 rv w1=>?_;dsimp only at e;split at e
 ·rename_i z ez
  cases e;have ev:v=.str z:=rv.ba E1 ez;refine⟨z,ev,q _ H1 O1 x1 k1 E1 fun H' O' ex _=>⟨fun i hi=>?_,fun i d hd=>?_⟩⟩
  ·show z.cps.size<=i;simpa[nh]using hi
  ·unfold nh at hd;rw[Wg]at hd;obtain⟨c,hc,rfl⟩:=Yg.mp hd;have hc':z.cps[i]?=some c:=by simpa using hc
   refine⟨(Xe.mp hc').1,fun x H'' hx=>?_⟩;obtain⟨rfl,c',h1,rfl⟩:=hx;rw[hc']at h1;cases h1;exact⟨Same.refl _,.str _⟩
 ·cases e
inductive Ot where
 | nx (st:En)|rt (r:Rs) (st:En)|bk (st:En)|ct (st:En)
abbrev FS:=En->Option Ot
def Out (K:PySem.W.Frag) (Z O:AS) (H:Hp) (st:En) (σ:St) (Dn:Ends):Ot->Prop
 | .nx st'=>∀σ' H' O',Ext O H O' H'->Kq st σ st' σ'->ER K st' σ' H' O' Z->Dn.nx σ' H'
 | .rt r st'=>∀v σ' H' O',Ext O H O' H'->Kq st σ st' σ'->ER K st' σ' H' O' Z->RVal K Z st' σ' H' O' v r->Fsh H v r->Dn.rt v H'
 | .bk st'=>∀σ' H' O',Ext O H O' H'->Kq st σ st' σ'->ER K st' σ' H' O' Z->Dn.bk σ' H'
 | .ct st'=>∀σ' H' O',Ext O H O' H'->Kq st σ st' σ'->ER K st' σ' H' O' Z->Dn.ct σ' H'
def lM (K:PySem.W.Frag) (ts:TS) (F:FS):Prop:=∀(st:En) (σ:St) (H:Hp) (O Z:AS) (Dn:Ends),ER K st σ H O Z->∀o,F st=some o->Out K Z O H st σ Dn o->ts Dn σ H
theorem Out.trans (h:Out K Z O H st σ Dn o) (x:Ext O H O1 H1) (k:Kq st σ st1 σ'):Out K Z O1 H1 st1 σ' Dn o:=by
 cases o with
 | nx s=>exact fun σ2 H2 O2 x2 k2 E2=>h σ2 H2 O2 (x.trans x2) (k.trans k2) E2
 | bk s=>exact fun σ2 H2 O2 x2 k2 E2=>h σ2 H2 O2 (x.trans x2) (k.trans k2) E2
 | ct s=>exact fun σ2 H2 O2 x2 k2 E2=>h σ2 H2 O2 (x.trans x2) (k.trans k2) E2
 | rt r s=>exact fun v σ2 H2 O2 x2 k2 E2 rv w=>h v σ2 H2 O2 (x.trans x2) (k.trans k2) E2 rv (w.back x)
def bn:FS:=fun st=>some (.nx st)
theorem aT:lM K Dq bn:=by
 intro st σ H O Z Dn E o e q;cases e;exact q σ H O (Ext.refl _ _) (Kq.refl _ _) E
def aH (F G:FS):FS:=fun st=>(F st).bind fun o=>match o with
 | .nx s=>G s
 | o=>some o
theorem av (h1:lM K t F) (h2:lM K u G):lM K (z0 t u) (aH F G):=by
 intro st σ H O Z Dn E o e q;refine bx e fun o1 e1 e=>?_;refine h1 st σ H O Z _ E o1 e1 ?_;cases o1 with
 | nx s=>exact fun σ1 H1 O1 x1 k1 E1=>h2 s σ1 H1 O1 Z Dn E1 o e (q.trans x1 k1)
 | bk s=>cases e;exact q
 | ct s=>cases e;exact q
 | rt r s=>cases e;exact q
def cJ (fe:FE):FS:=fun st=>(fe st).bind fun x=>some (.nx x.2)
theorem cD (h:cT K te fe):lM K (uw te) (cJ fe):=by
 intro st σ H O Z Dn E o e q;refine cx e fun r st1 e1 e=>?_;cases e;exact h st σ H O Z _ E r st1 e1 fun v H1 O1 x1 k1 E1 rv w1=>q σ H1 O1 x1 k1.kq E1
def bG (fe:FE):FS:=fun st=>(fe st).bind fun x=>some (.rt x.1 x.2)
theorem aV (h:cT K te fe):lM K (Es te) (bG fe):=by
 intro st σ H O Z Dn E o e q;refine cx e fun r st1 e1 e=>?_;cases e;exact h st σ H O Z _ E r st1 e1 fun v H1 O1 x1 k1 E1 rv w1=>q v σ H1 O1 x1 k1.kq E1 rv w1
def gM (f:FT) (F G:FS):FS:=fun st=>(f st).bind fun x=>if x.1=true then F x.2 else G x.2
theorem bW (hc:oU K c f) (h1:lM K t F) (h2:lM K u G):lM K (Et c t u) (gM f F G):=by
 intro st σ H O Z Dn E o e q;refine cx e fun b st1 e1 e=>?_;refine hc st σ H O Z _ E b st1 e1 fun H1 O1 x1 k1 E1=>?_;cases b with
 | true =>
  rw[Ad rfl]at e ⊢;exact h1 st1 σ H1 O1 Z Dn E1 o e (q.trans x1 k1.kq)
 | false =>
  simp only[Ve,if_false]at e ⊢;exact h2 st1 σ H1 O1 Z Dn E1 o e (q.trans x1 k1.kq)
def aY (fe:FE) (i:Nat):FS:=fun st=>(fe st).bind fun x=>match x.1 with
 | .d y=>(ng i (.v y) x.2).bind fun s=>some (.nx s)
 | .f y=>(ng i (.o y) x.2).bind fun s=>some (.nx s)
 | .s j=>(esc (.s j) x.2).bind fun y=>(ng i (.v y.1) y.2).bind fun s=>some (.nx s)
theorem aG (h:cT K te fe):lM K (v4 te (jR i)) (aY fe i):=by
 intro st σ H O Z Dn E o e q;refine cx e fun r st1 e1 e=>?_;refine h st σ H O Z _ E r st1 e1 fun v H1 O1 x1 k1 E1 rv w1=>?_;show Dn.nx (σ.set i (some v)) H1;cases r with
 | d y =>
  refine bx e fun s e2 e=>?_;cases e;obtain⟨t,f1,f2,rfl⟩:=mF e2;exact q _ H1 O1 x1 (k1.kq.trans (kQ f1 f2)) (E1.asg f1 rv)
 | f y =>
  refine bx e fun s e2 e=>?_;cases e;obtain⟨t,f1,f2,rfl⟩:=mF e2;obtain⟨p,rfl,np,nz,ho,E2⟩:=rv;have hp:H p=none:=w1 p rfl;exact q _ H1 (ins p O1) ⟨x1.kp,fun b z=>z.elim (fun y=>by rw[y];exact .inr hp) (x1.nw b),x1.al,x1.lv⟩ (k1.kq.trans (kQ f1 f2)) (E1.asgF E2 np f1 ho)
 | s j =>
  refine cx e fun d st2 e2 e=>?_;refine bx e fun s e3 e=>?_;cases e;obtain⟨O2,x2,k2,E2,da⟩:=rv.esc E1 e2;obtain⟨t,f1,f2,rfl⟩:=mF e3;exact q _ H1 O2 (x1.trans x2) ((k1.kq.trans k2.kq).trans (kQ f1 f2)) (E2.asg f1 da)
end
end VF
namespace VF
open PySem L2
section
variable {K:PySem.W.Frag} {Y Y' O O' O1 O2 Z:AS} {H H' H1 H2:Hp} {v:V} {d:D} {vs:List V} {ds:List D} {a p:Addr} {st st' st1 st2:En} {σ σ':St}
def dq (fg:FG) (B:FS):List D->FS
 | [],st=>some (.nx st)
 | x::r,st=>(fg x st).bind fun s1=>(B s1).bind fun o=>match o with
  | .nx s2=>dq fg B r s2
  | .ct s2=>dq fg B r s2
  | .bk s2=>some (.nx s2)
  | .rt y s2=>some (.rt y s2)
def jY (fi:FI) (fg:FG) (B:FS):FS:=fun st=>(fi st).bind fun x=>dq fg B x.1 x.2
theorem iu (hi:RdI K wi fi) (hg:DG K g fg tg) (hb:lM K tb B):lM K (Ey wi g tb) (jY fi fg B):=by
 intro st σ H O Z Dn E o e q;refine cx e fun items st1 e1 e=>?_;refine hi st σ H O Z _ E items st1 e1 fun J H1 O1 x1 k1 E1 it=>?_;have q1:=q.trans x1 (k1.kq (σ:=σ));refine⟨fun i m σ' H'=>m=items.length-i/\i<=items.length/\∃s O',Ext O1 H1 O' H'/\Kq st1 σ s σ'/\ER K s σ' H' O' Z/\dq fg B (items.drop i) s=some o,⟨items.length,by simp,Vj _,st1,O1,Ext.refl _ _,Kq.refl _ _,E1,e⟩,?_⟩
 rintro i m σ' H' ⟨rfl,hle,s,O',x2,k2,E2,e2⟩;obtain⟨stop,go⟩:=it H' O' x2 E2.liv;by_cases hlt:i<items.length
 ·right;have hd:items.drop i=items[i]::items.drop (i+1):=Yk hlt;rw[hd]at e2;refine bx e2 fun s1 e3 e2=>?_;refine bx e2 fun o1 e4 e2=>?_;obtain⟨g1,g2⟩:=go i _ (Zc hlt);refine⟨g1,fun σ3 H3=>∃s O3,Ext O1 H1 O3 H3/\Kq st1 σ s σ3/\ER K s σ3 H3 O3 Z/\dq fg B (items.drop (i+1)) s=some o,fun σ3 H3 ⟨s3,O3,x3,k3,E3,e3'⟩=>⟨items.length-(i+1),by lia,rfl,hlt,s3,O3,x3,k3,E3,e3'⟩,fun x H'' hy=>?_⟩
  obtain⟨sm,da⟩:=g2 x H'' hy;have xm:Ext O' H' O' H'':=Same.ext sm;refine hg s σ' H'' O' Z x _ _ (E2.same sm) da s1 e3 fun σ4 _ k4 E4=>?_;refine hb s1 σ4 H'' O' Z _ E4 o1 e4 ?_;have xx:=x2.trans xm;cases o1 with
  | nx s2=>exact fun σ5 H5 O5 x5 k5 E5=>⟨s2,O5,xx.trans x5,(k2.trans k4).trans k5,E5,e2⟩
  | ct s2=>exact fun σ5 H5 O5 x5 k5 E5=>⟨s2,O5,xx.trans x5,(k2.trans k4).trans k5,E5,e2⟩
  | bk s2 =>
   cases e2;exact fun σ5 H5 O5 x5 k5 E5=>q1 σ5 H5 O5 (xx.trans x5) ((k2.trans k4).trans k5) E5
  | rt y s2 =>
   cases e2;exact fun v σ5 H5 O5 x5 k5 E5 rv w=>q1 v σ5 H5 O5 (xx.trans x5) ((k2.trans k4).trans k5) E5 rv (w.back xx)
 ·left;have hn:items.drop i=[]:=Vl (by lia)
  rw[hn]at e2;cases e2;exact⟨stop i (by lia),q1 σ' H' O' x2 k2 E2⟩
def zU (f:FT) (B:FS):Nat->FS
 | 0,_=>none
 | n+1,st=>(f st).bind fun x=>if x.1=true then(B x.2).bind fun o=>match o with
   | .nx s2=>zU f B n s2
   | .ct s2=>zU f B n s2
   | .bk s2=>some (.nx s2)
   | .rt y s2=>some (.rt y s2)
  else some (.nx x.2)
theorem rM (n:Nat) (hc:oU K c f) (hb:lM K tb B):lM K (xq c tb) (zU f B n):=by
 intro st σ H O Z Dn E o e q;refine⟨fun m σ' H'=>∃s O',Ext O H O' H'/\Kq st σ s σ'/\ER K s σ' H' O' Z/\zU f B m s=some o,⟨n,st,O,Ext.refl _ _,Kq.refl _ _,E,e⟩,?_⟩;rintro m σ' H' ⟨s,O',x2,k2,E2,e2⟩;cases m with
 | zero=>cases e2
 | succ m =>
  refine cx e2 fun b s1 e3 e2=>?_;refine hc s σ' H' O' Z _ E2 b s1 e3 fun H3 O3 x3 k3 E3=>?_;have xx:=x2.trans x3;have kk:=k2.trans (k3.kq (σ:=σ'));cases b with
  | false =>
   simp only[Ve,if_false]at e2 ⊢;cases e2;exact q σ' H3 O3 xx kk E3
  | true =>
   rw[Ad rfl]at e2 ⊢;refine bx e2 fun o1 e4 e2=>?_;refine⟨fun σ5 H5=>∃s O5,Ext O H O5 H5/\Kq st σ s σ5/\ER K s σ5 H5 O5 Z/\zU f B m s=some o,fun σ5 H5 h=>⟨m,AZ _,h⟩,?_⟩;refine hb s1 σ' H3 O3 Z _ E3 o1 e4 ?_;cases o1 with
   | nx s2=>exact fun σ5 H5 O5 x5 k5 E5=>⟨s2,O5,xx.trans x5,kk.trans k5,E5,e2⟩
   | ct s2=>exact fun σ5 H5 O5 x5 k5 E5=>⟨s2,O5,xx.trans x5,kk.trans k5,E5,e2⟩
   | bk s2 =>
    cases e2;exact fun σ5 H5 O5 x5 k5 E5=>q σ5 H5 O5 (xx.trans x5) (kk.trans k5) E5
   | rt y s2 =>
    cases e2;exact fun v σ5 H5 O5 x5 k5 E5 rv w=>q v σ5 H5 O5 (xx.trans x5) (kk.trans k5) E5 rv (w.back xx)
structure RdM (K:PySem.W.Frag) (T:String) (r:V->List V->Hp->VK->Prop) (ok:D->Bool) (m:D->List D->Option (D×D)):Prop where
 ty:∀(Y:AS) (H:Hp) (p:Addr) (x:D),OA K Y H p x->ok x=true->Hq K T (.ref p) H
 run:∀(Y:AS) (H:Hp) (p:Addr) (x:D) (vs:List V) (ds:List D) (y x':D) (Q:VK),Y p->OA K Y H p x->El K Y H vs ds->m x ds=some (y,x') ->
  (∀v o,DA K Y (upd H p o) v y->OA K Y (upd H p o) p x'->Q v (upd H p o))->r (.ref p) vs H Q
def fM (ok:D->Bool) (m:D->List D->Option (D×D)) (i:Nat) (fa:FA):FE:=fun st=>(st[i]?).bind fun s0=>(s0.ow).bind fun x0=>if ok x0=true then(fa st).bind fun x=>(bK x.1 x.2).bind fun y=>(y.2[i]?).bind fun s=>(s.ow).bind fun d=>(m d y.1).bind fun z=>some (.d z.1,y.2.set i (s.put z.2)) else none
theorem jZ (hm:RdM K T r ok m) (ha:oq K ta fa):cT K (IV K T r (mV i) ta) (fM ok m i fa):=by
 intro st σ H O Z Q E r0 st' h q;refine bx h fun s0 f1 h=>?_;refine bx h fun x0 f2 h=>?_;obtain⟨hok,h⟩:=aK h;refine cx h fun rs st1 e1 h=>?_;refine cx h fun ds st2 e2 h=>?_;refine bx h fun s e3 h=>?_;refine bx h fun x e4 h=>?_;refine cx h fun y x' e5 h=>?_;cases h;obtain⟨p,g1,g2,g3⟩:=E.own i s0 x0 f1 f2;refine⟨.ref p,g1,hm.ty _ _ _ _ g3 hok,?_⟩;refine ha st σ H O Z _ E rs st1 e1 fun vs H1 O1 x1 k1 E1 rvs=>?_;obtain⟨O2,x2,k2,E2,el⟩:=rvs.esc E1 e2;obtain⟨p',j1,j2,j3⟩:=E2.own i s x e3 e4;have ep:p'=p:=by rw[g1]at j1;cases j1;rfl
 subst ep;refine hm.run (U O2 Z) H1 p' x vs ds y x' _ (.inl j2) j3 el e5 fun v o da ho=>?_;obtain⟨E3,x3,k3⟩:=E2.write e3 e4 g1 ho;exact q v _ O2 ((x1.trans x2).trans x3) ((k1.trans k2).trans k3) E3 da True.intro
def xX (K:PySem.W.Frag) (t:xp) (m:D->D->D->Option D):Prop:=∀(Y:AS) (H:Hp) (p:Addr) (x:D) (k v:V) (dk dv x':D) (Q:Hp->Prop),Y p->OA K Y H p x->BA K Y H k dk->DA K Y H v dv->m x dk dv=some x' ->
 (∀o,OA K Y (upd H p o) p x'->Q (upd H p o))->t (.ref p) k v H Q
def oB (m:D->D->D->Option D) (fe:FE) (i:Nat) (fi:FE):FS:=fun st=>(fe st).bind fun x=>(esc x.1 x.2).bind fun y=>(y.2[i]?).bind fun s0=>(s0.ow).bind fun _=>(fi y.2).bind fun w=>(cont w.2 w.1).bind fun dk=>(w.2[i]?).bind fun s=>(s.ow).bind fun z=>(m z dk y.1).bind fun z'=>some (.nx (w.2.set i (s.put z')))
theorem jr (hm:xX K t m) (he:cT K te fe) (hi:cT K ti fi):lM K (v4 te (Hg (mV i) ti t)) (oB m fe i fi):=by
 intro st σ H O Z Dn E o e q;refine cx e fun r st1 e1 e=>?_;refine cx e fun dv st2 e2 e=>?_;refine bx e fun s0 e3 e=>?_;refine bx e fun x0 e4 e=>?_;refine cx e fun rk st3 e5 e=>?_;refine bx e fun dk e6 e=>?_;refine bx e fun s e7 e=>?_;refine bx e fun x e8 e=>?_;refine bx e fun x' e9 e=>?_;cases e;refine he st σ H O Z _ E r st1 e1 fun v H1 O1 x1 k1 E1 rv w1=>?_;obtain⟨O2,x2,k2,E2,da⟩:=rv.esc E1 e2;obtain⟨p,g1,g2,g3⟩:=E2.own i s0 x0 e3 e4;refine⟨.ref p,g1,?_⟩;refine hi st2 σ H1 O2 Z _ E2 rk st3 e5 fun k H3 O3 x3 k3 E3 rk' w3=>?_;obtain⟨p',j1,j2,j3⟩:=E3.own i s x e7 e8;have ep:p'=p:=by rw[g1]at j1;cases j1;rfl
 subst ep;refine hm (U O3 Z) H3 p' x k v dk dv x' _ (.inl j2) j3 (rk'.ba E3 e6) (da.ext x3) e9 fun o ho=>?_;obtain⟨E4,x4,k4⟩:=E3.write e7 e8 g1 ho;exact q σ _ O3 (((x1.trans x2).trans x3).trans x4) (((k1.trans k2).trans k3).trans k4).kq E4
def fE (k:Nat) (caps:List Nat) (st:En):En:=List.replicate k Sl.e++caps.map fun i=>(st[i]?).getD .e
def kR (k:Nat) (s:En):En:=List.replicate k Sl.e++s.drop k
def wb:List Nat->En->En->En
 | i::r,s::sb,st=>wb r sb (st.set i s)
 | _,_,st=>st
def eP (fg:FG) (fc:FT) (fe:FE) (k:Nat):List D->En->Option (List D×En)
 | [],sb=>some ([],sb)
 | x::r,sb=>(fg x sb).bind fun s1=>(fc s1).bind fun c=>if c.1=true then(fe c.2).bind fun y=>(esc y.1 y.2).bind fun w=>(eP fg fc fe k r (kR k w.2)).bind fun z=>some (w.1::z.1,z.2)
  else eP fg fc fe k r (kR k c.2)
def gO (caps:List Nat) (n:Nat):Bool:=decide caps.Nodup&&caps.all fun i=>decide (i<n)
def eQ (k:Nat) (caps:List Nat) (fi:FI) (fg:FG) (fc:FT) (fe:FE):FE:=fun st=>(fi st).bind fun x=>if (gO caps x.2.length&&decide (x.1.length<=1000000))=true then(eP fg fc fe k x.1 (fE k caps x.2)).bind fun y=>some (.f (.lst y.1),wb caps (y.2.drop k) x.2) else none
theorem tI:∀(caps:List Nat) (sb st:En),(wb caps sb st).length=st.length
 | [],_,_=>by simp[wb]
 | _::_,[],_=>by simp[wb]
 | i::r,s::sb,st=>by rw[wb,tI r sb];simp
theorem ni:∀(caps:List Nat) (sb st:En) {i:Nat},i∉caps->(wb caps sb st)[i]?=st[i]?
 | [],_,_,_,_=>by simp[wb]
 | _::_,[],_,_,_=>by simp[wb]
 | j::r,s::sb,st,i,h=>by
  rw[wb,ni r sb _ (fun z=>h (Yb _ z))];exact aw fun z=>h (by rw[z];simp)
theorem xY:∀(caps:List Nat) (sb st:En) {j i:Nat},caps.Nodup->sb.length=caps.length->caps[j]?=some i->i<st.length->(wb caps sb st)[i]?=sb[j]?
 | [],_,_,_,_,_,_,h,_=>by simp at h
 | _::_,[],_,_,_,_,h,_,_=>by simp at h
 | c::r,s::sb,st,0,i,nd,hl,h,hi=>by
  have e:c=i:=by simpa using h
  subst e;rw[wb,ni r sb _ (Zh.mp nd).1];rw[Wm,Ad rfl,Ad hi];rfl
 | c::r,s::sb,st,j+1,i,nd,hl,h,hi=>by
  rw[wb,xY r sb _ (j:=j) (Zh.mp nd).2 (by simpa using hl) (by simpa using h) (by simpa using hi)];rfl
theorem uS (h:caps[j]?=some i):(fE k caps st)[k+j]?=some ((st[i]?).getD .e):=by grind [fE]
theorem j0 {s:Sl} (h:(fE k caps st)[i]?=some s) (n:s.get≠none):∃j i',i=k+j/\caps[j]?=some i'/\st[i']?=some s:=by
 unfold fE at h;by_cases hi:i<k
 ·rw[Xi (by simpa using hi),Zj,Ad hi]at h
  cases h;exact absurd rfl n
 ·rw[Yf (by simpa using hi),Xh,Wg]at h
  refine⟨i-k,?_⟩;obtain⟨i',e1,e2⟩:=Yg.mp h;refine⟨i',by lia,e1,?_⟩
  cases q:st[i']? with
  | none=>rw[q]at e2;subst e2;exact absurd rfl n
  | some t=>rw[q]at e2;subst e2;rfl
theorem js (h:caps[j]?=some i):(ia k caps σ)[k+j]?=some ((σ[i]?).getD none):=by grind [ia]
theorem iw {s:Sl} (h:s.ow=some d):s.get≠none:=by cases s<;>first|(cases h;done)|simp[Sl.get]
theorem xZ {l:List Nat} {j j' i:Nat} (nd:l.Nodup) (h:l[j]?=some i) (h':l[j']?=some i):j=j':=by
 obtain⟨h1,h2⟩:=Yd.mp h;obtain⟨h3,h4⟩:=Yd.mp h';exact(List.getElem_inj nd).mp (h2.trans h4.symm)
def Ob (caps:List Nat) (st:En) (σ:St):AS:=fun p=>∃i∈caps,∃s d,st[i]?=some s/\s.ow=some d/\σ[i]?=some (some (.ref p))
def Zb (caps:List Nat) (st:En) (σ:St) (O Z:AS):AS:=fun p=>Z p∨(O p/\¬ Ob caps st σ p)
theorem Ob.o (E:ER K st σ H O Z) (h:Ob caps st σ q):O q:=by
 obtain⟨i,_,s,d,h1,h2,h3⟩:=h;obtain⟨p,g1,g2,_⟩:=E.own i s d h1 h2;rw[h3]at g1;cases g1;exact g2
theorem x8 {k:Nat} {caps:List Nat} (E:ER K st σ H O Z) (nd:caps.Nodup):ER K (fE k caps st) (ia k caps σ) H (Ob caps st σ) (Zb caps st σ O Z):=by
 have up:∀b,U (Ob caps st σ) (Zb caps st σ O Z) b->U O Z b:=fun b z=>z.elim (fun y=>.inl (Ob.o E y)) fun y=>y.elim .inr fun w=>.inl w.1;refine⟨by simp[fE,ia],fun i d h=>?_,fun i s d h1 h2=>?_,fun i j s t d d' p h1 h2 h3 h4 h5 h6=>?_,fun p h z=>?_,fun p h=>E.liv p (up p h)⟩
 ·obtain⟨j,i',rfl,hc,hs⟩:=j0 h (by simp[Sl.get])
  obtain⟨v,g1,g2⟩:=E.val i' d hs;exact⟨v,by rw[js hc,g1];rfl,g2.less up⟩
 ·obtain⟨j,i',rfl,hc,hs⟩:=j0 h1 (iw h2);obtain⟨p,g1,g2,g3⟩:=E.own i' s d hs h2;exact⟨p,by rw[js hc,g1];rfl,⟨i',Xf hc,s,d,hs,h2,g1⟩,g3.go rfl (fun _ _ e _=>e) fun b z=>.inl (up b z)⟩
 ·obtain⟨j1,i1,rfl,c1,s1⟩:=j0 h1 (iw h2);obtain⟨j2,i2,rfl,c2,s2⟩:=j0 h3 (iw h4);obtain⟨p1,g1,_⟩:=E.own i1 s d s1 h2;obtain⟨p2,g2,_⟩:=E.own i2 t d' s2 h4;rw[js c1,g1]at h5;rw[js c2,g2]at h6;have e1:p1=p:=by simpa using h5
  have e2:p2=p:=by simpa using h6
  subst e1;subst e2;have e:=E.uni i1 i2 s t d d' _ s1 h2 s2 h4 g1 g2;subst e;rw[xZ nd c1 c2]
 ·rcases z with z|z
  ·exact E.dis p (Ob.o E h) z
  ·exact z.2 h
theorem qb {τ τ':St} (E:ER K st τ H O Z) (hl:τ'.length=τ.length) (hk:k<=st.length) (h:∀j,k<=j->τ'[j]?=τ[j]?):ER K (kR k st) τ' H O Z:=by
 have at_:∀(i:Nat) s,(kR k st)[i]?=some s->s.get≠none->k<=i/\st[i]?=some s:=fun i s e n=>by
  unfold kR at e;by_cases hi:i<k
  ·rw[Xi (by simpa using hi),Zj,Ad hi]at e
   cases e;exact absurd rfl n
  ·rw[Yf (by simpa using hi),Xh,Qe]at e
   have:k+(i-k)=i:=by lia
   rw[this]at e;exact⟨by lia,e⟩
 refine⟨?_,fun i d e=>?_,fun i s d e1 e2=>?_,fun i j s t d d' p e1 e2 e3 e4 e5 e6=>?_,E.dis,E.liv⟩
 ·rw[hl,← E.len];simp[kR];lia
 ·obtain⟨hk,e⟩:=at_ i _ e (by simp[Sl.get])
  obtain⟨v,g1,g2⟩:=E.val i d e;exact⟨v,by rw[h i hk];exact g1,g2⟩
 ·obtain⟨hk,e⟩:=at_ i _ e1 (iw e2);obtain⟨p,g1,g2⟩:=E.own i s d e e2;exact⟨p,by rw[h i hk];exact g1,g2⟩
 ·obtain⟨hk1,e1⟩:=at_ i _ e1 (iw e2);obtain⟨hk2,e3⟩:=at_ j _ e3 (iw e4);rw[h i hk1]at e5;rw[h j hk2]at e6;exact E.uni i j s t d d' p e1 e2 e3 e4 e5 e6
def Oo (caps:List Nat) (st:En) (σ:St) (O Oi:AS):AS:=fun p=>Oi p∨(O p/\¬ Ob caps st σ p)
theorem qc (E:ER K st σ H O Z) (x:Ext (Ob caps st σ) H Oi H'):Ext O H (Oo caps st σ O Oi) H' :=
 ⟨fun b o e n=>x.kp b o e fun z=>n (Ob.o E z),fun b z=>z.elim (fun y=>(x.nw b y).elim (fun w=>.inl (Ob.o E w)) .inr) fun y=>.inl y.1,x.al,x.lv⟩
theorem uT {caps:List Nat} {sb:En} (E:ER K st σ H O Z) (nd:caps.Nodup) (lt:∀i∈caps,i<st.length) (hl:sb.length=k+caps.length) (x:Ext (Ob caps st σ) H Oi H') (B:ER K sb (ia k caps σ) H' Oi (Zb caps st σ O Z)) :
  ER K (wb caps (sb.drop k) st) σ H' (Oo caps st σ O Oi) Z:=by
 have dl:(sb.drop k).length=caps.length:=by rw[Xj];lia
 have cap:∀(j i:Nat),caps[j]?=some i->(wb caps (sb.drop k) st)[i]?=sb[k+j]?:=fun j i h=>by
  rw[xY caps _ st nd dl h (lt i (Xf h)),Qe]
 have out:∀i,i∉caps->(wb caps (sb.drop k) st)[i]?=st[i]?:=fun i h=>ni caps _ st h;have same:∀b,U (Oo caps st σ O Oi) Z b->U Oi (Zb caps st σ O Z) b:=fun b z=>by
  rcases z with(z|z)|z
  ·exact .inl z
  ·exact .inr (.inr z)
  ·exact .inr (.inl z)
 have kp:∀b o,H b=some o->¬ U O Z b->H' b=some o:=fun b o e n=>x.kp b o e fun z=>n (.inl (Ob.o E z));have nn:∀b,U (Oo caps st σ O Oi) Z b->U O Z b∨H b=none:=fun b z=>by
  rcases z with z|z
  ·exact((qc E x).nw b z).elim (fun y=>.inl (.inl y)) .inr
  ·exact .inl (.inr z)
 have nob:∀(i:Nat) s d p,i∉caps->st[i]?=some s->s.ow=some d->σ[i]?=some (some (.ref p))->¬ Ob caps st σ p:=fun i s d p hn h1 h2 h3 z=>by
  obtain⟨i0,hm,s0,d0,g1,g2,g3⟩:=z;have:=E.uni i i0 s s0 d d0 p h1 h2 g1 g2 h3 g3;subst this;exact hn hm
 have bget:∀{j i:Nat} {v:V},caps[j]?=some i->(ia k caps σ)[k+j]?=some (some v)->σ[i]?=some (some v):=fun {j i v} hc hb=>by
  rw[js hc]at hb;have hb':=Option.some.inj hb;cases q:σ[i]? with
  | none=>rw[q]at hb';cases hb'
  | some w=>rw[q]at hb';have:w=some v:=hb';rw[this]
 have own:∀(i:Nat) s d,(wb caps (sb.drop k) st)[i]?=some s->s.ow=some d->(∃j,caps[j]?=some i/\sb[k+j]?=some s)∨(i∉caps/\st[i]?=some s):=fun i s d h1 _=>by
  by_cases hc:i∈caps
  ·obtain⟨j,hj⟩:=Wk hc;rw[cap j i hj]at h1;exact .inl ⟨j,hj,h1⟩
  ·rw[out i hc]at h1;exact .inr ⟨hc,h1⟩
 refine⟨by rw[tI];exact E.len,fun i d h=>?_,fun i s d h1 h2=>?_,fun i j s t d d' p h1 h2 h3 h4 h5 h6=>?_,fun p h=>?_,fun p h=>?_⟩
 ·by_cases hc:i∈caps
  ·obtain⟨j,hj⟩:=Wk hc;rw[cap j i hj]at h;obtain⟨v,g1,g2⟩:=B.val _ d h;exact⟨v,bget hj g1,g2.less same⟩
  ·rw[out i hc]at h;obtain⟨v,g1,g2⟩:=E.val i d h;exact⟨v,g1,g2.go kp nn⟩
 ·rcases own i s d h1 h2 with⟨j,hj,hs⟩|⟨hc,hs⟩
  ·obtain⟨p,g1,g2,g3⟩:=B.own _ s d hs h2;exact⟨p,bget hj g1,.inl g2,g3.go rfl (fun _ _ e _=>e) fun b z=>.inl (same b z)⟩
  ·obtain⟨p,g1,g2,g3⟩:=E.own i s d hs h2;have nb:=nob i s d p hc hs h2 g1;refine⟨p,g1,.inr ⟨g2,nb⟩,g3.go ?_ kp nn⟩;cases q:H p with
   | none=>exact absurd q g3.live
   | some o=>exact x.kp p o q nb
 ·rcases own i s d h1 h2 with⟨j1,c1,s1⟩|⟨c1,s1⟩<;>rcases own j t d' h3 h4 with⟨j2,c2,s2⟩|⟨c2,s2⟩
  ·have e:=B.uni _ _ s t d d' p s1 h2 s2 h4 (by rw[js c1,h5];rfl) (by rw[js c2,h6];rfl)
   have e':j1=j2:=by lia
   subst e';rw[c1]at c2;exact Option.some.inj c2
  ·exfalso
   obtain⟨q,g1,g2,_⟩:=B.own _ s d s1 h2;have:=bget c1 g1;rw[h5]at this;cases this;have nb:=nob j t d' p c2 s2 h4 h6;obtain⟨q2,k1,_,k3⟩:=E.own j t d' s2 h4;rw[h6]at k1;cases k1;exact(x.nw p g2).elim nb k3.live
  ·exfalso
   obtain⟨q,g1,g2,_⟩:=B.own _ t d' s2 h4;have:=bget c2 g1;rw[h6]at this;cases this;have nb:=nob i s d p c1 s1 h2 h5;obtain⟨q2,k1,_,k3⟩:=E.own i s d s1 h2;rw[h5]at k1;cases k1;exact(x.nw p g2).elim nb k3.live
  ·exact E.uni i j s t d d' p s1 h2 s2 h4 h5 h6
 ·rcases h with h|h
  ·exact fun z=>B.dis p h (.inl z)
  ·exact E.dis p h.1
 ·rcases h with(h|h)|h
  ·exact B.liv p (.inl h)
  ·exact x.lv p (E.liv p (.inl h.1))
  ·exact x.lv p (E.liv p (.inr h))
theorem qd {a b:En} (h0:∀(i:Nat) s,a[i]?=some s->i<k->s=.e) (h:Kp a b) (hk:k<=b.length):Kp a (kR k b):=by
 have lk:(kR k b).length=b.length:=by simp[kR];lia
 have at_:∀i,k<=i->(kR k b)[i]?=b[i]?:=fun i hi=>by
  unfold kR;rw[Yf (by simpa using hi),Xh,Qe]
  congr 1;lia
 refine⟨lk.trans h.len,fun i s e g=>?_,fun i d e=>?_⟩
 ·by_cases hi:i<k
  ·have:=h0 i s e hi;subst this;exact absurd rfl g
  ·obtain⟨s',e',g'⟩:=h.has i s e g;exact⟨s',by rw[at_ i (by lia)];exact e',g'⟩
 ·by_cases hi:i<k
  ·have:=h0 i _ e hi;cases this
  ·obtain⟨d',e'⟩:=h.io i d e;exact⟨d',by rw[at_ i (by lia)];exact e'⟩
theorem Hx {caps:List Nat} {sb:En} (nd:caps.Nodup) (lt:∀i∈caps,i<st.length) (hl:sb.length=k+caps.length) (h:Kp (fE k caps st) sb):Kp st (wb caps (sb.drop k) st):=by
 have dl:(sb.drop k).length=caps.length:=by rw[Xj];lia
 have cap:∀(j i:Nat),caps[j]?=some i->(wb caps (sb.drop k) st)[i]?=sb[k+j]?:=fun j i h=>by
  rw[xY caps _ st nd dl h (lt i (Xf h)),Qe]
 refine⟨tI _ _ _,fun i s e g=>?_,fun i d e=>?_⟩
 ·by_cases hc:i∈caps
  ·obtain⟨j,hj⟩:=Wk hc;rw[cap j i hj];exact h.has (k+j) s (by rw[uS hj,e];rfl) g
  ·exact⟨s,by rw[ni _ _ _ hc];exact e,g⟩
 ·by_cases hc:i∈caps
  ·obtain⟨j,hj⟩:=Wk hc;rw[cap j i hj];exact h.io (k+j) d (by rw[uS hj,e];rfl)
  ·exact⟨d,by rw[ni _ _ _ hc];exact e⟩
theorem ix (i:Nat) (s:Sl) (h:(fE k caps st)[i]?=some s) (hi:i<k):s=.e:=by grind [Sl,fE]
def JW (K:PySem.W.Frag) (Z:AS) (caps:List Nat) (st:En) (σ:St) (J:It) (items:List D) (H:Hp) (O:AS):Prop:=∀H' Oi,Ext (Ob caps st σ) H Oi H'->(∀p,U (Oo caps st σ O Oi) Z p->Lv H' p)->(∀i,items.length<=i->J.stop i H')/\∀(i:Nat) d,items[i]?=some d->J.go i H'/\∀x H'',J.yld i H' x H''->Same H' H''/\DA K (U (Oo caps st σ O Oi) Z) H'' x d
def Fb (K:PySem.W.Frag) (caps:List Nat) (wi:TI) (fi:FI):Prop:=∀(st:En) (σ:St) (H:Hp) (O Z:AS) (R:It->Hp->Prop),ER K st σ H O Z->∀items st',fi st=some (items,st') ->
 (∀J H' O',Ext O H O' H'->Kp st st'->ER K st' σ H' O' Z->JW K Z caps st' σ J items H' O'->R J H')->wi σ H R
theorem RdI.ic (h:RdI K wi fi):Fb K caps wi fi:=fun st σ H O Z R E items st' e q =>
 h st σ H O Z R E items st' e fun J H1 O1 x1 k1 E1 it=>q J H1 O1 x1 k1 E1 fun H' Oi x2 lv=>it H' _ (qc E1 x2) lv
theorem rN (hi:Fb K caps wi fi) (hg:DG K g fg tg) (ht:∀j∈tg,j<k) (hc:oU K tc fc) (he:cT K te fe) :
  cT K (oS k caps wi g tc te) (eQ k caps fi fg fc fe):=by
 intro st σ H O Z Q E r st' h q;refine cx h fun items st1 e1 h=>?_;by_cases hok:(gO caps st1.length&&decide (items.length<=1000000))=true
 rotate_left
 ·simp only[Ag hok]at h;cases h
 simp only[Ad hok]at h;refine cx h fun total sf e2 h=>?_;cases h;have hok1:caps.Nodup/\(∀i∈caps,i<st1.length)/\items.length<=1000000:=by
  rw[We,decide_eq_true_eq]at hok;unfold gO at hok;rw[We,decide_eq_true_eq,Xg]at hok;exact⟨hok.1.1,fun i hi=>Ap (hok.1.2 i hi),hok.2⟩
 obtain⟨nd,lt,hfew⟩:=hok1;refine hi st σ H O Z _ E items st1 e1 fun J H1 O1 x1 k1 E1 it=>?_;have bl:(ia k caps σ).length=k+caps.length:=by simp[ia]
 have el:(fE k caps st1).length=k+caps.length:=by simp[fE]
 refine⟨items.length,fun i xs H'=>∃sb Oi ds ds2,Ext (Ob caps st1 σ) H1 Oi H'/\ER K sb (ia k caps σ) H' Oi (Zb caps st1 σ O1 Z)/\El K (U Oi (Zb caps st1 σ O1 Z)) H' xs ds/\eP fg fc fe k (items.drop i) sb=some (ds2,sf)/\ds++ds2=total/\Kp (fE k caps st1) sb/\xs.length<=i,
  ⟨fE k caps st1,Ob caps st1 σ,[],total,Ext.refl _ _,x8 E1 nd,El.nil,e2,rfl,Kp.refl _,Wa _⟩,?_,?_⟩
 ·rintro xs H' ⟨sb,Oi,ds,ds2,x2,B,exs,e3,ed,kb,_⟩;rw[Vl (Wa _)]at e3;obtain⟨rfl,rfl⟩:([]:List D)=ds2/\sb=sf:=by
   have:=Option.some.inj e3;exact⟨congrArg Prod.fst this,congrArg Prod.snd this⟩
  rw[Xc]at ed;subst ed;obtain⟨stop,_⟩:=it H' Oi x2 (uT E1 nd lt (kb.len.trans el) x2 B).liv;refine⟨stop _ (Wa _),fun p hp=>?_⟩;have sl:sb.length=k+caps.length:=kb.len.trans el;have Eo:=uT E1 nd lt sl x2 B;have ko:=Hx nd lt sl kb;have el2:El K (U (Oo caps st1 σ O1 Oi) Z) H' xs ds:=exs.less fun b z=>by
   rcases z with(z|z)|z
   ·exact .inl z
   ·exact .inr (.inr z)
   ·exact .inr (.inl z)
  obtain⟨E3,rv⟩:=Eo.new hp el2;have xx:=x1.trans (qc E1 x2);exact q _ _ _ (xx.trans (Same.ext (be hp _))) (k1.trans ko) E3 rv fun p' e=>by cases e;exact xx.dead hp
 ·rintro i xs H' hlt ⟨sb,Oi,ds,ds2,x2,B,exs,e3,ed,kb,hxl⟩;have hd:items.drop i=items[i]::items.drop (i+1):=Yk hlt;rw[hd]at e3;refine bx e3 fun s1 e4 e3=>?_;refine cx e3 fun c s2 e5 e3=>?_;obtain⟨_,go⟩:=it H' Oi x2 (uT E1 nd lt (kb.len.trans el) x2 B).liv;obtain⟨g1,g2⟩:=go i _ (Zc hlt);refine⟨g1,Xn hxl (Va hlt (lL hfew)),fun x H'' hy=>?_⟩;obtain⟨sm,da⟩:=g2 x H'' hy;have xm:Ext Oi H' Oi H'':=Same.ext sm;have da':DA K (U Oi (Zb caps st1 σ O1 Z)) H'' x items[i]:=da.less fun b z=>by
   rcases z with z|z|z
   ·exact .inl (.inl z)
   ·exact .inr z
   ·exact .inl (.inr z)
  refine hg sb _ H'' Oi _ x _ _ (B.same sm) da' s1 e4 fun τ kt kq3 E4=>?_;have sl:sb.length=k+caps.length:=kb.len.trans el;have tl:τ.length=(ia k caps σ).length:=by rw[← E4.len,kq3.len,sl,bl]
  have tk:∀j,k<=j->(ia k caps σ)[j]?=τ[j]?:=fun j hj=>((kt j fun z=>absurd (ht j z) (by lia)).1).symm
  have drop:τ.drop k=(ia k caps σ).drop k:=by
   refine Bo fun j=>?_;rw[Qe,Qe];exact(tk _ (by lia)).symm
  have kp1:Kp (fE k caps st1) s1:=by
   refine⟨kq3.len.trans kb.len,fun j s e g=>?_,fun j d e=>?_⟩
   ·by_cases hj:j<k
    ·have:=ix j s e hj;subst this;exact absurd rfl g
    ·obtain⟨s',e',g'⟩:=kb.has j s e g;exact⟨s',by rw[(kt j fun z=>absurd (ht j z) (by lia)).2];exact e',g'⟩
   ·by_cases hj:j<k
    ·have:=ix j _ e hj;cases this
    ·obtain⟨d',e'⟩:=kb.io j d e;exact⟨d',by rw[(kt j fun z=>absurd (ht j z) (by lia)).2];exact e'⟩
  refine hc s1 τ H'' Oi _ _ E4 c s2 e5 fun H3 O3 x3 k3 E5=>?_;have kp2:=kp1.trans k3;cases c with
  | false =>
   simp only[Ve,if_false]at e3 ⊢;have hs2:k<=s2.length:=by rw[kp2.len,el];lia
   exact⟨drop,kR k s2,O3,ds,ds2,(x2.trans xm).trans x3,qb E5 tl.symm hs2 tk,exs.ext (xm.trans x3),e3,ed,qd ix kp2 hs2,by lia⟩
  | true =>
   rw[Ad rfl]at e3 ⊢;refine cx e3 fun ry s3 e6 e3=>?_;refine cx e3 fun dy s4 e7 e3=>?_;refine cx e3 fun ds3 sf' e8 e3=>?_;cases e3;refine he s2 τ H3 O3 _ _ E5 ry s3 e6 fun y H4 O4 x4 k4 E6 rv w=>?_;obtain⟨O5,x5,k5,E7,day⟩:=rv.esc E6 e7;have kp3:=(kp2.trans k4).trans k5;have hs4:k<=s4.length:=by rw[kp3.len,el];lia
   refine⟨drop,kR k s4,O5,ds++[dy],ds3,(((x2.trans xm).trans x3).trans x4).trans x5,qb E7 tl.symm hs4 tk,(exs.ext (((xm.trans x3).trans x4).trans x5)).app (El.one day),e8,by rw[Wd];exact ed,qd ix kp3 hs4,by simp;lia⟩
theorem iU (hi:RdI K wi fi) (hg:DG K g fg tg) (ht:∀j∈tg,j<k) (hc:oU K tc fc) (he:cT K te fe) :
  cT K (oS k caps wi g tc te) (eQ k caps fi fg fc fe):=rN hi.ic hg ht hc he
def gk (n:Nat) (ds:List D):En:=ds.map Sl.v++List.replicate (n-ds.length) Sl.e
def Fc (st:En):Rs->Option Rz
 | .d x=>some (x,false)
 | .f x=>some (x,true)
 | .s i=>match st[i]? with
  | some (.o x)=>some (x,true)
  | some (.v x)=>some (x,false)
  | _=>none
def fin:Ot->Option Rz
 | .nx _=>some (.non,false)
 | .rt r st=>Fc st r
 | _=>none
def bN (F:FS) (n m:Nat):List D->Option Rz:=fun ds=>if ds.length=m then(F (gk n ds)).bind fin else none
theorem rO {N:List Str} (el:El K Z H vs ds) (lv:∀p,Z p->Lv H p):ER K (gk N.length ds) (L2.start N vs) H (fun _=>False) Z:=by
 have gv:∀(i:Nat) s,(gk N.length ds)[i]?=some s->s.get≠none->∃d,s=.v d/\ds[i]?=some d:=fun i s e n=>by
  unfold gk at e;by_cases hi:i<ds.length
  ·rw[Xi (by simpa using hi),Wg]at e
   obtain⟨d,h1,h2⟩:=Yg.mp e;exact⟨d,h2.symm,h1⟩
  ·rw[Yf (by simpa using hi),Zj]at e
   by_cases hz:i-(ds.map Sl.v).length<N.length-ds.length
   ·rw[Ad hz]at e;cases e;exact absurd rfl n
   ·rw[Ag hz]at e;cases e
 have no:∀(i:Nat) s d,(gk N.length ds)[i]?=some s->s.ow=some d->False:=fun i s d e h=>by
  obtain⟨x,rfl,_⟩:=gv i s e (iw h);cases h
 refine⟨by simp[gk,L2.start,el.1],fun i d e=>?_,fun i s d e h=>(no i s d e h).elim,fun i j s t d d' p e h=>(no i s d e h).elim,fun p h=>h.elim,fun p h=>h.elim (fun z=>z.elim) (lv p)⟩
 obtain⟨x,h1,h2⟩:=gv i _ e (by simp[Sl.get])
 cases h1;obtain⟨v,g1,g2⟩:=el.at h2;refine⟨v,?_,g2.less fun b z=>z.elim (fun y=>y.elim) fun y=>y⟩;unfold L2.start;have hi:=(Yd.mp g1).1;rw[Xi (by simpa using hi),Wg,g1];rfl
theorem uU {N:List Str} (h:lM K ts F) (sp:mE K (bN F N.length m) vs H Q XE):ts { nx:=fun _ H'=>Q .non H',rt:=Q } (L2.start N vs) H:=by
 obtain⟨Z,ds,z,el,lv,e,q⟩:=sp;have hm:ds.length=m:=by
  by_cases hm:ds.length=m
  ·exact hm
  ·simp only[bN,Ag hm]at e;cases e
 simp only[bN,Ad hm]at e;refine bx e fun o e1 e2=>?_;have same:∀{O':AS} {H':Hp},Ext (fun _=>False) H O' H'->Same H H':=fun {O' H'} x b o e=>x.kp b o e fun z=>z;refine h _ _ H _ Z _ (rO el lv) o e1 ?_;cases o with
 | nx s =>
  cases e2;exact fun σ' H' O' x _ _=>q .non H' (same x) .non
 | bk s=>cases e2
 | ct s=>cases e2
 | rt r s =>
  intro v σ' H' O' x k E rv w;have sub:∀b,Z b->U O' Z b:=fun b z=>.inr z;cases r with
  | d y=>cases e2;exact q v H' (same x) (DA.less (show DA K (U O' Z) H' v y from rv) sub)
  | f y =>
   cases e2;obtain⟨p,rfl,h1,h2,h3,_⟩:=rv;exact q _ H' (same x) ⟨p,rfl,w p rfl,h3.go rfl (fun _ _ e _=>e) fun b z=>.inl (z.elim .inl fun y=>.inr (.inr y))⟩
  | s i =>
   obtain⟨h1,t,h2,h3⟩:=rv
   have e2':(match s[i]? with
    | some (.o x)=>some (x,true)
    | some (.v x)=>some (x,false)
    | _=>none)=some z:=e2
   rw[h2]at e2';cases t with
   | e=>cases e2'
   | io y=>cases e2'
   | v y =>
    cases e2';obtain⟨u,g1,g2⟩:=E.val i y h2;rw[h1]at g1;cases g1;exact q v H' (same x) (g2.less sub)
   | o y =>
    cases e2';obtain⟨p,g1,g2,g3⟩:=E.own i _ y h2 rfl;rw[h1]at g1;cases g1;refine q _ H' (same x) ⟨p,rfl,(x.nw p g2).elim (fun z=>z.elim) (fun z=>z),g3.go rfl (fun _ _ e _=>e) fun b z=>.inl (z.elim (fun y=>.inl (by rw[y];exact g2)) fun y=>.inr y)⟩
def gl (n:Nat) (x:D) (ds:List D):En:=Sl.io x::(ds.map Sl.v++List.replicate (n-(ds.length+1)) Sl.e)
def wu (z:Option Rz) (st:En):Option (Rz×D):=match st[0]? with
 | some (Sl.io x)=>z.bind fun y=>some (y,x)
 | _=>none
def DH:Ot->Option (Rz×D)
 | .nx st=>wu (some (.non,false)) st
 | .rt r st=>wu (Fc st r) st
 | _=>none
def cL (F:FS) (n m:Nat):D->List D->Option (Rz×D):=fun x ds=>if ds.length+1=m then(F (gl n x ds)).bind DH else none
theorem wv {N : List Str} (nz : ¬ Z f) (ho : OA K (ins f Z) H f x) (el : El K (ins f Z) H ws ds) (lv : ∀ p, Z p → Lv H p) : ER K (gl N.length x ds) (L2.start N (.ref f :: ws)) H (fun b => b = f) Z := by
  have gv : ∀ (i : Nat) s, (gl N.length x ds)[i]? = some s → s.get ≠ none → (i = 0 ∧ s = .io x) ∨ ∃ j d, i = j + 1 ∧ s = .v d ∧ ds[j]? = some d := fun i s e n => by
    cases i with
    | zero => left; exact ⟨rfl, by have : Sl.io x = s := by simpa [gl] using e
                                   exact this.symm⟩
    | succ j =>
      right;have e : (ds.map Sl.v ++ List.replicate (N.length - (ds.length + 1)) Sl.e)[j]? = some s := by simpa [gl] using e
      by_cases hi : j < ds.length
      · rw [AV (by simpa using hi), Bm] at e
        obtain ⟨d, h1, h2⟩ := Option.map_eq_some_iff.mp e;exact ⟨j, d, rfl, h2.symm, h1⟩
      · rw [BB (by simpa using hi), BJ] at e
        by_cases hz : j - (ds.map Sl.v).length < N.length - (ds.length + 1)
        · rw [Ad hz] at e; cases e; exact absurd rfl n
        · rw [Ag hz] at e; cases e
  have s0 : (L2.start N (.ref f :: ws))[0]? = some (some (.ref f)) := by simp [L2.start]
  have own0 : ∀ (i : Nat) s d, (gl N.length x ds)[i]? = some s → s.ow = some d → i = 0 ∧ d = x := fun i s d e h => by
    rcases gv i s e (iw h) with ⟨h1, rfl⟩ | ⟨j, d', _, rfl, _⟩
    · cases h; exact ⟨h1, rfl⟩
    · cases h
  refine ⟨by simp [gl, L2.start, el.1], fun i d e => ?_, fun i s d e h => ?_, fun i j s t d d' p e h e' h' _ _ => ?_, fun p h => by rw [h]; exact nz, fun p h => ?_⟩
  · rcases gv i _ e (by simp [Sl.get]) with ⟨_, h⟩ | ⟨j, d', rfl, h, h2⟩
    · cases h
    · cases h
      obtain ⟨v, g1, g2⟩ := el.at h2;refine ⟨v, ?_, g2⟩;have hi := (List.getElem?_eq_some_iff.mp g1).1;unfold L2.start;rw [AV (by simp; lia), Bm]
      simp [g1]
  · obtain ⟨rfl, rfl⟩ := own0 i s d e h
    exact ⟨f, s0, rfl, ho⟩
  · rw [(own0 i s d e h).1, (own0 j t d' e' h').1]
  · rcases h with h | h
    · rw [h]; exact ho.lv
    · exact lv p h
theorem ww {N:List Str} (h:lM K ts F) (sp:jX K (cL F N.length m) vs H Q XE):ts { nx:=fun _ H'=>Q .non H',rt:=Q } (L2.start N vs) H:=by
 obtain⟨f,ws,Z,x,ds,z,x',rfl,nz,ho,el,lv,e,q⟩:=sp;have hm:ds.length+1=m:=by
  by_cases hm:ds.length+1=m
  ·exact hm
  ·simp only[cL,Ag hm]at e;cases e
 simp only[cL,Ad hm]at e;refine bx e fun o e1 e2=>?_;have but:∀{O':AS} {H':Hp},Ext (fun b=>b=f) H O' H'->∀b o,H b=some o->b≠f->H' b=some o:=fun {O' H'} x b o e n=>x.kp b o e n;have i0:(gl N.length x ds)[0]?=some (.io x):=rfl;have s0:(L2.start N (.ref f::ws))[0]?=some (some (.ref f)):=by simp[L2.start]
 have f0:∀{s:En} {σ':St} {H':Hp} {O':AS} {y:D},Kq (gl N.length x ds) (L2.start N (.ref f::ws)) s σ'->ER K s σ' H' O' Z->s[0]?=some (.io y)->O' f/\OA K (U O' Z) H' f y:=fun {s σ' H' O' y} k E e=>by
  obtain⟨g1,_⟩:=k.io 0 x i0;obtain⟨p,h1,h2,h3⟩:=E.own 0 _ y e rfl;rw[g1,s0]at h1;cases h1;exact⟨h2,h3⟩
 refine h _ _ H _ Z _ (wv nz ho el lv) o e1 ?_;cases o with
 | bk s=>cases e2
 | ct s=>cases e2
 | nx s =>
  intro σ' H' O' x2 k E;have e3:wu (some (.non,false)) s=some (z,x'):=e2;unfold wu at e3;split at e3
  ·rename_i y ey
   cases e3;obtain⟨h1,h2⟩:=f0 k E ey;exact q .non H' (but x2) ⟨.non,h2.go rfl (fun _ _ e _=>e) fun b z=>.inl (z.elim (fun w=>.inl (by rw[w];exact h1)) .inr)⟩
  ·cases e3
 | rt r s =>
  intro v σ' H' O' x2 k E rv w;have e3:wu (Fc s r) s=some (z,x'):=e2;unfold wu at e3;split at e3
  ·rename_i y ey
   refine bx e3 fun z' e4 e3=>?_;cases e3;obtain⟨h1,h2⟩:=f0 k E ey;have sub:∀b,ins f Z b->U O' Z b:=fun b z=>z.elim (fun w=>.inl (by rw[w];exact h1)) .inr
   cases r with
   | d u=>cases e4;exact q v H' (but x2) ⟨DA.less (show DA K (U O' Z) H' v u from rv) sub,h2.go rfl (fun _ _ e _=>e) fun b z=>.inl (sub b z)⟩
   | f u =>
    cases e4;obtain⟨p,rfl,g1,g2,g3,E2⟩:=rv;obtain⟨h3,h4⟩:=f0 k E2 ey;exact q _ H' (but x2) ⟨p,rfl,w p rfl,g3.go rfl (fun _ _ e _=>e) (fun b z=>.inl (z.elim .inl fun y=>.inr (sub b y))),h4.go rfl (fun _ _ e _=>e) fun b z=>.inl (z.elim (fun y=>.inl (.inl y)) fun y=>(sub b y).elim (fun a=>.inl (.inr a)) .inr)⟩
   | s i =>
    obtain⟨g1,t,g2,g3⟩:=rv
    have e5:(match s[i]? with
     | some (.o x)=>some (x,true)
     | some (.v x)=>some (x,false)
     | _=>none)=some z:=e4
    rw[g2]at e5;cases t with
    | e=>cases e5
    | io u=>cases e5
    | v u =>
     cases e5;obtain⟨u',j1,j2⟩:=E.val i u g2;rw[g1]at j1;cases j1;exact q v H' (but x2) ⟨j2.less sub,h2.go rfl (fun _ _ e _=>e) fun b z=>.inl (sub b z)⟩
    | o u =>
     cases e5;obtain⟨p,j1,j2,j3⟩:=E.own i _ u g2 rfl;rw[g1]at j1;cases j1;have npf:p≠f:=fun z=>by
      subst z;obtain⟨p0,l1,_⟩:=E.own 0 _ _ ey rfl;obtain⟨l2,_⟩:=k.io 0 x i0;rw[l2,s0]at l1;cases l1;have:=E.uni i 0 _ _ u _ _ g2 rfl ey rfl g1 (by rw[l2,s0])
      subst this;rw[ey]at g2;cases g2
     have hp:H p=none:=(x2.nw p j2).elim (fun z=>absurd z npf) (fun z=>z);have sub2:∀b,ins p (ins f Z) b->U O' Z b:=fun b z=>z.elim (fun y=>.inl (by rw[y];exact j2)) (sub b)
     exact q _ H' (but x2) ⟨p,rfl,hp,j3.go rfl (fun _ _ e _=>e) (fun b z=>.inl (sub2 b z)),h2.go rfl (fun _ _ e _=>e) fun b z=>.inl (sub2 b z)⟩
  ·cases e3
theorem B3 (sp:mE K (bN F n m) vs H Q XE):vs.length=m:=by
 obtain⟨Z,ds,z,el,lv,e,q⟩:=sp;by_cases hm:ds.length=m
 ·exact el.1.trans hm
 ·simp only[bN,Ag hm]at e;cases e
theorem Hy (sp:jX K (cL F n m) vs H Q XE):vs.length=m:=by
 obtain⟨f,ws,Z,x,ds,z,x',rfl,nz,ho,el,lv,e,q⟩:=sp;by_cases hm:ds.length+1=m
 ·have:=el.1;simp;lia
 ·simp only[cL,Ag hm]at e;cases e
end
end VF
namespace VF
open PySem L2
section
variable {K:PySem.W.Frag} {Y Y':AS} {H H':Hp} {v:V} {d:D} {vs:List V} {ds:List D}
def lN (b b':D->D->Option Rz):D->D->Option Rz:=fun x y=>match b x y with
 | some z=>some z
 | none=>b' x y
theorem RdOp.or (h:RdOp K r b) (h':RdOp K r' b'):RdOp K (fun x y H Q=>r x y H Q∨r' x y H Q) (lN b b'):=by grind [RdOp,lN]
def G2 (b b':List D->Option Rz):List D->Option Rz:=fun x=>match b x with
 | some z=>some z
 | none=>b' x
theorem RdCB.or (h:RdCB K r b) (h':RdCB K r' b'):RdCB K (fun xs H Q=>r xs H Q∨r' xs H Q) (G2 b b'):=by grind [RdCB,G2]
def G3 (g:Int->Int->D):D->D->Option Rz
 | .int i,.int j=>some (g i j,false)
 | _,_=>none
theorem rP (h:∀Y H i j,DA K Y H (gV i j) (gD i j)):RdOp K (tf gV) (G3 gD):=by
 intro Y H x y d1 d2 z Q lv b1 b2 e q;cases d1 with
 | int i =>
  cases d2 with
  | int j =>
   cases e;exact⟨i,j,b1,b2,q _ H (Same.refl H) (h Y H i j)⟩
  | _=>cases e
 | _=>cases e
def bI (C:Int->Int->Prop) [∀i j,Decidable (C i j)] (g:Int->Int->D):D->D->Option Rz
 | .int i,.int j=>if C i j then some (g i j,false) else none
 | _,_=>none
theorem B4 [dc:∀i j,Decidable (C i j)] (h:∀Y H i j,DA K Y H (gV i j) (gD i j)):RdOp K (rI C gV) (bI C gD):=by
 intro Y H x y d1 d2 z Q lv b1 b2 e q;cases d1 with
 | int i =>
  cases d2 with
  | int j =>
   obtain⟨c,e⟩:=aK e;cases e;exact⟨i,j,b1,b2,c,q _ H (Same.refl H) (h Y H i j)⟩
  | _=>cases e
 | _=>cases e
instance (i j:Int):Decidable (CMul i j):=by unfold CMul;infer_instance
instance (i j:Int):Decidable (tj i j):=by unfold tj;infer_instance
instance (i j:Int):Decidable (xv i j):=by unfold xv;infer_instance
def uV:=G3 fun i j=>.int (i+j)
def uW:=bI CMul fun i j=>.int (i*j)
def tJ:=bI tj fun i j=>.int (i / j)
def nj:=bI (fun _ j=>0<j) fun i j=>.int (i % j)
def Hz:=bI xv fun i j=>.int (i ^ j.toNat)
def HA:=G3 fun i j=>.bl (decide (i<j))
def Fe:=G3 fun i j=>.bl (decide (i<=j))
def JJ:=G3 fun i j=>.bl (decide (j<i))
def JK:=G3 fun i j=>.bl (decide (j<=i))
theorem ro_addI:RdOp K (tf fun i j=>.int (i+j)) uV:=rP fun _ _ _ _=>.int _
theorem ro_mulI:RdOp K (rI CMul fun i j=>.int (i*j)) uW:=B4 fun _ _ _ _=>.int _
theorem qf:RdOp K (rI tj fun i j=>.int (i / j)) tJ:=B4 fun _ _ _ _=>.int _
theorem iz:RdOp K (rI (fun _ j=>0<j) fun i j=>.int (i % j)) nj:=B4 fun _ _ _ _=>.int _
theorem Ff:RdOp K (rI xv fun i j=>.int (i ^ j.toNat)) Hz:=B4 fun _ _ _ _=>.int _
theorem ro_ltI:RdOp K (tf fun i j=>.bl (decide (i<j))) HA:=rP fun _ _ _ _=>.bl _
theorem DI:RdOp K (tf fun i j=>.bl (decide (i<=j))) Fe:=rP fun _ _ _ _=>.bl _
theorem HB:RdOp K (tf fun i j=>.bl (decide (j<i))) JJ:=rP fun _ _ _ _=>.bl _
theorem HD:RdOp K (tf fun i j=>.bl (decide (j<=i))) JK:=rP fun _ _ _ _=>.bl _
def j4:D->Option Rz
 | .int i=>some (.int (-i),false)
 | _=>none
theorem kS:Hu K (rU fun i=>.int (-i)) j4:=by
 intro Y H x d1 z Q lv b1 e q;cases d1 with
 | int i=>cases e;exact⟨i,b1,q _ H (Same.refl H) (.int _)⟩
 | _=>cases e
def G4:D->Option V
 | .non=>some .non
 | .bl b=>some (.bl b)
 | .int i=>some (.int i)
 | .str x=>some (.str x)
 | _=>none
theorem kT (h:BA K Y H v d) (e:G4 d=some w):v=w:=by
 cases d with
 | non=>cases e;exact h
 | bl b=>cases e;exact h
 | int i=>cases e;exact h
 | str x=>cases e;exact h
 | _=>cases e
theorem rQ (e:G4 d=some w):i9 w=true:=by
 cases d with
 | non=>cases e;rfl
 | bl b=>cases e;rfl
 | int i=>cases e;rfl
 | str x=>cases e;rfl
 | _=>cases e
def B5 (neg:Bool):D->D->Option Rz:=fun a b=>(G4 a).bind fun x=>(G4 b).bind fun y=>if EB x y=true then some (.bl (if neg then !decide (x=y) else decide (x=y)),false) else none
theorem Fg:RdOp K Jj (B5 false):=by
 intro Y H x y d1 d2 z Q lv b1 b2 e q;refine bx e fun x' e1 e=>?_;refine bx e fun y' e2 e=>?_;obtain⟨c,e⟩:=aK e;cases e;obtain rfl:=kT b1 e1;obtain rfl:=kT b2 e2;exact⟨c,q _ H (Same.refl H) (.bl _)⟩
theorem ro_neS:RdOp K Jk (B5 true):=by
 intro Y H x y d1 d2 z Q lv b1 b2 e q;refine bx e fun x' e1 e=>?_;refine bx e fun y' e2 e=>?_;obtain⟨c,e⟩:=aK e;cases e;obtain rfl:=kT b1 e1;obtain rfl:=kT b2 e2;exact⟨c,q _ H (Same.refl H) (.bl _)⟩
def D.isN:D->Bool
 | .non=>true
 | _=>false
theorem Fi (h:BA K Y H v d):decide (v=.non)=d.isN:=by
 cases d with
 | non=>rw[show v=V.non from h];rfl
 | bl b=>rw[show v=V.bl b from h];rfl
 | int i=>rw[show v=V.int i from h];rfl
 | str x=>rw[show v=V.str x from h];rfl
 | ty x=>rw[show v=V.ty x from h];rfl
 | tup ds=>obtain⟨a,_,rfl,_⟩:=h;rfl
 | lst ds=>obtain⟨a,_,rfl,_⟩:=h;rfl
 | fl ds=>obtain⟨a,_,rfl,_⟩:=h;rfl
 | dk ds=>obtain⟨a,_,rfl,_⟩:=h;rfl
 | dt ds=>obtain⟨a,_,_,rfl,_⟩:=h;rfl
 | xc _ _ _=>obtain⟨a,rfl,_⟩:=h;rfl
def Fj (neg:Bool):D->D->Option Rz
 | a,.non=>some (.bl (if neg then !a.isN else a.isN),false)
 | _,_=>none
theorem x9:RdOp K (fun x y H Q=>y=.non/\Q (.bl (decide (x=.non))) H) (Fj false):=by
 intro Y H x y d1 d2 z Q lv b1 b2 e q;cases d2 with
 | non =>
  cases e;refine⟨b2,?_⟩;rw[Fi b1];exact q _ H (Same.refl H) (.bl _)
 | _=>cases e
def uX:D->D->Option Rz
 | .str a,.str b=>if a.length+b.length<=1000000 then some (.str (a++b),false) else none
 | _,_=>none
theorem ro_addS:RdOp K (fun x y H Q=>∃i j,x=.str i/\y=.str j/\i.length+j.length<=sizeLine/\Q (.str (i++j)) H) uX:=by
 intro Y H x y d1 d2 z Q lv b1 b2 e q;cases d1 with
 | str a =>
  cases d2 with
  | str b =>
   obtain⟨c,e⟩:=aK e;cases e;exact⟨a,b,b1,b2,lL c,q _ H (Same.refl H) (.str _)⟩
  | _=>cases e
 | _=>cases e
theorem iV (el:El K Y H vs ds) (hp:H p=none):RES K Y H (upd H p (.lst vs)) (.ref p) (.lst ds,true) :=
 ⟨p,rfl,hp,vs,aq,el.away (be hp _) hp⟩
theorem iA (el:El K Y H vs ds) (hp:H p=none) (lv:∀p,Y p->Lv H p):RES K Y H (upd H p (.tup vs)) (.ref p) (.tup ds,false) :=
 .tup ⟨aq,fun z=>(lv p z).1 hp⟩ el.1 (el.same (be hp _)).2
def B6:D->D->Option Rz
 | .lst a,.lst b=>if a.length+b.length<=1000000 then some (.lst (a++b),true) else none
 | _,_=>none
theorem ro_cat:RdOp K EQ B6:=by
 intro Y H x y d1 d2 z Q lv b1 b2 e q;cases d1 with
 | lst a =>
  cases d2 with
  | lst b =>
   obtain⟨c,e⟩:=aK e;cases e;obtain⟨p,xs,rfl,hp,el⟩:=b1;obtain⟨p2,ys,rfl,hp2,el2⟩:=b2;exact⟨p,p2,xs,ys,rfl,rfl,hp,hp2,by rw[el.1,el2.1];exact lL c,fun r hr=>q _ _ (be hr _) (iV (el.app el2) hr)⟩
  | _=>cases e
 | _=>cases e
def DJ:D->D->Option Rz
 | .tup (x::a),.tup (y::b)=>if a.length+b.length<=999998 then some (.tup ((x::a)++(y::b)),false) else none
 | .tup (x::a),.tup []=>if a.length<=999998 then some (.tup (x::a),false) else none
 | _,_=>none
theorem B7:RdOp K (xI K) DJ:=by
 intro Y H x y d1 d2 z Q lv b1 b2 e q;cases d1 with
 | tup a =>
  cases a with
  | nil=>cases e
  | cons a0 a =>
  cases d2 with
  | tup b =>
   obtain⟨p,xs,rfl,hp,el⟩:=b1;obtain⟨p2,ys,rfl,hp2,el2⟩:=b2;have hx:xs≠[]:=fun z=>by have:=el.1;rw[z]at this;cases this
   cases b with
   | nil =>
    obtain⟨c,e⟩:=aK e;cases e;obtain rfl:=el2.unnil;exact⟨p,p2,xs,[],rfl,rfl,hp.sq,hp2.sq,hx,by rw[el.1];exact lL (by simp;lia),fun _=>q _ H (Same.refl H) (.tup hp el.1 el.2),fun z=>absurd rfl z⟩
   | cons b0 b =>
    obtain⟨c,e⟩:=aK e;cases e;have hy:ys≠[]:=fun z=>by have:=el2.1;rw[z]at this;cases this
    exact⟨p,p2,xs,ys,rfl,rfl,hp.sq,hp2.sq,hx,by rw[el.1,el2.1];exact lL (by simp;lia),fun z=>absurd z hy,fun _ r hr=>q _ _ (be hr _) (iA (el.app el2) hr lv)⟩
  | _=>cases e
 | _=>cases e
def cP:=lN uV (lN uX (lN B6 DJ))
def ya:D->D->Option Rz
 | .str a,.int n=>if 0<=n/\n<=1000/\a.length<=1000 then some (.str (Txt.mul a n),false) else none
 | _,_=>none
theorem B8:RdOp K (fun x y H Q=>∃(a:Str) (n:Int),x=.str a/\y=.int n/\MulOk a n/\Q (.str (Txt.mul a n)) H) ya:=by
 intro Y H x y d1 d2 z Q lv b1 b2 e q;cases d1 with
 | str a =>
  cases d2 with
  | int n =>
   obtain⟨c,e⟩:=aK e;cases e;exact⟨a,n,b1,b2,mulOk_of c.1 c.2.1 c.2.2,q _ H (Same.refl H) (.str _)⟩
  | _=>cases e
 | _=>cases e
def mi:=lN uW ya
def HE:D->D->Option Rz
 | .str a,.str b=>some (.bl (decide (a.cps.toList<b.cps.toList)),false)
 | _,_=>none
theorem Fk:RdOp K (fun x y H Q=>∃i j,x=.str i/\y=.str j/\Q (.bl (decide (i.cps.toList<j.cps.toList))) H) HE:=by
 intro Y H x y d1 d2 z Q lv b1 b2 e q;cases d1 with
 | str a =>
  cases d2 with
  | str b=>cases e;exact⟨a,b,b1,b2,q _ H (Same.refl H) (.bl _)⟩
  | _=>cases e
 | _=>cases e
def G5:=lN HA HE
def rR (neg:Bool):D->D->Option Rz
 | .str a,.str b=>some (.bl (if neg then !(!(Builtin.Str.occurrences b a 0 b.length 1).isEmpty) else !(Builtin.Str.occurrences b a 0 b.length 1).isEmpty),false)
 | _,_=>none
theorem ro_inS:RdOp K (fun x y H Q=>∃i j,x=.str i/\y=.str j/\Q (.bl (!(Builtin.Str.occurrences j i 0 j.length 1).isEmpty)) H) (rR false):=by
 intro Y H x y d1 d2 z Q lv b1 b2 e q;cases d1 with
 | str a =>
  cases d2 with
  | str b=>cases e;exact⟨a,b,b1,b2,q _ H (Same.refl H) (.bl _)⟩
  | _=>cases e
 | _=>cases e
theorem ro_notinS:RdOp K (fun x y H Q=>∃i j,x=.str i/\y=.str j/\Q (.bl (!(!(Builtin.Str.occurrences j i 0 j.length 1).isEmpty))) H) (rR true):=by
 intro Y H x y d1 d2 z Q lv b1 b2 e q;cases d1 with
 | str a =>
  cases d2 with
  | str b=>cases e;exact⟨a,b,b1,b2,q _ H (Same.refl H) (.bl _)⟩
  | _=>cases e
 | _=>cases e
def lO:List D->Option (List V)
 | []=>some []
 | d::r=>(G4 d).bind fun v=>(lO r).bind fun vs=>some (v::vs)
theorem rS:∀{ds:List D} {vs ws:List V},El K Y H vs ds->lO ds=some ws->vs=ws/\ws.all i9=true
 | [],vs,ws,el,e=>by cases e;exact⟨el.unnil,rfl⟩
 | d::r,vs,ws,el,e=>by
  refine bx e fun w e1 e=>?_;refine bx e fun ws' e2 e=>?_;cases e;obtain⟨v,t,rfl,da,el⟩:=el.uncons;obtain⟨rfl,h⟩:=rS el e2;have hv:=kT da.ba e1;subst hv;exact⟨rfl,by rw[Vn,rQ e1,h];rfl⟩
def D.seq:D->Option (List D)
 | .lst ds=>some ds
 | .tup ds=>some ds
 | .fl ds=>some ds
 | _=>none
theorem tK (h:BA K Y H v d) (e:d.seq=some ds):∃a vs,v=.ref a/\(hJ K H a vs∨kJ K H a vs)/\El K Y H vs ds:=by
 cases d with
 | lst _=>cases e;obtain⟨a,vs,h1,h2,h3⟩:=h;exact⟨a,vs,h1,.inl (.inl (.inl h2)),h3⟩
 | tup _=>cases e;obtain⟨a,vs,h1,h2,h3⟩:=h;exact⟨a,vs,h1,.inr h2.sq,h3⟩
 | fl _=>cases e;obtain⟨a,vs,h1,h2,h3⟩:=h;exact⟨a,vs,h1,.inl h2.sq,h3⟩
 | _=>cases e
def qg (neg:Bool):D->D->Option Rz:=fun a b=>(G4 a).bind fun x=>(b.seq).bind fun ds=>(lO ds).bind fun ws=>some (.bl (if neg then !wf x ws else wf x ws),false)
theorem yb (neg:Bool):RdOp K (Ho K neg) (qg neg):=by
 intro Y H x y d1 d2 z Q lv b1 b2 e q;refine bx e fun x' e1 e=>?_;refine bx e fun ds e2 e=>?_;refine bx e fun ws e3 e=>?_;cases e;obtain⟨a,vs,rfl,sq,el⟩:=tK b2 e2;obtain rfl:=kT b1 e1;obtain⟨rfl,h⟩:=rS el e3;exact⟨a,vs,rfl,sq,rQ e1,h,q _ H (Same.refl H) (.bl _)⟩
def wx:=lN (rR false) (qg false)
def jt:=lN (rR true) (qg true)
def yc:D->D->Option Rz
 | .lst ds,.int i=>(i8 ds i).bind fun d=>some (d,false)
 | .fl ds,.int i=>(i8 ds i).bind fun d=>some (d,false)
 | _,_=>none
def B9:D->D->Option Rz
 | .tup ds,.int i=>(i8 ds i).bind fun d=>some (d,false)
 | _,_=>none
def Fm:D->D->Option Rz
 | .str z,.int i=>if z.length<=1000000 then(i8 z.cps.toList i).bind fun c=>some (.str ⟨#[c]⟩,false) else none
 | _,_=>none
theorem tL (el:El K Y H vs ds) (e:i8 ds i=some d):∃v,i8 vs i=some v/\DA K Y H v d:=by
 unfold i8 at e ⊢;rw[el.1];refine bx e fun j e1 e2=>?_;obtain⟨v,h1,h2⟩:=el.at e2;exact⟨v,by rw[e1];exact h1,h2⟩
theorem ro_ixL:RdOp K (EI K) yc:=by
 intro Y H x y d1 d2 z Q lv b1 b2 e q;cases d1 with
 | lst a =>
  cases d2 with
  | int i =>
   refine bx e fun d e1 e=>?_;cases e;obtain⟨p,xs,rfl,hp,el⟩:=b1;obtain⟨v,h1,h2⟩:=tL el e1;exact⟨p,xs,i,v,rfl,b2,.inl (.inl hp),h1,q v H (Same.refl H) h2⟩
  | _=>cases e
 | fl a =>
  cases d2 with
  | int i =>
   refine bx e fun d e1 e=>?_;cases e;obtain⟨p,xs,rfl,hp,el⟩:=b1;obtain⟨v,h1,h2⟩:=tL el e1;exact⟨p,xs,i,v,rfl,b2,hp.sq,h1,q v H (Same.refl H) h2⟩
  | _=>cases e
 | _=>cases e
theorem ro_ixT:RdOp K (EJ K) B9:=by
 intro Y H x y d1 d2 z Q lv b1 b2 e q;cases d1 with
 | tup a =>
  cases d2 with
  | int i =>
   refine bx e fun d e1 e=>?_;cases e;obtain⟨p,xs,rfl,hp,el⟩:=b1;obtain⟨v,h1,h2⟩:=tL el e1;exact⟨p,xs,i,v,rfl,b2,hp.sq,h1,q v H (Same.refl H) h2⟩
  | _=>cases e
 | _=>cases e
theorem Fo:RdOp K EK Fm:=by
 intro Y H x y d1 d2 z Q lv b1 b2 e q;cases d1 with
 | str a =>
  cases d2 with
  | int i =>
   obtain⟨c,e⟩:=aK e;refine bx e fun ch e1 e=>?_;cases e;exact⟨a,i,ch,b1,b2,lL c,e1,q _ H (Same.refl H) (.str _)⟩
  | _=>cases e
 | _=>cases e
def cM:=lN yc (lN B9 Fm)
theorem bz:RdOp K (IU K) cM:=ro_ixL.or (ro_ixT.or Fo)
abbrev FO:=En->Option (Option Int×En)
def IX (K:PySem.W.Frag) (t:TO) (f:FO):Prop:=∀(st:En) (σ:St) (H:Hp) (O Z:AS) (Q:Option Int->Hp->Prop),ER K st σ H O Z->∀c st',f st=some (c,st') ->
 (∀H' O',Ext O H O' H'->Kp st st'->ER K st' σ H' O' Z->Q c H')->t σ H Q
def Fp:FO:=fun st=>some (none,st)
theorem qh:IX K uK Fp:=by
 intro st σ H O Z Q E c st' e q;cases e;exact q H O (Ext.refl _ _) (Kp.refl _) E
def asInt (st:En) (r:Rs):Option Int:=match cont st r with
 | some (.int i)=>some i
 | _=>none
def gw (fe:FE):FO:=fun st=>(fe st).bind fun x=>(asInt x.2 x.1).bind fun i=>some (some i,x.2)
theorem d8 (h:cT K te fe):IX K (Dy te) (gw fe):=by
 intro st σ H O Z Q E c st' e q;refine cx e fun r st1 e1 e=>?_;refine bx e fun i e2 e=>?_;cases e;refine h st σ H O Z _ E r _ e1 fun v H1 O1 x1 k1 E1 rv w=>?_;have ev:v=.int i:=by
  unfold asInt at e2;split at e2
  ·rename_i j ej
   cases e2;exact rv.ba E1 ej
  ·cases e2
 exact⟨i,ev,q H1 O1 x1 k1 E1⟩
def RdSl (K:PySem.W.Frag) (r:V->Option Int->Option Int->Hp->VK->Prop) (b:D->Option Int->Option Int->Option Rz):Prop:=∀(Y:AS) (H:Hp) (x:V) (lo hi:Option Int) (d1:D) (z:Rz) (Q:VK),(∀p,Y p->Lv H p)->BA K Y H x d1->b d1 lo hi=some z ->
 (∀v H',Same H H'->RES K Y H H' v z->Q v H')->r x lo hi H Q
def w9 (b:D->Option Int->Option Int->Option Rz) (fe:FE) (fl fh:FO):FE:=fun st=>(fe st).bind fun x=>(fl x.2).bind fun l=>(fh l.2).bind fun u=>(cont u.2 x.1).bind fun d=>(b d l.1 u.1).bind fun z=>some (mk z,u.2)
theorem gx (hr:RdSl K r b) (he:cT K te fe) (hl:IX K tl fl) (hh:IX K th fh):cT K (JH r te tl th) (w9 b fe fl fh):=by
 intro st σ H O Z Q E r' st' h q;refine cx h fun r1 st1 e1 h=>?_;refine cx h fun lo st2 e2 h=>?_;refine cx h fun hi st3 e3 h=>?_;refine bx h fun d1 e4 h=>?_;refine bx h fun z e5 h=>?_;cases h;refine he st σ H O Z _ E r1 st1 e1 fun v1 H1 O1 x1 k1 E1 rv1 w1=>?_;refine hl st1 σ H1 O1 Z _ E1 lo st2 e2 fun H2 O2 x2 k2 E2=>?_;refine hh st2 σ H2 O2 Z _ E2 hi _ e3 fun H3 O3 x3 k3 E3=>?_;have b1:=(rv1.nf.ext (x2.trans x3) (k2.trans k3)).ba E3 (by rw[fX];exact e4)
 refine hr (U O3 Z) H3 v1 lo hi d1 z _ E3.liv b1 e5 fun v H4 s hres=>?_;obtain⟨E4,rv4⟩:=hres.rv E3 s;have xx:=(x1.trans x2).trans x3;exact q v H4 O3 (xx.trans (Same.ext s)) ((k1.trans k2).trans k3) E4 rv4 (hres.fsh.back xx)
def cutD (xs:List D) (lo hi:Option Int):List D:=(xs.drop (HT.sIx xs.length 0 lo)).take (HT.sIx xs.length xs.length hi-HT.sIx xs.length 0 lo)
theorem El.cut (el:El K Y H vs ds) (lo hi:Option Int):El K Y H (rF vs lo hi) (cutD ds lo hi):=by
 unfold rF cutD;rw[el.1];exact(el.drop _).take _
def G6 (b b':D->Option Int->Option Int->Option Rz):D->Option Int->Option Int->Option Rz:=fun x l h=>match b x l h with
 | some z=>some z
 | none=>b' x l h
theorem RdSl.or (h:RdSl K r b) (h':RdSl K r' b'):RdSl K (fun x lo hi H Q=>r x lo hi H Q∨r' x lo hi H Q) (G6 b b'):=by grind [RdSl,G6]
def Fq:D->Option Int->Option Int->Option Rz
 | .lst ds,lo,hi=>some (.lst (cutD ds lo hi),true)
 | .fl ds,lo,hi=>some (.lst (cutD ds lo hi),true)
 | _,_,_=>none
theorem HF:RdSl K (EM K) Fq:=by
 intro Y H x lo hi d1 z Q lv b1 e q;cases d1 with
 | lst a =>
  cases e;obtain⟨p,xs,rfl,hp,el⟩:=b1;exact⟨p,xs,rfl,.inl (.inl hp),fun r hr=>q _ _ (be hr _) (iV (el.cut lo hi) hr)⟩
 | fl a =>
  cases e;obtain⟨p,xs,rfl,hp,el⟩:=b1;exact⟨p,xs,rfl,hp.sq,fun r hr=>q _ _ (be hr _) (iV (el.cut lo hi) hr)⟩
 | _=>cases e
def yd:D->Option Int->Option Int->Option Rz
 | .tup ds,lo,hi=>if HT.sIx ds.length 0 lo=0/\HT.sIx ds.length ds.length hi=ds.length then none else some (.tup (cutD ds lo hi),false)
 | _,_,_=>none
theorem HG:RdSl K (EG K) yd:=by
 intro Y H x lo hi d1 z Q lv b1 e q;cases d1 with
 | tup a =>
  by_cases c:HT.sIx a.length 0 lo=0/\HT.sIx a.length a.length hi=a.length
  ·simp only[yd,Ad c]at e;cases e
  ·simp only[yd,Ag c]at e;cases e;obtain⟨p,xs,rfl,hp,el⟩:=b1;exact⟨p,xs,rfl,hp.sq,by rw[el.1];exact c,fun r hr=>q _ _ (be hr _) (iA (el.cut lo hi) hr lv)⟩
 | _=>cases e
def Fr:D->Option Int->Option Int->Option Rz
 | .str z,lo,hi=>if z.length<=1000000 then some (.str (Txt.slice z lo hi),false) else none
 | _,_,_=>none
theorem HH:RdSl K (fun x lo hi H Q=>∃z:Str,x=.str z/\z.length<=sizeLine/\Q (.str (Txt.slice z lo hi)) H) Fr:=by
 intro Y H x lo hi d1 z Q lv b1 e q;cases d1 with
 | str a =>
  obtain⟨c,e⟩:=aK e;cases e;exact⟨a,b1,lL c,q _ H (Same.refl H) (.str _)⟩
 | _=>cases e
def zV:=G6 Fq (G6 yd Fr)
def ye:List D->Option Rz
 | [d]=>(d.seq).bind fun ds=>some (.int ds.length,false)
 | _=>none
theorem rc_lenQ:RdCB K (fun xs H Q=>∃p ys,xs=[.ref p]/\(hJ K H p ys∨kJ K H p ys)/\Q (.int ys.length) H) ye:=by
 intro Y H xs ds z Q lv bs e q;cases bs with
 | nil=>cases e
 | cons b1 bs =>
  cases bs with
  | cons _ _=>cases e
  | nil =>
   refine bx e fun es e1 e=>?_;cases e;obtain⟨a,vs,rfl,sq,el⟩:=tK b1 e1;refine⟨a,vs,rfl,sq,?_⟩;rw[el.1];exact q _ H (Same.refl H) (.int _)
def yf:List D->Option Rz
 | [.str z]=>if z.length<=1000000 then some (.int z.length,false) else none
 | _=>none
theorem Ca:RdCB K (fun xs H Q=>∃z:Str,xs=[.str z]/\z.length<=sizeLine/\Q (.int z.length) H) yf:=by
 intro Y H xs ds z Q lv bs e q;cases bs with
 | nil=>cases e
 | @cons v vs d ds b1 bs =>
  cases bs with
  | cons _ _=>cases d<;>cases e
  | nil =>
   cases d with
   | str a =>
    obtain⟨c,e⟩:=aK e;cases e;exact⟨a,by rw[show v=V.str a from b1],lL c,q _ H (Same.refl H) (.int _)⟩
   | _=>cases e
def fT:=G2 ye yf
def DK:List D->Option Rz
 | [d]=>(d.seq).bind fun ds=>some (.lst ds,true)
 | _=>none
theorem rc_list:RdCB K (fun xs H Q=>∃p ys,xs=[.ref p]/\(hJ K H p ys∨kJ K H p ys)/\∀l,H l=none->Q (.ref l) (upd H l (.lst ys))) DK:=by
 intro Y H xs ds z Q lv bs e q;cases bs with
 | nil=>cases e
 | cons b1 bs =>
  cases bs with
  | cons _ _=>cases e
  | nil =>
   refine bx e fun es e1 e=>?_;cases e;obtain⟨a,vs,rfl,sq,el⟩:=tK b1 e1;exact⟨a,vs,rfl,sq,fun r hr=>q _ _ (be hr _) (iV el hr)⟩
def yg:List D->Option Rz
 | [.lst ds]=>some (.tup ds,false)
 | [.fl ds]=>some (.tup ds,false)
 | [.tup ds]=>some (.tup ds,false)
 | _=>none
theorem rc_tuple:RdCB K (fun xs H Q=>∃p ys,xs=[.ref p]/\((hJ K H p ys/\∀l,H l=none->Q (.ref l) (upd H l (.tup ys)))∨(kJ K H p ys/\Q (.ref p) H))) yg:=by
 intro Y H xs ds z Q lv bs e q;cases bs with
 | nil=>cases e
 | @cons v vs d ds b1 bs =>
  cases bs with
  | cons _ _=>cases d<;>cases e
  | nil =>
   cases d with
   | lst a =>
    cases e;obtain⟨p,xs,rfl,hp,el⟩:=b1;exact⟨p,xs,rfl,.inl ⟨.inl (.inl hp),fun r hr=>q _ _ (be hr _) (iA el hr lv)⟩⟩
   | fl a =>
    cases e;obtain⟨p,xs,rfl,hp,el⟩:=b1;exact⟨p,xs,rfl,.inl ⟨hp.sq,fun r hr=>q _ _ (be hr _) (iA el hr lv)⟩⟩
   | tup a =>
    cases e;obtain⟨p,xs,rfl,hp,el⟩:=b1;exact⟨p,xs,rfl,.inr ⟨hp.sq,q _ H (Same.refl H) (.tup hp el.1 el.2)⟩⟩
   | _=>cases e
def j5:List D->Option (List Bool)
 | []=>some []
 | .bl b::r=>(j5 r).bind fun bs=>some (b::bs)
 | _=>none
theorem rT:∀{ds:List D} {vs:List V} {bs:List Bool},El K Y H vs ds->j5 ds=some bs->vs=bs.map V.bl
 | [],vs,bs,el,e=>by cases e;exact el.unnil
 | d::r,vs,bs,el,e=>by
  obtain⟨v,t,rfl,da,el2⟩:=el.uncons;cases d with
  | bl b =>
   refine bx e fun bs' e1 e=>?_;cases e;have h:=rT el2 e1;rw[h,show v=V.bl b from da.ba];rfl
  | _=>cases e
def tM:List D->Option Rz
 | [.lst ds]=>(j5 ds).bind fun bs=>some (.bl (bs.all id),false)
 | _=>none
theorem tN:RdCB K (fun xs H Q=>∃(p:Addr) (bs:List Bool),xs=[.ref p]/\hJ K H p (bs.map V.bl)/\Q (.bl (bs.all id)) H) tM:=by
 intro Y H xs ds z Q lv bs e q;cases bs with
 | nil=>cases e
 | @cons v vs d ds b1 bs =>
  cases bs with
  | cons _ _=>cases d<;>cases e
  | nil =>
   cases d with
   | lst a =>
    refine bx e fun bs e1 e=>?_;cases e;obtain⟨p,xs,rfl,hp,el⟩:=b1;obtain rfl:=rT el e1;exact⟨p,bs,rfl,.inl (.inl hp),q _ H (Same.refl H) (.bl _)⟩
   | _=>cases e
def yh (K:PySem.W.Frag) (r:V->List V->Hp->VK->Prop) (b:D->List D->Option Rz):Prop:=∀(Y:AS) (H:Hp) (x:V) (xs:List V) (d:D) (ds:List D) (z:Rz) (Q:VK),(∀p,Y p->Lv H p)->BA K Y H x d->BAs K Y H xs ds->b d ds=some z ->
 (∀v H',Same H H'->RES K Y H H' v z->Q v H')->r x xs H Q
def Fs (T:String):D->Bool
 | .str _=>decide (T="str")
 | .lst _=>decide (T="list")
 | .dk _=>decide (T="dict")
 | .dt _=>decide (T="dict")
 | _=>false
theorem HI (h:BA K Y H v d) (e:Fs T d=true):Hq K T v H:=by
 cases d with
 | str x =>
  have e':T="str":=Ap e;rw[show v=V.str x from h];exact e'
 | lst x=>obtain⟨a,vs,rfl,h1,_⟩:=h;exact .inl ⟨Ap e,vs,.inl (.inl h1)⟩
 | dk x=>obtain⟨a,vs,rfl,h1,_⟩:=h;exact .inr (.inr (.inl ⟨Ap e,.inl ⟨vs,h1⟩⟩))
 | dt x=>obtain⟨a,ep,vs,rfl,_,h1,_⟩:=h;exact .inr (.inr (.inl ⟨Ap e,.inr ⟨ep,vs,h1⟩⟩))
 | _=>cases e
def yi (T:String) (b:D->List D->Option Rz) (fo:FE) (fa:FA):FE:=fun st=>(fo st).bind fun x=>(cont x.2 x.1).bind fun d0=>if Fs T d0=true then(fa x.2).bind fun y=>(cont y.2 x.1).bind fun d=>(di y.2 y.1).bind fun ds=>(b d ds).bind fun z=>some (mk z,y.2) else none
theorem oX (hr:yh K r b) (ho:cT K to fo) (ha:oq K ta fa):cT K (IV K T r to ta) (yi T b fo fa):=by
 intro st σ H O Z Q E r' st' h q;refine cx h fun r1 st1 e1 h=>?_;refine bx h fun d0 e2 h=>?_;obtain⟨c,h⟩:=aK h;refine cx h fun rs st2 e3 h=>?_;refine bx h fun d e4 h=>?_;refine bx h fun ds e5 h=>?_;refine bx h fun z e6 h=>?_;cases h;refine ho st σ H O Z _ E r1 st1 e1 fun v1 H1 O1 x1 k1 E1 rv1 w1=>⟨HI (rv1.ba E1 e2) c,?_⟩;refine ha st1 σ H1 O1 Z _ E1 rs _ e3 fun vs H2 O2 x2 k2 E2 rvs=>?_;have b1:=(rv1.nf.ext x2 k2).ba E2 (by rw[fX];exact e4)
 refine hr (U O2 Z) H2 v1 vs d ds z _ E2.liv b1 (rvs.bas E2 e5) e6 fun v H3 s hres=>?_;obtain⟨E3,rv3⟩:=hres.rv E2 s;exact q v H3 O2 ((x1.trans x2).trans (Same.ext s)) (k1.trans k2) E3 rv3 (hres.fsh.back (x1.trans x2))
def kU:List D->Option (List Str)
 | []=>some []
 | .str x::r=>(kU r).bind fun xs=>some (x::xs)
 | _=>none
theorem oY:∀{ds:List D} {vs:List V} {xs:List Str},El K Y H vs ds->kU ds=some xs->vs=xs.map V.str
 | [],vs,xs,el,e=>by cases e;exact el.unnil
 | d::r,vs,xs,el,e=>by
  obtain⟨v,t,rfl,da,el2⟩:=el.uncons;cases d with
  | str b =>
   refine bx e fun xs' e1 e=>?_;cases e;have h:=oY el2 e1;rw[h,show v=V.str b from da.ba];rfl
  | _=>cases e
def yj:D->List D->Option Rz
 | .str sep,[.lst ds]=>(kU ds).bind fun ys=>if (ys.map (·.length)).sum+ys.length*sep.length<=16777216 then some (.str (Txt.join sep ys),false) else none
 | _,_=>none
theorem Cb:yh K (fun x vs H Q=>∃(sep:Str) (p:Addr) (ys:List Str),x=.str sep/\vs=[.ref p]/\hJ K H p (ys.map V.str)/\(ys.map (·.length)).sum+ys.length*sep.length<=16777216/\Q (.str (Txt.join sep ys)) H) yj:=by
 intro Y H x xs d ds z Q lv b1 bs e q;cases d with
 | str sep =>
  cases bs with
  | nil=>cases e
  | @cons v vs d ds b2 bs =>
   cases bs with
   | cons _ _=>cases d<;>cases e
   | nil =>
    cases d with
    | lst es =>
     refine bx e fun ys e1 e=>?_;obtain⟨c,e⟩:=aK e;cases e;obtain⟨p,ws,rfl,hp,el⟩:=b2;obtain rfl:=oY el e1;exact⟨sep,p,ys,b1,rfl,.inl (.inl hp),c,q _ H (Same.refl H) (.str _)⟩
    | _=>cases e
 | _=>cases e
def uY:D->List D->Option Rz
 | .str a,[.str b]=>some (.bl (Txt.startswith a b),false)
 | _,_=>none
theorem wy:yh K (fun x vs H Q=>∃(a b:Str),x=.str a/\vs=[.str b]/\Q (.bl (Txt.startswith a b)) H) uY:=by
 intro Y H x xs d ds z Q lv b1 bs e q;cases d with
 | str a =>
  cases bs with
  | nil=>cases e
  | @cons v vs d ds b2 bs =>
   cases bs with
   | cons _ _=>cases d<;>cases e
   | nil =>
    cases d with
    | str b=>cases e;exact⟨a,b,b1,by rw[show v=V.str b from b2],q _ H (Same.refl H) (.bl _)⟩
    | _=>cases e
 | _=>cases e
def mH:D->Bool
 | .lst _=>true
 | _=>false
theorem IY (h:OA K Y H p x) (e:mH x=true):Hq K "list" (.ref p) H:=by
 cases x with
 | lst ds=>obtain⟨vs,h1,_⟩:=h;exact .inl ⟨rfl,vs,.inl (.inl h1)⟩
 | _=>cases e
theorem El.upd (h:El K Y H vs ds) (hp:Y p):El K Y (L2.upd H p o) vs ds:=h.go (fun b u e n=>by
 have hb:b≠p:=fun z=>n (by rw[z];exact hp)
 rw[ag hb];exact e) fun b z=>.inl z
theorem DA.upd (h:DA K Y H v d) (hp:Y p):DA K Y (L2.upd H p o) v d:=h.go (fun b u e n=>by
 have hb:b≠p:=fun z=>n (by rw[z];exact hp)
 rw[ag hb];exact e) fun b z=>.inl z
def cj:D->List D->Option (D×D)
 | .lst xs,[y]=>if xs.length<1000000 then some (.non,.lst (xs++[y])) else none
 | _,_=>none
theorem cw:RdM K "list" p6 mH cj:=⟨fun Y H p x h e=>IY h e,fun Y H p x vs ds y x' Q hp ho el e q=>by
 cases x with
 | lst xs =>
  cases ds with
  | nil=>cases e
  | cons d ds =>
   cases ds with
   | cons _ _=>cases e
   | nil =>
    obtain⟨c,e⟩:=aK e;cases e;obtain⟨ws,h1,h2⟩:=ho;obtain⟨v,r,rfl,da,el⟩:=el.uncons;obtain rfl:=el.unnil;exact⟨p,ws,v,rfl,rfl,h1,by rw[h2.1];exact lL (by lia),q .non _ .non ⟨_,aq,(h2.app (El.one da)).upd hp⟩⟩
 | _=>cases e⟩
def qi:D->List D->Option (D×D)
 | .lst xs,[.int i]=>if -(2 ^ 63)<=i/\i<2 ^ 63 then(seqIndex? i xs.length).bind fun k=>(xs[k]?).bind fun y=>some (y,.lst (xs.eraseIdx k)) else none
 | _,_=>none
theorem yk:RdM K "list" xM mH qi:=⟨fun Y H p x h e=>IY h e,fun Y H p x vs ds y x' Q hp ho el e q=>by
 cases x with
 | lst xs =>
  cases ds with
  | nil=>cases e
  | cons d ds =>
   cases d with
   | int i =>
    cases ds with
    | cons _ _=>cases e
    | nil =>
     obtain⟨c,e⟩:=aK e;refine bx e fun k e1 e=>?_;refine bx e fun y' e2 e=>?_;cases e;obtain⟨ws,h1,h2⟩:=ho;obtain⟨v,r,rfl,da,el⟩:=el.uncons;obtain rfl:=el.unnil;obtain rfl:=(show v=V.int i from da.ba);obtain⟨u,g1,g2⟩:=h2.at e2;exact⟨p,ws,i,k,u,rfl,rfl,h1,c.1,c.2,by rw[h2.1];exact e1,g1,q u _ (g2.upd hp) ⟨_,aq,(h2.erase k).upd hp⟩⟩
   | _=>cases ds<;>cases e
 | _=>cases e⟩
def nk:D->D->D->Option D
 | .lst xs,.int k,v=>(xJ xs.length k).bind fun j=>some (.lst (xs.set j v))
 | _,_,_=>none
theorem fw:xX K DB nk:=by
 intro Y H p x k v dk dv x' Q hp ho bk da e q;cases x with
 | lst xs =>
  cases dk with
  | int i =>
   refine bx e fun j e1 e=>?_;cases e;obtain⟨ws,h1,h2⟩:=ho;exact⟨p,ws,i,j,rfl,bk,h1,by rw[h2.1];exact e1,q _ ⟨_,aq,(h2.set da j).upd hp⟩⟩
  | _=>cases e
 | _=>cases e
def fF (xs:List Str):FA:=fun st=>some (xs.map fun x=>.d (.str x),st)
theorem eV:oq K (DD xs) (fF xs):=by
 intro st σ H O Z Q E rs st' e q;cases e;refine q _ H O (Ext.refl _ _) (Kp.refl _) E ?_;clear q;induction xs with
 | nil=>exact .nil
 | cons x r ih=>exact .cons (show DA K _ H (.str x) (.str x) from .str x) ih
end
end VF
namespace VF
open PySem PySem.Spec PyProof.Rows L2
section
variable {X:Cx} {K:PySem.W.Frag} {Y:AS} {H:Hp} {v:V} {d:D} {vs:List V} {ds:List D}
def uZ (K:PySem.W.Frag):R2:=fun x y H Q=>(tf fun i j=>.int (i+j)) x y H Q∨((∃i j,x=.str i/\y=.str j/\i.length+j.length<=sizeLine/\Q (.str (i++j)) H)∨(EQ x y H Q∨xI K x y H Q))
theorem u0 (h:X.K=K):OpR X (binaryOp .Add) (uZ K):=op_add.or (op_add_str.or (op_cat.or (h ▸ BU)))
theorem ro_addA:RdOp K (uZ K) cP:=ro_addI.or (ro_addS.or (ro_cat.or B7))
def DL:R2:=fun x y H Q=>(rI CMul fun i j=>.int (i*j)) x y H Q∨(∃(a:Str) (n:Int),x=.str a/\y=.int n/\MulOk a n/\Q (.str (Txt.mul a n)) H)
theorem j6:OpR X (binaryOp .Mult) DL:=op_mul.or tH
theorem j7:RdOp K DL mi:=ro_mulI.or B8
def HJ:R2:=fun x y H Q=>(tf fun i j=>.bl (decide (i<j))) x y H Q∨(∃i j,x=.str i/\y=.str j/\Q (.bl (decide (i.cps.toList<j.cps.toList))) H)
theorem yl:OpR X (compareOp .Lt) HJ:=op_lt.or v7
theorem ym:RdOp K HJ G5:=ro_ltI.or Fk
def HK (K:PySem.W.Frag):R2:=fun x y H Q=>(∃i j,x=.str i/\y=.str j/\Q (.bl (!(Builtin.Str.occurrences j i 0 j.length 1).isEmpty)) H)∨Ho K false x y H Q
theorem qj (h:X.K=K):OpR X (compareOp .In) (HK K):=op_in_str.or (h ▸ wg)
theorem qk:RdOp K (HK K) wx:=ro_inS.or (yb false)
def u3 (K:PySem.W.Frag):R2:=fun x y H Q=>(∃i j,x=.str i/\y=.str j/\Q (.bl (!(!(Builtin.Str.occurrences j i 0 j.length 1).isEmpty))) H)∨Ho K true x y H Q
theorem oZ (h:X.K=K):OpR X (compareOp .NotIn) (u3 K):=op_notin_str.or (h ▸ pW)
theorem o0:RdOp K (u3 K) jt:=ro_notinS.or (yb true)
def rj:=B5 false
theorem et:RdOp K Jj rj:=Fg
def HL:D->D->Option Rz
 | .lst xs,.lst []=>some (.bl (!xs.isEmpty),false)
 | _,_=>none
def HM (K:PySem.W.Frag):R2:=fun x y H Q=>∃(a b:Addr) (xs:List V),x=.ref a/\y=.ref b/\hJ K H a xs/\hJ K H b []/\Q (.bl (!xs.isEmpty)) H
theorem Fu:RdOp K (HM K) HL:=by
 intro Y H x y d1 d2 z Q lv b1 b2 e q;cases d1 with
 | lst xs =>
  cases d2 with
  | lst ys =>
   cases ys with
   | nil =>
    cases e;obtain⟨p,ws,rfl,hp,el⟩:=b1;obtain⟨p2,zs,rfl,hp2,el2⟩:=b2;obtain rfl:=el2.unnil;refine⟨p,p2,ws,rfl,rfl,.inl (.inl hp),.inl (.inl hp2),?_⟩;have e:ws.isEmpty=xs.isEmpty:=by
     cases ws with
     | nil=>cases xs with
      | nil=>rfl
      | cons _ _=>cases el.1
     | cons _ _=>cases xs with
      | nil=>cases el.1
      | cons _ _=>rfl
    rw[e];exact q _ H (Same.refl H) (.bl _)
   | cons _ _=>cases e
  | _=>cases e
 | _=>cases e
def o7:=lN (B5 true) HL
def Fv (K:PySem.W.Frag):R2:=fun x y H Q=>Jk x y H Q∨HM K x y H Q
theorem fG (h:X.K=K) (hu:X.A.units+64<cLine):OpR X (compareOp .NotEq) (Fv K):=op_ne.or (by subst h;exact EZ (by lia))
theorem ro_neA:RdOp K (Fv K) o7:=ro_neS.or Fu
def Fw (K:PySem.W.Frag):V->Option Int->Option Int->Hp->VK->Prop:=fun x lo hi H Q=>EM K x lo hi H Q∨(EG K x lo hi H Q∨(∃z:Str,x=.str z/\z.length<=sizeLine/\Q (.str (Txt.slice z lo hi)) H))
theorem nl (h:X.K=K):SlR X (Fw K):=SlR.or (h ▸ BV) (SlR.or (h ▸ EH) EX)
theorem j8:RdSl K (Fw K) zV:=RdSl.or HF (RdSl.or HG HH)
def yn (K:PySem.W.Frag):List V->Hp->VK->Prop:=fun xs H Q=>(∃p ys,xs=[.ref p]/\(hJ K H p ys∨kJ K H p ys)/\Q (.int ys.length) H)∨(∃z:Str,xs=[.str z]/\z.length<=sizeLine/\Q (.int z.length) H)
theorem wz (h:X.K=K):CallR X (.builtin "len") (yn K):=CallR.or (h ▸ pX) pY
theorem gm:RdCB K (yn K) fT:=rc_lenQ.or Ca
theorem yo (z:Str):El K Y H (sgn z) (nh z):=by
 refine⟨by simp[sgn,nh],fun i v d h1 h2=>?_⟩
 unfold sgn at h1;unfold nh at h2;rw[Wg]at h1 h2;obtain⟨c,e1,rfl⟩:=Yg.mp h1;rw[e1]at h2;obtain rfl:=Option.some.inj h2;exact .str _
def yp:List D->Option Rz
 | [.str z]=>if z.cps.size<=1000000 then some (.lst (nh z),true) else none
 | _=>none
def yq:List V->Hp->VK->Prop:=fun xs H Q=>∃z:Str,xs=[.str z]/\z.cps.size<=sizeLine/\∀l,H l=none->Q (.ref l) (upd H l (.lst (sgn z)))
theorem yr:RdCB K yq yp:=by
 intro Y H xs ds z Q lv bs e q;cases bs with
 | nil=>cases e
 | @cons v vs d ds b1 bs =>
  cases bs with
  | cons _ _=>cases d<;>cases e
  | nil =>
   cases d with
   | str a =>
    obtain⟨c,e⟩:=aK e;cases e;exact⟨a,by rw[show v=V.str a from b1],lL c,fun r hr=>q _ _ (be hr _) (iV (yo a) hr)⟩
   | _=>cases e
def u4:List D->Option Rz
 | [.str z]=>if z.cps.size<=1000000 then some (.tup (nh z),false) else none
 | _=>none
def u5:List V->Hp->VK->Prop:=fun xs H Q=>∃z:Str,xs=[.str z]/\z.cps.size<=sizeLine/\∀l,H l=none->Q (.ref l) (upd H l (.tup (sgn z)))
theorem wA:RdCB K u5 u4:=by
 intro Y H xs ds z Q lv bs e q;cases bs with
 | nil=>cases e
 | @cons v vs d ds b1 bs =>
  cases bs with
  | cons _ _=>cases d<;>cases e
  | nil =>
   cases d with
   | str a =>
    obtain⟨c,e⟩:=aK e;cases e;exact⟨a,by rw[show v=V.str a from b1],lL c,fun r hr=>q _ _ (be hr _) (iA (yo a) hr lv)⟩
   | _=>cases e
def iB:=G2 DK yp
def iW:=G2 yg u4
def yt (K:PySem.W.Frag):List V->Hp->VK->Prop:=fun xs H Q=>(∃p ys,xs=[.ref p]/\(hJ K H p ys∨kJ K H p ys)/\∀l,H l=none->Q (.ref l) (upd H l (.lst ys)))∨yq xs H Q
def ql (K:PySem.W.Frag):List V->Hp->VK->Prop:=fun xs H Q=>(∃p ys,xs=[.ref p]/\((hJ K H p ys/\∀l,H l=none->Q (.ref l) (upd H l (.tup ys)))∨(kJ K H p ys/\Q (.ref p) H)))∨u5 xs H Q
theorem fH (h:X.K=K) (hc:X.calm=true):CallR X (.type "list") (yt K):=CallR.or (h ▸ pZ) (na hc)
theorem rV (h:X.K=K) (hc:X.calm=true):CallR X (.type "tuple") (ql K):=CallR.or (h ▸ oz) (mh hc)
theorem iC:RdCB K (yt K) iB:=rc_list.or yr
theorem kW:RdCB K (ql K) iW:=rc_tuple.or wA
def Cc:D->String
 | .non=>"NoneType"
 | .bl _=>"bool"
 | .int _=>"int"
 | .str _=>"str"
 | .tup _=>"tuple"
 | .lst _=>"list"
 | .fl _=>"list"
 | .dk _=>"dict"
 | .dt _=>"dict"
 | .ty _=>"type"
 | .xc _ _ _=>"type"
def yu (n T:String):Bool:=n == T||(n == "bool"&&T == "int")
theorem Fx:∀n∈["NoneType","bool","int","str","tuple","list","dict"],∀T∈["bool","int","str","tuple","list","dict"],
  (if (Value.type n == Value.type T)=true then some true else if PySem.W.kitMeta T=true then(fastBuiltinMro n).map (·.contains (Value.type T)) else none)=some (yu n T):=by decide +kernel
def Jo:List D->Option Rz
 | [d,.ty T]=>if (["bool","int","str","tuple","list","dict"].contains T&&Cc d != "type")=true then some (.bl (yu (Cc d) T),false) else none
 | _=>none
def b8:=Jo
def Fy (K:PySem.W.Frag):List V->Hp->VK->Prop:=fun xs H Q=>∃(Y:AS) (x:V) (d:D) (T:String),xs=[x,.ty T]/\BA K Y H x d/\(["bool","int","str","tuple","list","dict"].contains T&&Cc d != "type")=true/\Q (.bl (yu (Cc d) T)) H
theorem bp:RdCB K (Fy K) b8:=by
 intro Y H xs ds z Q lv bs e q;cases bs with
 | nil=>cases e
 | @cons v vs d ds b1 bs =>
  cases bs with
  | nil=>cases e
  | @cons v2 vs2 d2 ds2 b2 bs =>
   cases bs with
   | cons _ _=>cases d2<;>cases e
   | nil =>
    cases d2 with
    | ty T =>
     obtain⟨c,e⟩:=aK e;cases e;exact⟨Y,v,d,T,by rw[show v2=V.ty T from b2],b1,c,q _ H (Same.refl H) (.bl _)⟩
    | _=>cases e
theorem qm (h:X.K=K):CallR X (.builtin "isinstance") (Fy K):=by
 subst h;intro pins s σ H xs us Q I rv h;obtain⟨Y,x,d,T,rfl,b1,c,q⟩:=h;obtain⟨u,w',rfl,rx,ry⟩:=vals2 rv;cases (show w'=Value.type T from ry);rw[We]at c;have hT:T∈["bool","int","str","tuple","list","dict"]:=List.contains_iff_mem.mp c.1;refine bu ?_;have fin:∀tk,s.toks<=tk->EP X pins σ Q (.bool (yu (Cc d) T)) { s with toks:=tk }:=fun tk hle=>⟨.bl _,H,I.tok tk (I.tkl' hle),rfl,q⟩;have ko:∀n∈["NoneType","bool","int","str","tuple","list","dict"],Cc d=n->PySem.W.kitOne X.K (.type n) (.type T)=some (yu (Cc d) T):=fun n hn e=>by
  rw[e];exact EY (Fx n hn T hT)
 cases d with
 | non =>
  obtain rfl:=(show x=V.non from b1);exact dN I rx .non (ko "NoneType" (by decide) rfl) fin
 | bl b =>
  obtain rfl:=(show x=V.bl b from b1);exact dN I rx (.bl b) (ko "bool" (by decide) rfl) fin
 | int i =>
  obtain rfl:=(show x=V.int i from b1);exact dN I rx (.int i) (ko "int" (by decide) rfl) fin
 | str z =>
  obtain rfl:=(show x=V.str z from b1);exact dN I rx (.str z) (ko "str" (by decide) rfl) fin
 | ty n=>exact absurd c.2 (by simp[Cc])
 | xc _ _ _=>exact absurd c.2 (by simp[Cc])
 | lst ds =>
  obtain⟨a,vs,rfl,h1,_⟩:=b1;exact dN I rx (.lst h1) (ko "list" (by decide) rfl) fin
 | fl ds =>
  obtain⟨a,vs,rfl,h1,_⟩:=b1;cases (show u=Value.ref a from rx);obtain⟨its,_,pl,_⟩:=I.list h1.sq;obtain⟨o,ho,hc,_⟩:=pl.isList;exact PySem.W.kia_one PySem.W.kitx_list I.kIn ⟨o,ho,hc⟩ (ko "list" (by decide) rfl) (fun z=>nomatch z) fin
 | tup ds =>
  obtain⟨a,vs,rfl,h1,_⟩:=b1;cases (show u=Value.ref a from rx);obtain⟨its,_,pl,_⟩:=I.tuple h1.sq;obtain⟨o,ho,hc,_⟩:=pl;exact PySem.W.kia_one PySem.W.kitx_tuple I.kIn ⟨o,ho,hc⟩ (ko "tuple" (by decide) rfl) (fun z=>nomatch z) fin
 | dk ds =>
  obtain⟨a,vs,rfl,h1,_⟩:=b1;exact dN I rx (.dK h1) (ko "dict" (by decide) rfl) fin
 | dt ds =>
  obtain⟨a,ep,vs,rfl,_,h1,_⟩:=b1;exact dN I rx (.dT h1) (ko "dict" (by decide) rfl) fin
theorem mj (l:Addr) (its:Array Value) (n:Nat) (b:Addr) (more:Array Value) (m:Nat) (dd:Option Addr) (sl:Array (Option Value)) (h0:¬(!its.isEmpty&&Builtin.List.listTooLong (its.size+more.size))=true) (h1:its.size<=sizeLine) (h2:its.size+more.size<=sizeLine+1) :
  Meets (Builtin.«list.extend» ⟨[.ref l,.ref b],[]⟩) (fun _ R s=>s.heap.get? l=some { cls:=.type "list",dict:=none,data:=.seq its n,slots:=#[] }/\s.heap.get? b=some { cls:=.type "tuple",dict:=dd,data:=.seq more m,slots:=sl }/\R (.ok (.ret Value.none)) { s with heap:=s.heap.update l (Obj.mapSeq fun x=>x++more),toks:=s.toks }) :=
 .of_wp fun prog w A R s0 hh=>by
  obtain⟨hp,gg,dp,tks,oo⟩:=s0;obtain⟨hl,hb,hR⟩:=hh;have a1:=AutoSeq1.idx_int;have a2:=AutoSeq1.sub_tuple_tuple;have a3:=AutoSeq1.sub_list_list;have a4:=AutoSeq1.sub_tuple_list;have a5:=AutoSeq1.sub_list_tuple;have fits:(its++more).size<=sizeLine+1:=by
   rw[Array.size_append];exact h2
  wp_walk using (wpAny_updateSeq hl rfl (hz:=h1) (_hz':=fits)),wpAny_loadPart' hl,wpAny_loadPart' hb
  exact⟨_,rfl,hR⟩
def DM (K:PySem.W.Frag):V->List V->Hp->VK->Prop:=fun x vs H Q=>∃l b xs zs,x=.ref l/\vs=[.ref b]/\H l=some (.lst xs)/\kJ K H b zs/\xs.length+zs.length<=sizeLine/\Q .non (upd H l (.lst (xs++zs)))
theorem Cd (h:X.K=K):GX X "list.extend" (DM K):=by
 subst h;intro pins s σ H x vs v us Q I rx rv h;obtain⟨l,b,xs,zs,rfl,rfl,hH,hB,hz,q⟩:=h;cases rx;obtain⟨u,rfl,ru⟩:=rv.one;cases ru;obtain⟨z,its,n,r,hl,e⟩:=I.lstM hH;obtain⟨its2,r2,pl,hz2⟩:=I.tuple hB;obtain⟨⟨c2,dd2,d2,sl2⟩,ho2,hc2,n2,hd2⟩:=id pl;obtain rfl:c2=.type "tuple":=hc2;obtain rfl:d2=.seq its2.toArray n2:=hd2;have hl2:=r2.length;have hsz:its.toArray.size+its2.toArray.size<=sizeLine:=by rw[Vb,Vb];lia
 have hlong:¬ (!its.toArray.isEmpty&&Builtin.List.listTooLong (its.toArray.size+its2.toArray.size))=true:=by
  rw[rG hsz,Bool.and_false];exact Zd
 refine AA F.slot_list_extend ⟨_,e,rfl⟩ F.entry_list_extend (F.args_list_extend_2 _ _)
  (mj l its.toArray n b its2.toArray n2 dd2 sl2 hlong (by rw[Vb];lia) (by lia)) ⟨e,ho2,?_⟩
 refine⟨.non,_,I.lset (its':=its++its2) hH e (by simp) (r.append r2) ?_,rfl,q⟩
 rw[Xa];lia
def DN (K:PySem.W.Frag):V->List V->Hp->VK->Prop:=fun x vs H Q=>uM x vs H Q∨DM K x vs H Q
theorem tO (h:X.K=K) (_:X.calm=true):GX X "list.extend" (DN K):=by
 intro pins s σ H x vs v us Q I rx rv hh;rcases hh with hh|hh
 ·exact wl pins s σ H x vs v us Q I rx rv hh
 ·exact Cd h pins s σ H x vs v us Q I rx rv hh
def qo:D->List D->Option (D×D)
 | .lst xs,[.lst ys]=>if xs.length+ys.length<=1000000 then some (.non,.lst (xs++ys)) else none
 | .lst xs,[.tup ys]=>if xs.length+ys.length<=1000000 then some (.non,.lst (xs++ys)) else none
 | _,_=>none
theorem wB:RdM K "list" (DN K) mH qo:=⟨fun Y H p x h e=>IY h e,fun Y H p x vs ds y x' Q hp ho el e q=>by
 cases x with
 | lst xs =>
  cases ds with
  | nil=>cases e
  | cons d ds =>
   cases ds with
   | cons _ _=>cases d<;>cases e
   | nil =>
    obtain⟨ws,h1,h2⟩:=ho;obtain⟨v,r,rfl,da,el⟩:=el.uncons;obtain rfl:=el.unnil;cases d with
    | lst ys =>
     obtain⟨c,e⟩:=aK e;cases e;cases da with
     | @lst a us _ g0 g1 g2 g3=>exact .inl ⟨p,a,ws,us,rfl,rfl,h1,g1,by rw[h2.1,g2];exact lL c,q .non _ .non ⟨_,aq,(h2.app ⟨g2,g3⟩).upd hp⟩⟩
    | tup ys =>
     obtain⟨c,e⟩:=aK e;cases e;cases da with
     | @tup a us _ g1 g2 g3=>exact .inr ⟨p,a,ws,us,rfl,rfl,h1,g1.sq,by rw[h2.1,g2];exact lL c,q .non _ .non ⟨_,aq,(h2.app ⟨g2,g3⟩).upd hp⟩⟩
    | _=>cases e
 | _=>cases e⟩
def HN (K:PySem.W.Frag) (tl:TE):TI:=fun σ H R=>uz K tl σ H R∨(Ev K tl σ H R∨EV tl σ H R)
theorem eE (h:X.K=K) (hl:PE X l tl):PI X tg l (HN K tl):=by
 subst h;intro pins s σ H R I hh;rcases hh with hh|hh|hh
 ·exact z3 hl pins s σ H R I hh
 ·exact Ew hl pins s σ H R I hh
 ·exact EW hl pins s σ H R I hh
def ml (fe:FE):FI:=fun st=>match G1 fe st with
 | some z=>some z
 | none=>match IW fe st with
  | some z=>some z
  | none=>JI fe st
theorem eG (h:cT K te fe):RdI K (HN K te) (ml fe):=by
 intro st σ H O Z R E items st' e q;unfold ml at e;split at e
 ·rename_i z ez
  cases e;exact .inl (B2 h st σ H O Z R E items st' ez q)
 ·split at e
  ·rename_i z ez
   cases e;exact .inr (.inl (E8 h st σ H O Z R E items st' ez q))
  ·exact .inr (.inr (Fa h st σ H O Z R E items st' e q))
theorem Ce (xs:List Str):El K Y H (xs.map V.str) (xs.map D.str):=by
 refine⟨by simp,fun i v d h1 h2=>?_⟩
 rw[Wg]at h1 h2;obtain⟨c,e1,rfl⟩:=Yg.mp h1;rw[e1]at h2;obtain rfl:=Option.some.inj h2;exact .str _
end
end VF
namespace VF
open PySem L2
section
variable {K:PySem.W.Frag}
theorem d9 {X:Cx} (hg:Gl X x) (hm:X.mg x=none) (hv:bootBuiltins x=some (.type T)) (hn:x≠"__name__":=by decide) (hd:(x == ("__debug__":Str))=false:=by decide):PE X (.Name x pos) (tC (.ty T)):=zZ hg hm hv rfl hn hd
def u6 (K:PySem.W.Frag):Sp:=fun vs H Q _=>∃(a:Addr) (ns:List Int),vs=[.ref a]/\hJ K H a (ns.map V.int)/\ns.length<=63/\∀H',Q (.bl true) H'
end
end VF
namespace VF
open PySem L2
inductive Dp:Nat->D->Prop where
 | bl (n:Nat) (b:Bool):Dp (n+1) (.bl b)
 | int (n:Nat) (i:Int):Dp (n+1) (.int i)
 | str (n:Nat) (x:Str):Dp (n+1) (.str x)
 | non (n:Nat):Dp (n+1) .non
 | tup {n:Nat} {ds:List D}:ds.length<=1000000->(∀d∈ds,Dp n d)->Dp (n+1) (.tup ds)
 | lst {n:Nat} {ds:List D}:ds.length<=1000000->(∀d∈ds,Dp n d)->Dp (n+1) (.lst ds)
open Classical in
noncomputable def du (n:Nat):List D->Option Rz
 | [u,v]=>if u=v/\Dp n u then some (.bl true,false) else none
 | _=>none
open Classical in
theorem nq (h:Dp n u):du n [u,u]=some (.bl true,false):=by
 show(if u=u/\Dp n u then some (D.bl true,false) else none)=_;rw[Ad ⟨rfl,h⟩]
theorem pc (h:du n ds=some z):∃u,ds=[u,u]/\Dp n u/\z=(.bl true,false):=by
 unfold du at h;split at h
 ·rename_i u v
  by_cases c:u=v/\Dp n u
  ·rw[Ad c]at h;obtain⟨rfl,c⟩:=c;exact⟨u,rfl,c,(Option.some.inj h).symm⟩
  ·rw[Ag c]at h;cases h
 ·cases h
end VF
namespace VF
open PySem L2
section
variable {st st1 st2 st3 s s1 s2:En} {r r1 r2:Rs} {d d1 d2 x y x':D} {ds es:List D} {rs:List Rs} {z:Rz} {o:Ot} {i k n m:Nat} {F G B:FS} {fa fb fe fi':FE} {fr:FA} {f g:FT} {fi:FI} {fg:FG} {caps:List Nat}
theorem ai (h:F st=some (.nx s)) (h2:G s=a):aH F G st=a:=by simp only[aH,h,Za];exact h2
theorem gP (h:F st=some (.rt r s)):aH F G st=some (.rt r s):=by simp only[aH,h,Za]
theorem eI (h:f st=some (true,s)) (h2:F s=a):gM f F G st=a:=by simp only[gM,h,Za,if_true];exact h2
theorem eX (h:f st=some (false,s)) (h2:G s=a):gM f F G st=a:=by simp only[gM,h,Za,Ve,if_false];exact h2
theorem bX (h:fe st=some (.d x,s)) (h2:ng i (.v x) s=some s1):aY fe i st=some (.nx s1):=by simp only[aY,h,Za,h2]
theorem lP (h:fe st=some (.f x,s)) (h2:ng i (.o x) s=some s1):aY fe i st=some (.nx s1):=by simp only[aY,h,Za,h2]
theorem b9 (h:fe st=some (r,s)):cJ fe st=some (.nx s):=by simp only[cJ,h,Za]
theorem bL (h:fe st=some (r,s)):bG fe st=some (.rt r s):=by simp only[bG,h,Za]
theorem ay (h1:fa st=some (r1,s1)) (h2:fb s1=some (r2,s2)) (h3:cont s2 r1=some d1) (h4:cont s2 r2=some d2) (h5:b d1 d2=some z) (hz:mk z=r:=by rfl):aL b fa fb st=some (r,s2):=by
 simp only[aL,h1,h2,h3,h4,h5,hz,Za]
theorem aA (h1:fa st=some (r,s1)) (h2:fr s1=some (rs,s2)):ab fa fr st=some (r::rs,s2):=by simp only[ab,h1,h2,Za]
theorem ef (h1:fr st=some (rs,s1)) (h2:di s1 rs=some ds) (h3:b ds=some z) (hz:mk z=r:=by rfl):d6 b fr st=some (r,s1):=by simp only[d6,h1,h2,h3,hz,Za]
theorem bS (h1:fr st=some (rs,s1)) (h2:bK rs s1=some (ds,s2)) (h3:b ds=some z) (hz:mk z=r:=by rfl):bV b fr st=some (r,s2):=by simp only[bV,h1,h2,h3,hz,Za]
theorem cG (h1:fr st=some (rs,s1)) (h2:di s1 rs=some ds) (h3:b ds=some (d,false)) (h4:d.isSc=true):cU b fr st=some (.d d,s1):=by
 simp only[cU,h1,h2,h3,Za,h4];rfl
theorem bA {t t0:Sl} (h0:st[i]?=some t0) (h00:t0.ow=some x0) (h1:fr st=some (rs,s1)) (h2:bK rs s1=some (ds,s2)) (h3:s2[i]?=some t) (h4:t.ow=some x) (h5:b x ds=some (z,x')) (hz:mk z=r:=by rfl) (h6:s2.set i (t.put x')=st3:=by rfl):d7 b i fr st=some (r,st3):=by
 simp only[d7,h0,h00,h1,h2,h3,h4,h5,h6,hz,Za]
theorem ju {t t0:Sl} (h0:st[i]?=some t0) (h00:t0.ow=some x0) (hk:ok x0=true) (h1:fr st=some (rs,s1)) (h2:bK rs s1=some (ds,s2)) (h3:s2[i]?=some t) (h4:t.ow=some x) (h5:mm x ds=some (y,x')) (h6:s2.set i (t.put x')=st3:=by rfl):fM ok mm i fr st=some (.d y,st3):=by
 simp only[fM,h0,h00,hk,h1,h2,h3,h4,h5,h6,Za,if_true]
theorem aD (h:fe st=some (r,s)) (h2:GZ s r=some c):aE fe st=some (c,s):=by simp only[aE,h,h2,Za]
theorem dw (h:f st=some (c,s)):fY f st=some (!c,s):=by simp only[fY,h,Za]
theorem jc (h:f st=some (true,s)) (h2:g s=a):hX f g st=a:=by simp only[hX,h,Za,if_true];exact h2
theorem u7 (h:f st=some (false,s)):hX f g st=some (false,s):=by simp only[hX,h,Za,Ve,if_false]
theorem kX (h:f st=some (false,s)) (h2:g s=a):jU f g st=a:=by simp only[jU,h,Za,Ve,if_false];exact h2
theorem Cf (h:f st=some (true,s)):jU f g st=some (true,s):=by simp only[jU,h,Za,if_true]
theorem nr (h:fa st=some (r,s)) (h1:GZ s r=some true) (h2:fb s=a):jV fa fb st=a:=by simp only[jV,h,h1,Za,if_true];exact h2
theorem f8 (h1:fi st=some (ds,s1)) (h2:(gO caps s1.length&&decide (ds.length<=1000000))=true) (h3:eP fg fc fe k ds (fE k caps s1)=some (es,s2)) (h4:wb caps (s2.drop k) s1=st3:=by rfl):eQ k caps fi fg fc fe st=some (.f (.lst es),st3):=by
 simp only[eQ,h1,Za];rw[Ad h2,h3,← h4];rfl
theorem fI (h1:fi st=some (ds,s1)) (h2:dq fg B ds s1=some o):jY fi fg B st=some o:=by simp only[jY,h1,Za];exact h2
theorem bh (h0:ds.length=m) (h1:F (gk n ds)=some o) (h2:fin o=some z):bN F n m ds=some z:=by
 simp only[bN,Ad h0,h1,Za];exact h2
theorem bY (h0:ds.length+1=m) (h1:F (gl n x ds)=some o) (h2:DH o=some w):cL F n m x ds=some w:=by
 simp only[cL,Ad h0,h1,Za];exact h2
theorem pd (h:D->D):∀(items:List D) (sb:En),(∀x∈items,∃s1 s2 y s3 s4,fg x sb=some s1/\fc s1=some (true,s2)/\fe s2=some (y,s3)/\esc y s3=some (h x,s4)/\kR k s4=sb)->eP fg fc fe k items sb=some (items.map h,sb)
 | [],sb,_=>rfl
 | x::r,sb,hh=>by
  obtain⟨s1,s2,y,s3,s4,e1,e2,e3,e4,e5⟩:=hh x Qa;have ih:=pd h r sb fun z hz=>hh z (Yb _ hz);simp only[eP,e1,e2,e3,e4,Za,if_true,e5,ih,Qc]
theorem pe (I:List D->En->Prop) (step:∀(pre:List D) (x:D) (sb:En),I pre sb->∃s1 s2 y s3 d s4,fg x sb=some s1/\fc s1=some (true,s2)/\fe s2=some (y,s3)/\esc y s3=some (d,s4)/\I (pre++[d]) (kR k s4)) :
  ∀(items:List D) (pre:List D) (sb:En),I pre sb->∃ds sf,eP fg fc fe k items sb=some (ds,sf)/\ds.length=items.length/\I (pre++ds) sf
 | [],pre,sb,h=>⟨[],sb,rfl,rfl,by rw[Xc];exact h⟩
 | x::r,pre,sb,h=>by
  obtain⟨s1,s2,y,s3,d,s4,e1,e2,e3,e4,e5⟩:=step pre x sb h;obtain⟨ds,sf,e6,e7,e8⟩:=pe I step r (pre++[d]) (kR k s4) e5;refine⟨d::ds,sf,?_,by simp[e7],by rw[Wd]at e8;exact e8⟩
  simp only[eP,e1,e2,e3,e4,Za,if_true,e6]
theorem tP (I:Nat->En->Prop) (Out:En->Prop) (step:∀(m:Nat) (st:En),I m st->(∃s1,f st=some (false,s1)/\Out s1)∨∃s1 s2 m',f st=some (true,s1)/\B s1=some (.nx s2)/\m'<m/\I m' s2) :
  ∀(n m:Nat) (st:En),m<n->I m st->∃sf,zU f B n st=some (.nx sf)/\Out sf
 | 0,m,st,hn,_=>absurd hn (Nat.not_lt_zero _)
 | n+1,m,st,hn,h=>by
  rcases step m st h with⟨s1,e1,ho⟩|⟨s1,s2,m',e1,e2,hm,h2⟩
  ·exact⟨s1,by simp only[zU,e1,Za,Ve,if_false],ho⟩
  ·obtain⟨sf,e3,ho⟩:=tP I Out step n m' s2 (by lia) h2
   exact⟨sf,by simp only[zU,e1,e2,Za,if_true];exact e3,ho⟩
end
end VF
namespace VF
open PySem L2
theorem ix_str {z:Str} (hz:z.length<=1000000) (h:i8 z.cps.toList i=some c):cM (.str z) (.int i)=some (.str ⟨#[c]⟩,false):=by
 have e1:yc (.str z) (.int i)=none:=rfl;have e2:B9 (.str z) (.int i)=none:=rfl;have e3:Fm (.str z) (.int i)=some (.str ⟨#[c]⟩,false):=by
  show(if z.length<=1000000 then(i8 z.cps.toList i).bind (fun c=>some (D.str ⟨#[c]⟩,false)) else none)=_;rw[Ad hz,h];rfl
 unfold cM lN;rw[e1,e2];exact e3
theorem iX {a b:Str} (h:a.length+b.length<=1000000):cP (.str a) (.str b)=some (.str (a++b),false):=by
 have e1:uV (.str a) (.str b)=none:=rfl;have e2:uX (.str a) (.str b)=some (.str (a++b),false):=by
  show(if a.length+b.length<=1000000 then some (D.str (a++b),false) else none)=_;rw[Ad h]
 unfold cP lN;rw[e1,e2]
theorem u8 {a:Str} (h:0<=n/\n<=1000/\a.length<=1000):mi (.str a) (.int n)=some (.str (Txt.mul a n),false):=by
 have e1:uW (.str a) (.int n)=none:=rfl;have e2:ya (.str a) (.int n)=some (.str (Txt.mul a n),false):=by
  show(if 0<=n/\n<=1000/\a.length<=1000 then some (D.str (Txt.mul a n),false) else none)=_;rw[Ad h]
 unfold mi lN;rw[e1,e2]
theorem nu:∀xs:List Str,kU (xs.map D.str)=some xs
 | []=>rfl
 | x::r=>by
  show(kU (r.map D.str)).bind (fun xs=>some (x::xs))=_;rw[nu r];rfl
theorem iY:∀xs:List Str,lO (xs.map D.str)=some (xs.map V.str)
 | []=>rfl
 | x::r=>by
  show(lO (r.map D.str)).bind (fun vs=>some (V.str x::vs))=_;rw[iY r];rfl
theorem pf:∀n:Nat,j5 (List.replicate n (D.bl true))=some (List.replicate n true)
 | 0=>rfl
 | n+1=>by
  show(j5 (List.replicate n (D.bl true))).bind (fun bs=>some (true::bs))=_;rw[pf n];rfl
theorem rW (n:Nat):tM [.lst (List.replicate n (D.bl true))]=some (.bl true,false):=by
 show(j5 (List.replicate n (D.bl true))).bind (fun bs=>some (D.bl (bs.all id),false))=_;rw[pf];show some (D.bl ((List.replicate n true).all id),false)=_;have:(List.replicate n true).all id=true:=by
  rw[Xg];intro b hb;exact BI hb
 rw[this]
theorem u9 {xs:List Str}:wx (.str x) (.lst (xs.map D.str))=some (.bl (decide (x∈xs)),false):=by
 have e1:rR false (.str x) (.lst (xs.map D.str))=none:=rfl;have e2:qg false (.str x) (.lst (xs.map D.str))=some (.bl (decide (x∈xs)),false):=by
  show(lO (xs.map D.str)).bind (fun ws=>some (D.bl (wf (.str x) ws),false))=_;rw[iY];show some (D.bl (wf (.str x) (xs.map V.str)),false)=_;have e:wf (.str x) (xs.map V.str)=decide (x∈xs):=by
   unfold wf;rw[BP];induction xs with
   | nil=>rfl
   | cons y r ih =>
    rw[Zn,ih rfl];show((y == x)||decide (x∈r))=_;by_cases e:y=x
    ·subst e;simp
    ·have e':¬ x=y:=fun z=>e z.symm;simp[e,e']
  rw[e]
 unfold wx lN;rw[e1];exact e2
theorem tQ {z:Str} (h:z.length<=1000000):zV (.str z) lo hi=some (.str (Txt.slice z lo hi),false):=by
 have e1:Fq (.str z) lo hi=none:=rfl;have e2:yd (.str z) lo hi=none:=rfl;have e3:Fr (.str z) lo hi=some (.str (Txt.slice z lo hi),false):=by
  show(if z.length<=1000000 then some (D.str (Txt.slice z lo hi),false) else none)=_;rw[Ad h]
 unfold zV G6;rw[e1,e2];exact e3
section
variable {st s s1 s2 s3:En} {r r1:Rs} {rs:List Rs} {d d0 d1:D} {ds:List D} {z:Rz} {fe fo:FE} {fa:FA} {fl fh:FO}
theorem yv (h1:fo st=some (r1,s1)) (h2:cont s1 r1=some d0) (h3:Fs T d0=true) (h4:fa s1=some (rs,s2)) (h5:cont s2 r1=some d) (h6:di s2 rs=some ds) (h7:b d ds=some z) (hz:mk z=r:=by rfl):yi T b fo fa st=some (r,s2):=by
 simp only[yi,h1,h2,h3,h4,h5,h6,h7,hz,Za,if_true]
theorem j9 {j:Int} (h1:fa st=some (rs,s1)) (h2:di s1 rs=some [.int j]) (h3:-(2 ^ 62)<=j/\j<2 ^ 62):qa fa st=some (rng 0 j.toNat,s1):=by
 simp only[qa,h1,h2,Za,E9];rw[Ad h3]
theorem gy (h1:fe st=some (r,s1)) (h2:fl s1=some (lo,s2)) (h3:fh s2=some (hi,s3)) (h4:cont s3 r=some d) (h5:b d lo hi=some z) (hz:mk z=r':=by rfl):w9 b fe fl fh st=some (r',s3):=by
 simp only[w9,h1,h2,h3,h4,h5,hz,Za]
theorem DO {f:FT} {fa fb:FE} {a:Option (Rs×En)} (h:f st=some (true,s)) (h2:fa s=a):G0 f fa fb st=a:=by simp only[G0,h,Za,if_true];exact h2
theorem DP {f:FT} {fa fb:FE} {a:Option (Rs×En)} (h:f st=some (false,s)) (h2:fb s=a):G0 f fa fb st=a:=by simp only[G0,h,Za,Ve,if_false];exact h2
theorem kc (h1:fe st=some (r,s1)) (h2:esc r s1=some (.lst ds,s2)):ml fe st=some (ds,s2):=by
 have:G1 fe st=some (ds,s2):=by simp only[G1,h1,h2,Za,D.its]
 unfold ml;rw[this]
theorem DQ (h1:fe st=some (r,s1)) (h2:esc r s1=some (.tup ds,s2)):ml fe st=some (ds,s2):=by
 have e1:G1 fe st=none:=by simp only[G1,h1,h2,Za,D.its,Option.bind_none]
 have e2:IW fe st=some (ds,s2):=by simp only[IW,h1,h2,Za,D.itt]
 unfold ml;rw[e1,e2]
theorem dO (h1:fa st=some (rs,s1)) (h2:bK rs s1=some (ds,s2)) (h3:ds.length<=1000000):jW fa st=some (.d (.tup ds),s2):=by
 simp only[jW,h1,h2,Za];rw[Ad h3]
end
theorem ke (all:List D) (I:List D->En->Prop) (step:∀(gone:List D) (x:D) (rest:List D) (st:En),all=gone++x::rest->I gone st->∃s1 s2,fg x st=some s1/\B s1=some (.nx s2)/\I (gone++[x]) s2) :
  ∀(items gone:List D) (st:En),all=gone++items->I gone st->∃sf,dq fg B items st=some (.nx sf)/\I all sf
 | [],gone,st,ha,h=>⟨st,rfl,by rw[ha,Xc];exact h⟩
 | x::r,gone,st,ha,h=>by
  obtain⟨s1,s2,e1,e2,e3⟩:=step gone x r st ha h;obtain⟨sf,e4,e5⟩:=ke all I step r (gone++[x]) s2 (by rw[Wd];exact ha) e3
  refine⟨sf,?_,e5⟩;simp only[dq,e1,e2,Za];exact e4
theorem ph (all:List D) (I:List D->List D->En->Prop) (step:∀(gone:List D) (x:D) (rest pre:List D) (sb:En),all=gone++x::rest->I gone pre sb->∃s1 s2 y s3 d s4,fg x sb=some s1/\fc s1=some (true,s2)/\fe s2=some (y,s3)/\esc y s3=some (d,s4)/\I (gone++[x]) (pre++[d]) (kR k s4)) :
  ∀(items gone pre:List D) (sb:En),all=gone++items->I gone pre sb->∃ds sf,eP fg fc fe k items sb=some (ds,sf)/\I all (pre++ds) sf
 | [],gone,pre,sb,ha,h=>⟨[],sb,rfl,by rw[ha,Xc,Xc];exact h⟩
 | x::r,gone,pre,sb,ha,h=>by
  obtain⟨s1,s2,y,s3,d,s4,e1,e2,e3,e4,e5⟩:=step gone x r pre sb ha h;obtain⟨ds,sf,e6,e8⟩:=ph all I step r (gone++[x]) (pre++[d]) (kR k s4) (by rw[Wd];exact ha) e5
  refine⟨d::ds,sf,?_,by rw[Wd]at e8;exact e8⟩
  simp only[eP,e1,e2,e3,e4,Za,if_true,e6]
end VF
namespace VF
open PySem L2
inductive Pl:Nat->D->Prop where
 | non (n:Nat):Pl (n+1) .non
 | int (n:Nat) (i:Int):Pl (n+1) (.int i)
 | str (n:Nat) (x:Str):Pl (n+1) (.str x)
 | tup {n:Nat} {ds:List D}:(∀d∈ds,Pl n d)->Pl (n+1) (.tup ds)
 | lst {n:Nat} {ds:List D}:(∀d∈ds,Pl n d)->Pl (n+1) (.lst ds)
inductive RH (h:Heap):Value->D->Prop where
 | non:RH h .none .non
 | int (i:Int) (t:Tok):RH h (.int i t) (.int i)
 | str (x:Str) (t:Tok):RH h (.str x t) (.str x)
 | tup {a:Addr} {its:List Value} {ds:List D}:h.IsTuple a its.toArray->its.length=ds.length->(∀(i:Nat) u d,its[i]?=some u->ds[i]?=some d->RH h u d)->RH h (.ref a) (.tup ds)
 | lst {a:Addr} {its:List Value} {ds:List D}:h.IsList a its.toArray->its.length=ds.length->(∀(i:Nat) u d,its[i]?=some u->ds[i]?=some d->RH h u d)->RH h (.ref a) (.lst ds)
section
variable {X:Cx} {K:PySem.W.Frag} {Y:AS} {H:Hp} {s:Shared} {pins:List (Addr×Obj)} {σ:St}
theorem kf:∀{vs:List V} {us:List Value},Vals vs us->∀(i:Nat) u,us[i]?=some u->∃v,vs[i]?=some v/\RelV v u
 | _,_,.nil,i,u,h=>by simp at h
 | v::_,w::_,.cons r rs,0,u,h=>by
  have e:w=u:=by simpa using h
  exact⟨v,rfl,e ▸ r⟩
 | _::_,_::_,.cons r rs,i+1,u,h=>by
  obtain⟨v,h1,h2⟩:=kf rs i u (by simpa using h)
  exact⟨v,by simpa using h1,h2⟩
theorem DA.rh (h:DA K Y H v d) (p:Pl n d) (I:Inv X pins σ H s) (hK:X.K=K):∀{u:Value},RelV v u->RH s.heap u d:=by
 induction h generalizing n with
 | non=>intro u r;cases r;exact .non
 | bl b=>cases p
 | int i=>intro u r;obtain⟨t,rfl⟩:=r;exact .int i t
 | str x=>intro u r;obtain⟨t,rfl⟩:=r;exact .str x t
 | ty n=>cases p
 | fl _ _ _ _=>cases p
 | dk _ _ _ _ _=>cases p
 | dt _ _ _ _ _ _=>cases p
 | xc _=>cases p
 | @tup a vs ds h1 h2 h3 ih =>
  intro u r;cases r;cases p with
  | tup p =>
   obtain⟨its,r,t,_⟩:=I.tuple (hK ▸ h1.sq);refine .tup t (r.length.symm.trans h2) fun i u d e1 e2=>?_;obtain⟨v,e3,rv⟩:=kf r i u e1;exact ih i v d e3 e2 (p d (Xf e2)) rv
 | @lst a vs ds h0 h1 h2 h3 ih =>
  intro u r;cases r;cases p with
  | lst p =>
   obtain⟨its,r,t,_⟩:=I.list (show hJ X.K H a vs from .inl (.inl h1));refine .lst t.isList (r.length.symm.trans h2) fun i u d e1 e2=>?_;obtain⟨v,e3,rv⟩:=kf r i u e1;exact ih i v d e3 e2 (p d (Xf e2)) rv
theorem BA.rh (h:BA K Y H v d) (p:Pl n d) (I:Inv X pins σ H s) (hK:X.K=K) (ru:RelV v u):RH s.heap u d:=by
 cases p with
 | non=>cases (show v=.non from h);cases ru;exact .non
 | int _ i=>cases (show v=.int i from h);obtain⟨t,rfl⟩:=ru;exact .int i t
 | str _ x=>cases (show v=.str x from h);obtain⟨t,rfl⟩:=ru;exact .str x t
 | tup p =>
  obtain⟨a,vs,rfl,h1,el⟩:=h;cases ru;obtain⟨its,r,t,_⟩:=I.tuple (hK ▸ h1.sq);refine .tup t (r.length.symm.trans el.1) fun i u d e1 e2=>?_;obtain⟨v,e3,rv⟩:=kf r i u e1;exact(el.2 i v d e3 e2).rh (p d (Xf e2)) I hK rv
 | lst p =>
  obtain⟨a,vs,rfl,h1,el⟩:=h;cases ru;obtain⟨its,r,t,_⟩:=I.list (show hJ X.K H a vs from .inl (.inl h1));refine .lst t.isList (r.length.symm.trans el.1) fun i u d e1 e2=>?_;obtain⟨v,e3,rv⟩:=kf r i u e1;exact(el.2 i v d e3 e2).rh (p d (Xf e2)) I hK rv
theorem wC {h:Heap} (h1:h.IsTuple a x) (h2:h.IsTuple a y):x=y:=by
 obtain⟨o,e1,_,n,d1⟩:=h1;obtain⟨o',e2,_,n',d2⟩:=h2;rw[e1]at e2;cases e2;rw[d1]at d2;cases d2;rfl
theorem tR {h:Heap} (h1:h.IsList a x) (h2:h.IsList a y):x=y:=by
 obtain⟨o,e1,_,n,d1⟩:=h1;obtain⟨o',e2,_,n',d2⟩:=h2;rw[e1]at e2;cases e2;rw[d1]at d2;cases d2;rfl
theorem rX {h:Heap} (h1:h.IsList a x) (h2:h.IsTuple a y):False:=by
 obtain⟨o,e1,c1,_⟩:=h1;obtain⟨o',e2,c2,_⟩:=h2;rw[e1]at e2;cases e2;rw[c1]at c2;injection c2 with c2;exact absurd c2 (by decide)
theorem RH.inj (r:RH h u d):∀{d':D},RH h u d'->d=d':=by
 induction r with
 | non=>intro d' r';cases r';rfl
 | int i t=>intro d' r';cases r';rfl
 | str x t=>intro d' r';cases r';rfl
 | @tup a its ds t hl _ ih =>
  intro d' r';cases r' with
  | @tup _ its' ds' t' hl' f =>
   have e:its=its':=by simpa using wC t t'
   subst e;have:ds=ds':=by
    refine List.ext_getElem (hl.symm.trans hl') fun i h1 h2=>?_;exact ih i its[i] ds[i] (Zc (by lia)) (Zc h1) (f i its[i] ds'[i] (Zc (by lia)) (Zc h2))
   rw[this]
  | lst t' _ _=>exact(rX t' t).elim
 | @lst a its ds t hl _ ih =>
  intro d' r';cases r' with
  | @lst _ its' ds' t' hl' f =>
   have e:its=its':=by simpa using tR t t'
   subst e;have:ds=ds':=by
    refine List.ext_getElem (hl.symm.trans hl') fun i h1 h2=>?_;exact ih i its[i] ds[i] (Zc (by lia)) (Zc h1) (f i its[i] ds'[i] (Zc (by lia)) (Zc h2))
   rw[this]
  | tup t' _ _=>exact(rX t t').elim
open Classical in
theorem yw {xs ys:List D} (h:xs.length=ys.length):((List.range xs.length).all fun j=>decide (xs[j]?=ys[j]?))=decide (xs=ys):=by
 rw[Vf,Xg,decide_eq_true_eq];constructor
 ·intro e;refine Bo fun j=>?_;by_cases hj:j<xs.length
  ·exact Ap (e j (List.mem_range.mpr hj))
  ·rw[BQ (by lia),BQ (by lia)]
 ·rintro rfl j _;exact Af rfl
open Classical in
theorem eq3 {d1 d2:D} {u1 u2:Value} {A:Around} (h:¬ d1=d2) (a:SeqAt.EqAt A s u1 u2 false) (b:SeqAt.RcAt A s u1 u2 false) (c:SeqAt.RcNeAt A s u1 u2 true) :
  SeqAt.EqAt A s u1 u2 (decide (d1=d2))/\SeqAt.RcAt A s u1 u2 (decide (d1=d2))/\SeqAt.RcNeAt A s u1 u2 (!decide (d1=d2)):=by
 rw[Ae h];exact⟨a,b,c⟩
open Classical in
theorem JL {s:Shared} {its its':List Value} {ds ds':List D} (hl:its.length=ds.length) (hl':its'.length=ds'.length) (f:∀(j:Nat) u d,its[j]?=some u->ds[j]?=some d->RH s.heap u d) (f':∀(j:Nat) u d,its'[j]?=some u->ds'[j]?=some d->RH s.heap u d) (p1:∀d∈ds,Pl n d) (p2:∀d∈ds',Pl n d)
  (ih:∀{d1 d2:D} {u1 u2:Value},Pl n d1->Pl n d2->RH s.heap u1 d1->RH s.heap u2 d2->SeqAt.EqAt A s u1 u2 (decide (d1=d2))) (j:Nat) (h1:j<its.toArray.size) (h2:j<its'.toArray.size):SeqAt.EqAt A s its.toArray[j] its'.toArray[j] (decide (ds[j]?=ds'[j]?)):=by
 have h1':j<its.length:=by simpa using h1
 have h2':j<its'.length:=by simpa using h2
 have e1:ds[j]?=some ds[j]:=Zc (hl ▸ h1');have e2:ds'[j]?=some ds'[j]:=Zc (hl' ▸ h2');have z:=ih (p1 _ (Xf e1)) (p2 _ (Xf e2)) (f j its[j] _ (Zc h1') e1) (f' j its'[j] _ (Zc h2') e2);have e:decide (ds[j]?=ds'[j]?)=decide (ds[j]=ds'[j]):=by rw[e1,e2,Vf];simp
 rw[e];exact z
open Classical in
theorem RH.eqAt:∀(n:Nat) {s:Shared} {d1 d2:D} {u1 u2:Value} {A:Around},Pl n d1->Pl n d2->RH s.heap u1 d1->RH s.heap u2 d2->A.units+n<cLine ->
  SeqAt.EqAt A s u1 u2 (decide (d1=d2))/\SeqAt.RcAt A s u1 u2 (decide (d1=d2))/\SeqAt.RcNeAt A s u1 u2 (!decide (d1=d2)):=by
 intro n;induction n with
 | zero=>intro s d1 d2 u1 u2 A p;cases p
 | succ n ih =>
  intro s d1 d2 u1 u2 A p1 p2 r1 r2 hu;have hu':A.units<cLine:=by lia
  cases r1 with
  | non =>
   cases r2 with
   | non=>rw[Af rfl];exact⟨SeqAt.EqAt.same _,SeqAt.RcAt.none_none,SeqAt.RcNeAt.none_none⟩
   | int i t=>exact eq3 (by intro z;cases z) (SeqAt.EqAt.none_int _ _) (SeqAt.RcAt.none_int _ _) (SeqAt.RcNeAt.none_int _ _)
   | str x t=>exact eq3 (by intro z;cases z) (SeqAt.EqAt.none_str _ _) (SeqAt.RcAt.none_str _ _) (SeqAt.RcNeAt.none_str _ _)
   | tup t _ _=>exact eq3 (by intro z;cases z) (SeqAt.EqAt.none_tuple t hu') (SeqAt.RcAt.none_tuple t hu') (SeqAt.RcNeAt.none_tuple t hu')
   | lst t _ _=>exact eq3 (by intro z;cases z) (SeqAt.EqAt.none_list t hu') (SeqAt.RcAt.none_list t hu') (SeqAt.RcNeAt.none_list t hu')
  | int i t =>
   cases r2 with
   | non=>exact eq3 (by intro z;cases z) (SeqAt.EqAt.int_none _ _) (SeqAt.RcAt.int_none _ _) (SeqAt.RcNeAt.int_none _ _)
   | int j t' =>
    have e:decide (D.int i=D.int j)=(i == j):=by rw[Vf];simp
    rw[e];exact⟨SeqAt.EqAt.int_int _ _ _ _,SeqAt.RcAt.int_int _ _ _ _,SeqAt.RcNeAt.int_int _ _ _ _⟩
   | str x t'=>exact eq3 (by intro z;cases z) (Bd _ _ _ _) (SeqAt.RcAt.int_str _ _ _ _) (SeqAt.RcNeAt.int_str _ _ _ _)
   | tup t' _ _=>exact eq3 (by intro z;cases z) (SeqAt.EqAt.int_tuple _ _ t' hu') (SeqAt.RcAt.int_tuple _ _ t' hu') (SeqAt.RcNeAt.int_tuple _ _ t' hu')
   | lst t' _ _=>exact eq3 (by intro z;cases z) (SeqAt.EqAt.int_list _ _ t' hu') (SeqAt.RcAt.int_list _ _ t' hu') (SeqAt.RcNeAt.int_list _ _ t' hu')
  | str x t =>
   cases r2 with
   | non=>exact eq3 (by intro z;cases z) (SeqAt.EqAt.str_none _ _) (SeqAt.RcAt.str_none _ _) (SeqAt.RcNeAt.str_none _ _)
   | int j t'=>exact eq3 (by intro z;cases z) (Bc _ _ _ _) (SeqAt.RcAt.str_int _ _ _ _) (SeqAt.RcNeAt.str_int _ _ _ _)
   | str y t' =>
    have e:decide (D.str x=D.str y)=(x == y):=by rw[Vf];simp
    rw[e];exact⟨SeqAt.EqAt.str_str _ _ _ _,SeqAt.RcAt.str_str _ _ _ _,SeqAt.RcNeAt.str_str _ _ _ _⟩
   | tup t' _ _=>exact eq3 (by intro z;cases z) (SeqAt.EqAt.str_tuple _ _ t' hu') (SeqAt.RcAt.str_tuple _ _ t' hu') (SeqAt.RcNeAt.str_tuple _ _ t' hu')
   | lst t' _ _=>exact eq3 (by intro z;cases z) (SeqAt.EqAt.str_list _ _ t' hu') (SeqAt.RcAt.str_list _ _ t' hu') (SeqAt.RcNeAt.str_list _ _ t' hu')
  | @tup a its ds t hl f =>
   cases r2 with
   | non=>exact eq3 (by intro z;cases z) (SeqAt.EqAt.tuple_none t hu') (SeqAt.RcAt.tuple_none t hu') (SeqAt.RcNeAt.tuple_none t hu')
   | int j t'=>exact eq3 (by intro z;cases z) (SeqAt.EqAt.tuple_int _ _ t hu') (SeqAt.RcAt.tuple_int _ _ t hu') (SeqAt.RcNeAt.tuple_int _ _ t hu')
   | str y t'=>exact eq3 (by intro z;cases z) (SeqAt.EqAt.tuple_str _ _ t hu') (SeqAt.RcAt.tuple_str _ _ t hu') (SeqAt.RcNeAt.tuple_str _ _ t hu')
   | lst t' _ _=>exact eq3 (by intro z;cases z) (SeqAt.EqAt.tuple_list t t' hu') (SeqAt.RcAt.tuple_list t t' hu') (SeqAt.RcNeAt.tuple_list t t' hu')
   | @tup b its' ds' t' hl' f' =>
    cases p1 with
    | tup p1 =>
    cases p2 with
    | tup p2 =>
    have it:=JL (A:=A.in1) hl hl' f f' p1 p2 fun q1 q2 q3 q4=>(ih (A:=A.in1) q1 q2 q3 q4 (by show A.units+1+n<cLine;lia)).1
    have e:decide (D.tup ds=D.tup ds')=((List.range (min its.toArray.size its'.toArray.size)).all (fun j=>decide (ds[j]?=ds'[j]?))&&its.toArray.size == its'.toArray.size):=by
     simp only[Vb];by_cases hh:its.length=its'.length
     ·rw[← hh,Nat.min_self,hl,yw (by lia),Vf];simp
     ·have:ds≠ds':=fun z=>hh (by rw[hl,hl',z])
      rw[Vf];simp[hh,this]
    have rc:SeqAt.RcAt A s (.ref a) (.ref b) (decide (D.tup ds=D.tup ds')):=by
     rw[e];exact SeqAt.RcAt.tuples (A:=A) (e:=fun j=>decide (ds[j]?=ds'[j]?)) t t' hu' it
    have rn:SeqAt.RcNeAt A s (.ref a) (.ref b) (!decide (D.tup ds=D.tup ds')):=by
     rw[e];exact SeqAt.RcNeAt.tuples (A:=A) (e:=fun j=>decide (ds[j]?=ds'[j]?)) t t' hu' it
    refine⟨?_,rc,rn⟩;by_cases hab:a=b
    ·subst hab;have:=RH.inj (RH.tup t hl f) (RH.tup t' hl' f');rw[this,Af rfl];exact SeqAt.EqAt.same _
    ·exact SeqAt.EqAt.of_refs hab rc
  | @lst a its ds t hl f =>
   cases r2 with
   | non=>exact eq3 (by intro z;cases z) (SeqAt.EqAt.list_none t hu') (SeqAt.RcAt.list_none t hu') (SeqAt.RcNeAt.list_none t hu')
   | int j t'=>exact eq3 (by intro z;cases z) (SeqAt.EqAt.list_int _ _ t hu') (SeqAt.RcAt.list_int _ _ t hu') (SeqAt.RcNeAt.list_int _ _ t hu')
   | str y t'=>exact eq3 (by intro z;cases z) (SeqAt.EqAt.list_str _ _ t hu') (SeqAt.RcAt.list_str _ _ t hu') (SeqAt.RcNeAt.list_str _ _ t hu')
   | tup t' _ _=>exact eq3 (by intro z;cases z) (SeqAt.EqAt.list_tuple t t' hu') (SeqAt.RcAt.list_tuple t t' hu') (SeqAt.RcNeAt.list_tuple t t' hu')
   | @lst b its' ds' t' hl' f' =>
    cases p1 with
    | lst p1 =>
    cases p2 with
    | lst p2 =>
    have it:=JL (A:=A.in1) hl hl' f f' p1 p2 fun q1 q2 q3 q4=>(ih (A:=A.in1) q1 q2 q3 q4 (by show A.units+1+n<cLine;lia)).1
    have both:SeqAt.RcAt A s (.ref a) (.ref b) (decide (D.lst ds=D.lst ds'))/\SeqAt.RcNeAt A s (.ref a) (.ref b) (!decide (D.lst ds=D.lst ds')):=by
     by_cases hh:its.length=its'.length
     ·have e:decide (D.lst ds=D.lst ds')=(List.range its.toArray.size).all fun j=>decide (ds[j]?=ds'[j]?):=by
       simp only[Vb];rw[hl,yw (by lia),Vf];simp
      rw[e];exact⟨SeqAt.RcAt.lists (A:=A) (e:=fun j=>decide (ds[j]?=ds'[j]?)) t t' (by simpa using hh) hu' it,SeqAt.RcNeAt.lists (A:=A) (e:=fun j=>decide (ds[j]?=ds'[j]?)) t t' (by simpa using hh) hu' it⟩
     ·have:ds≠ds':=fun z=>hh (by rw[hl,hl',z])
      rw[Ae (by intro z;cases z;exact this rfl)]
      exact⟨SeqAt.RcAt.lists_lengths t t' (by simpa using hh) hu',Bz t t' (by simpa using hh) hu'⟩
    obtain⟨rc,rn⟩:=both;refine⟨?_,rc,rn⟩;by_cases hab:a=b
    ·subst hab;have:=RH.inj (RH.lst t hl f) (RH.lst t' hl' f');rw[this,Af rfl];exact SeqAt.EqAt.same _
    ·exact SeqAt.EqAt.of_refs hab rc
open Classical in
noncomputable def Ch (neg:Bool):D->D->Option Rz:=fun a b=>if Pl 40 a/\Pl 40 b then some (.bl (if neg then !decide (a=b) else decide (a=b)),false) else none
open Classical in
def Fz (K:PySem.W.Frag) (neg:Bool):R2:=fun x y H Q=>∃(Y:AS) (a b:D),BA K Y H x a/\BA K Y H y b/\Pl 40 a/\Pl 40 b/\Q (.bl (if neg then !decide (a=b) else decide (a=b))) H
theorem FB (neg:Bool):RdOp K (Fz K neg) (Ch neg):=by
 intro Y H x y d1 d2 z Q lv b1 b2 e q;unfold Ch at e;obtain⟨c,e⟩:=aK e;cases e;exact⟨Y,d1,d2,b1,b2,c.1,c.2,q _ H (Same.refl H) (.bl _)⟩
theorem FC (h:X.K=K) (hu:X.A.units+64<cLine):OpR X (compareOp .NotEq) (Fz K true):=by
 intro pins s σ H x y v u Q I rx ry ⟨Y,a,b,b1,b2,p1,p2,q⟩;exact(RH.eqAt 40 (A:=X.A) p1 p2 (b1.rh p1 I h rx) (b2.rh p2 I h ry) (by lia)).2.2 _ _ _ _ ⟨.bl _,H,I,rfl,q⟩
noncomputable def rY:=lN o7 (Ch true)
def HP (K:PySem.W.Frag):R2:=fun x y H Q=>Fv K x y H Q∨Fz K true x y H Q
theorem yx (h:X.K=K) (hu:X.A.units+64<cLine):OpR X (compareOp .NotEq) (HP K):=(fG h hu).or (FC h hu)
theorem yy:RdOp K (HP K) rY:=ro_neA.or (FB true)
end
end VF
namespace VF
open PySem L2 PySem.Spec
section
variable {K:PySem.W.Frag} {Y O O' Z:AS} {H H':Hp} {v:V} {d:D} {st st':En} {σ:St}
def yz:FS:=fun _=>none
theorem yA:lM K xj yz:=by
 intro st σ H O Z Dn E o e;cases e
end
end VF
namespace VF
open PySem L2 PySem.Spec
section
variable {X:Cx} {K:PySem.W.Frag}
def yB (K:PySem.W.Frag):R2:=fun x y H Q=>∃a b ys,x=.ref a/\y=.ref b/\kJ K H a []/\kJ K H b ys/\Q (.ref b) H
theorem Ci (h:X.K=K):OpR X (binaryOp .Add) (yB K):=by
 intro pins s σ H x y v u Q I rx ry hh;obtain⟨a,b,ys,rfl,rfl,ha,hb,q⟩:=hh;cases rx;cases ry;subst h;obtain⟨its,r1,p1,_⟩:=I.tuple ha;obtain⟨its2,r2,p2,_⟩:=I.tuple hb;cases r1;obtain⟨⟨cls,dd,data,sl⟩,ho,hc,n,hd⟩:=id p1;obtain⟨⟨cls2,dd2,data2,sl2⟩,ho2,hc2,n2,hd2⟩:=id p2;simp only at hc hd hc2 hd2;subst hc hd hc2 hd2;exact concat_meets ⟨_,ho,rfl⟩ ⟨_,ho2,rfl⟩ Bq seq_tuple_add PySem.F.slot_tuple_add PySem.F.entry_tuple_add (PySem.F.args_tuple_add_2 _ _)
   (PyProof.Rows.tuple_addW0 a b _ _ n n2 dd dd2 sl sl2 rfl) ⟨ho,ho2,.ref b,H,I,rfl,q⟩
def DR:D->D->Option Rz
 | .tup [],.tup b=>some (.tup b,false)
 | _,_=>none
theorem Cj:RdOp K (yB K) DR:=by
 intro Y H x y d1 d2 z Q lv b1 b2 e q;cases d1 with
 | tup a =>
  cases a with
  | cons a0 a=>cases e
  | nil =>
   cases d2 with
   | tup b =>
    cases e;obtain⟨p,xs,rfl,hp,el⟩:=b1;obtain⟨p2,ys,rfl,hp2,el2⟩:=b2;obtain rfl:=el.unnil;exact⟨p,p2,ys,rfl,rfl,hp.sq,hp2.sq,q _ H (Same.refl H) (.tup hp2 el2.1 el2.2)⟩
   | _=>cases e
 | _=>cases e
def dA:=lN cP DR
def DS (K:PySem.W.Frag):R2:=fun x y H Q=>uZ K x y H Q∨yB K x y H Q
theorem eY (h:X.K=K):OpR X (binaryOp .Add) (DS K):=(u0 h).or (Ci h)
theorem eZ:RdOp K (DS K) dA:=ro_addA.or Cj
def FD (K:PySem.W.Frag):V->Option Int->Option Int->Hp->VK->Prop:=fun x lo hi H Q=>∃a xs,x=.ref a/\kJ K H a xs/\(HT.sIx xs.length 0 lo=0/\HT.sIx xs.length xs.length hi=xs.length)/\Q (.ref a) H
end
end VF
namespace HT
open PySem PyProof.Rows
section
variable {prog:Program} {w:World} {A:Around} {E:Value->Shared->Prop} {s:Shared}
theorem getItem_tuple_all {t sl:Addr} {items:Array Value} {vl vu:Value} {lo hi:Option Int} {Q:Value->Shared->Prop} (ht:IsTup s.heap t items) (hs:s.heap.IsSliceOf sl vl vu .none) (pl:IsPart vl lo) (pu:IsPart vu hi)
  (hw:sIx items.size 0 lo=0/\sIx items.size items.size hi=items.size) (h:Q (.ref t) s):wpAny (model prog w) A (getItem (.ref t) (.ref sl)) Q E s:=by
 obtain⟨os,hos,hcs,hds⟩:=id hs;have hTs:s.TypeIs (.ref sl) "slice":=⟨os,hos,hcs⟩;unfold getItem
 try with_reducible refine AW ?_
 first|refine Aa (Ah ?_)|skip
 refine Aa (wpAny_sequenceKey ht.typeIs (by decide) ?_)
 refine Aa (wpAny_callSpecial?_slot (name:=Str.ofString "__getitem__") ht.typeIs Ax
  (wpAny_call_entry Ax ht.typeIs entry_tuple_getitem ?_ (args_tuple_getitem _ _)))
 show wpAny _ _ (Builtin.Tuple.tupleItemsOf (.ref t) >>= _) _ _ s;refine Aa (tupleItemsOf_ ht ?_);refine Aa (wpAny_typeOf hTs ?_);rw[Ad (by decide)]
 refine Aa (gq hs pl pu ?_);have hyes:(((sIx items.size 0 lo:Nat):Int) == 0&&(1:Int) == 1&&(sIx items.size items.size hi-sIx items.size 0 lo) == items.size)=true:=by
  rw[hw.1,hw.2];simp
 show wpAny _ _ (if (((sIx items.size 0 lo:Nat):Int) == 0&&(1:Int) == 1&&(sIx items.size items.size hi-sIx items.size 0 lo) == items.size)=true then _ else _) _ _ s;rw[Ad hyes];unfold Builtin.Tuple.tupleIsExact;refine Aa (Aa (wpAny_typeOf ht.typeIs (Ah ?_)));rw[Ad (by decide)]
 exact Aa (wpAny_rule (Ah ⟨_,rfl,Ah h⟩))
end
end HT
namespace VF
open PySem L2
section
variable {X:Cx} {K:PySem.W.Frag}
theorem yC (h:X.K=K):SlR X (FD K):=by
 intro pins s σ H x v vl vu lo hi sl Q I rx hs pl pu hh;obtain⟨a,xs,rfl,hx,hw,q⟩:=hh;cases rx;subst h;obtain⟨its,r,ht,hz⟩:=I.tuple hx;have hlen:its.toArray.size=xs.length:=by rw[Vb];exact r.length.symm
 refine⟨"tuple",_,Ax.lookup,ht.typeIs,?_⟩;exact HT.getItem_tuple_all ht hs pl pu (by rw[hlen];exact hw) ⟨.ref a,H,I,rfl,q⟩
def HQ:D->Option Int->Option Int->Option Rz
 | .tup ds,lo,hi=>if HT.sIx ds.length 0 lo=0/\HT.sIx ds.length ds.length hi=ds.length then some (.tup ds,false) else none
 | _,_,_=>none
theorem HR:RdSl K (FD K) HQ:=by
 intro Y H x lo hi d1 z Q lv b1 e q;cases d1 with
 | tup a =>
  obtain⟨c,e⟩:=aK e;cases e;obtain⟨p,xs,rfl,hp,el⟩:=b1;exact⟨p,xs,rfl,hp.sq,by rw[el.1];exact c,q _ H (Same.refl H) (.tup hp el.1 el.2)⟩
 | _=>cases e
def tS:=G6 zV HQ
def HS (K:PySem.W.Frag):V->Option Int->Option Int->Hp->VK->Prop:=fun x lo hi H Q=>Fw K x lo hi H Q∨FD K x lo hi H Q
theorem va (h:X.K=K):SlR X (HS K):=SlR.or (nl h) (yC h)
theorem rZ:RdSl K (HS K) tS:=RdSl.or j8 HR
theorem gz {a b:List D} (h:a.length+b.length<=1000000):dA (.lst a) (.lst b)=some (.lst (a++b),true):=by
 have e1:uV (.lst a) (.lst b)=none:=rfl;have e2:uX (.lst a) (.lst b)=none:=rfl;have e3:B6 (.lst a) (.lst b)=some (.lst (a++b),true):=by simp only[B6];rw[Ad h]
 unfold dA cP lN;rw[e1,e2,e3]
end
end VF
namespace VF
open PySem L2
section
variable {α:Type} {fg:FG} {B:FS} {fc:FT} {fe:FE} {k:Nat}
theorem kY (f:α->D) (all:List α) (I:List α->En->Prop) (step:∀(gone:List α) (x:α) (rest:List α) (st:En),all=gone++x::rest->I gone st->∃s1 s2,fg (f x) st=some s1/\B s1=some (.nx s2)/\I (gone++[x]) s2) :
  ∀(items gone:List α) (st:En),all=gone++items->I gone st->∃sf,dq fg B (items.map f) st=some (.nx sf)/\I all sf
 | [],gone,st,ha,h=>⟨st,rfl,by rw[ha,Xc];exact h⟩
 | x::r,gone,st,ha,h=>by
  obtain⟨s1,s2,e1,e2,e3⟩:=step gone x r st ha h;obtain⟨sf,e4,e5⟩:=kY f all I step r (gone++[x]) s2 (by rw[Wd];exact ha) e3
  refine⟨sf,?_,e5⟩;simp only[Qc,dq,e1,e2,Za];exact e4
theorem jv (f g:α->D) (p:α->Bool) (sb:En):∀(xs:List α),(∀x∈xs,∃s1 s2,fg (f x) sb=some s1/\fc s1=some (p x,s2)/\(p x=false->kR k s2=sb)/\(p x=true->∃y s3 s4,fe s2=some (y,s3)/\esc y s3=some (g x,s4)/\kR k s4=sb)) ->
  eP fg fc fe k (xs.map f) sb=some ((xs.filter p).map g,sb)
 | [],_=>rfl
 | x::r,h=>by
  obtain⟨s1,s2,e1,e2,hf,ht⟩:=h x Qa;have ih:=jv f g p sb r fun y hy=>h y (Yb _ hy);cases hp:p x with
  | false =>
   rw[hp]at e2;simp only[Qc,eP,e1,e2,Za,Ve,if_false,hf hp,ih,Bt,hp]
  | true =>
   rw[hp]at e2;obtain⟨y,s3,s4,e3,e4,e5⟩:=ht hp;simp only[Qc,eP,e1,e2,Za,if_true,e3,e4,e5,ih,Bt,hp]
theorem jw (f g:α->D) (sb:En) (xs:List α) (h:∀x∈xs,∃s1 s2 y s3 s4,fg (f x) sb=some s1/\fc s1=some (true,s2)/\fe s2=some (y,s3)/\esc y s3=some (g x,s4)/\kR k s4=sb) :
  eP fg fc fe k (xs.map f) sb=some (xs.map g,sb):=by
 have:=jv (fg:=fg) (fc:=fc) (fe:=fe) (k:=k) f g (fun _=>true) sb xs fun x hx=>by
  obtain⟨s1,s2,y,s3,s4,e1,e2,e3,e4,e5⟩:=h x hx;exact⟨s1,s2,e1,e2,fun z=>(Bool.noConfusion z),fun _=>⟨y,s3,s4,e3,e4,e5⟩⟩
 rw[this,List.filter_eq_self.mpr fun _ _=>rfl]
end
theorem Ck (a n:Nat):rng (a:Int) n=(List.range n).map fun t=>D.int ((a+t:Nat):Int):=by
 unfold rng;exact Zl fun t _=>by rw[Int.natCast_add]
end VF
namespace VF22
open PySem PySem.Spec PyProof.Rows L2 VF
def yD:D->Option Key
 | .int i=>some (.inl i)
 | .str x=>some (.inr x)
 | _=>none
def vb:List D->Option (List Key)
 | []=>some []
 | d::r=>(yD d).bind fun k=>(vb r).bind fun ks=>some (k::ks)
section
variable {κ:Type} [DecidableEq κ]
def f9 (kvs:List (κ×D)) (k:κ):Option D:=(kvs.find? fun kv=>decide (kv.1=k)).map (·.2)
def tT (kvs:List (κ×D)) (k:κ) (d:D):List (κ×D):=if (kvs.any fun kv=>decide (kv.1=k))=true then kvs.map (fun kv=>if kv.1=k then(kv.1,d) else kv) else kvs++[(k,d)]
def Go (R:V->D->Prop) (kvs:List (κ×V)) (ds:List (κ×D)):Prop:=kvs.map (·.1)=ds.map (·.1)/\∀(i:Nat) v d,kvs[i]?=some v->ds[i]?=some d->R v.2 d.2
theorem Go.nil:Go R ([]:List (κ×V)) []:=⟨rfl,fun i v d h _=>by simp at h⟩
theorem Go.cons (h1:p.1=q.1) (h2:R p.2 q.2) (t:Go R kvs ds):Go R (p::kvs) (q::ds):=by grind [Go]
theorem Go.un (h:Go R (p::kvs) (q::ds)):p.1=q.1/\R p.2 q.2/\Go R kvs ds:=by
 obtain⟨h1,h2⟩:=h;rw[Qc,Qc]at h1;injection h1 with a b;exact⟨a,h2 0 p q rfl rfl,b,fun i v d x y=>h2 (i+1) v d x y⟩
theorem Go.look:∀{kvs:List (κ×V)} {ds:List (κ×D)} (k:κ),Go R kvs ds->(ig kvs k=none/\f9 ds k=none)∨∃v d,ig kvs k=some v/\f9 ds k=some d/\R v d
 | [],[],_,_=>.inl ⟨rfl,rfl⟩
 | [],_::_,_,h=>by have:=h.1;simp at this
 | _::_,[],_,h=>by have:=h.1;simp at this
 | p::ps,q::qs,k,h=>by
  obtain⟨h1,h2,h3⟩:=h.un;by_cases e:p.1=k
  ·refine .inr ⟨p.2,q.2,ij e,?_,h2⟩;simp[f9,Yh,h1.symm.trans e]
  ·have e':¬ q.1=k:=fun z=>e (h1.trans z);rw[ik e,show f9 (q::qs) k=f9 qs k by simp[f9,Yh,e']]
   exact h3.look k
theorem Go.any {kvs:List (κ×V)} {ds:List (κ×D)} (h:Go R kvs ds) (k:κ):(kvs.any fun kv=>decide (kv.1=k))=ds.any fun kv=>decide (kv.1=k):=by
 have a:∀l:List (κ×V),(l.any fun kv=>decide (kv.1=k))=(l.map (·.1)).any fun x=>decide (x=k):=fun l=>by rw[BP];rfl
 rw[a,h.1,BP];rfl
theorem Go.repl (k:κ) (r:R y d):∀{kvs:List (κ×V)} {ds:List (κ×D)},Go R kvs ds->Go R (kvs.map fun kv=>if kv.1=k then(kv.1,y) else kv) (ds.map fun kv=>if kv.1=k then(kv.1,d) else kv)
 | [],[],_=>Go.nil
 | [],_::_,h=>by have:=h.1;simp at this
 | _::_,[],h=>by have:=h.1;simp at this
 | p::ps,q::qs,h=>by
  obtain⟨h1,h2,h3⟩:=h.un;rw[Qc,Qc];by_cases e:p.1=k
  ·rw[Ad e,Ad (h1.symm.trans e)];exact Go.cons h1 r (h3.repl k r)
  ·rw[Ag e,Ag fun z=>e (h1.trans z)];exact Go.cons h1 h2 (h3.repl k r)
theorem Go.snoc (k:κ) (r:R y d):∀{kvs:List (κ×V)} {ds:List (κ×D)},Go R kvs ds->Go R (kvs++[(k,y)]) (ds++[(k,d)])
 | [],[],_=>Go.cons rfl r Go.nil
 | [],_::_,h=>by have:=h.1;simp at this
 | _::_,[],h=>by have:=h.1;simp at this
 | p::ps,q::qs,h=>by
  obtain⟨h1,h2,h3⟩:=h.un;exact Go.cons h1 h2 (h3.snoc k r)
theorem Go.put (k:κ) (h:Go R kvs ds) (r:R y d):Go R (putK kvs k y) (tT ds k d):=by
 unfold putK tT;rw[h.any k];split
 ·exact h.repl k r
 ·exact h.snoc k r
theorem Go.len {kvs:List (κ×V)} {ds:List (κ×D)} (h:Go R kvs ds):kvs.length=ds.length:=by
 have:=congrArg List.length h.1;rwa [Ya,Ya]at this
theorem Go.map (h:Go R kvs ds) (f:∀v d,R v d->S v d):Go S kvs ds:=⟨h.1,fun i v d a b=>f _ _ (h.2 i v d a b)⟩
end
section
variable {K:PySem.W.Frag} {Y:AS} {H:Hp}
theorem HU (h:DA K Y H v d) (e:yD d=some k):v=kV k:=by
 cases d with
 | int i=>cases e;cases h;rfl
 | str x=>cases e;cases h;rfl
 | _=>cases e
theorem DT (h:BA K Y H v d) (e:yD d=some k):v=kV k:=by
 cases d with
 | int i=>cases e;exact h
 | str x=>cases e;exact h
 | _=>cases e
theorem tU:∀{ds:List D} {vs:List V} {ks:List Key},El K Y H vs ds->vb ds=some ks->vs=ks.map kV
 | [],vs,ks,h,e=>by
  cases e;obtain rfl:=h.unnil;rfl
 | d::r,vs,ks,h,e=>by
  refine bx e fun k e1 e=>?_;refine bx e fun ks' e2 e=>?_;cases e;obtain⟨v,vr,rfl,da,el⟩:=h.uncons;rw[HU da e1,tU el e2];rfl
def Jp:D->D->Option (Option D)
 | .dt kvs,.tup ds=>(vb ds).bind fun ks=>some (f9 kvs ks)
 | .dk kvs,d=>(yD d).bind fun k=>some (f9 kvs k)
 | _,_=>none
theorem HV (b1:BA K Y H x d1) (b2:BA K Y H y d2) (e:Jp d1 d2=some o):∃(a:Addr) (r:Option V),x=.ref a/\DGet H a y r/\((r=none/\o=none)∨∃v d,r=some v/\o=some d/\DA K Y H v d):=by
 cases d1 with
 | dt kvs =>
  cases d2 with
  | tup ds =>
   refine bx e fun ks e1 e=>?_;cases e;obtain⟨a,ep,kv,rfl,_,h1,h2,h3⟩:=b1;obtain⟨b,vs,rfl,t,el⟩:=b2;have:=tU el e1;subst this;exact⟨a,_,rfl,DGet.t h1 t.1,Go.look ks ⟨h2,h3⟩⟩
  | _=>cases e
 | dk kvs =>
  refine bx e fun k e1 e=>?_;cases e;obtain⟨a,kv,rfl,h1,h2,h3⟩:=b1;have:=DT b2 e1;subst this;exact⟨a,_,rfl,DGet.k h1,Go.look k ⟨h2,h3⟩⟩
 | _=>cases e
def JM:R2:=fun x y H Q=>∃a v,x=.ref a/\DGet H a y (some v)/\Q v H
def vc:D->D->Option Rz:=fun d1 d2=>(Jp d1 d2).bind fun o=>o.bind fun d=>some (d,false)
theorem vd:RdOp K JM vc:=by
 intro Y H x y d1 d2 z Q lv b1 b2 e q;refine bx e fun o e1 e=>?_;obtain⟨d,rfl,e⟩:=Yl.mp e;cases e;obtain⟨a,r,rfl,g,h|⟨v,d',rfl,h2,da⟩⟩:=HV b1 b2 e1
 ·cases h.2
 ·cases h2;exact⟨a,v,rfl,g,q v H (Same.refl H) da⟩
def HW (neg:Bool):R2:=fun y x H Q=>∃(a:Addr) (o:Option V),x=.ref a/\DGet H a y o/\Q (.bl (if neg then !o.isSome else o.isSome)) H
def FF (neg:Bool):D->D->Option Rz:=fun d2 d1=>(Jp d1 d2).bind fun o=>some (.bl (if neg then !o.isSome else o.isSome),false)
theorem FJ (neg:Bool):RdOp K (HW neg) (FF neg):=by
 intro Y H y x d2 d1 z Q lv b2 b1 e q;refine bx e fun o e1 e=>?_;cases e;obtain⟨a,r,rfl,g,h⟩:=HV b1 b2 e1;refine⟨a,r,rfl,g,?_⟩;have:r.isSome=o.isSome:=by
  rcases h with⟨rfl,rfl⟩|⟨v,d,rfl,rfl,_⟩<;>rfl
 rw[this];exact q _ H (Same.refl H) (.bl _)
def DU:xp:=fun x k v H Q=>∃a,x=.ref a/\Hl H a k v Q
def DV:D->D->D->Option D
 | .dt kvs,.tup ds,v=>(vb ds).bind fun ks=>if kvs.length<100000 then some (.dt (tT kvs ks v)) else none
 | .dk kvs,d,v=>(yD d).bind fun k=>if kvs.length<100000 then some (.dk (tT kvs k v)) else none
 | _,_,_=>none
theorem wD:xX K DU DV:=by
 intro Y H p x k v dk dv x' Q hp ho bk da e q;have lim:(100000:Nat)<=sizeLine:=by rw[AF];decide
 cases x with
 | dt kvs =>
  cases dk with
  | tup ds =>
   refine bx e fun ks e1 e=>?_;by_cases c:kvs.length<100000
   ·rw[Ad c]at e;cases e;obtain⟨ep,kv,ka,h1,h2,h3⟩:=ho;obtain⟨b,vs,rfl,t,el⟩:=bk;have:=tU el e1;subst this;have g:Go (DA K Y H) kv kvs:=⟨h2,h3⟩;refine⟨p,rfl,.inr ⟨ep,kv,ks,b,h1,rfl,t.1,by have:=g.len;lia,fun n=>q _ ?_⟩⟩
    have g':=(g.put ks da).map (S:=DA K Y (upd H p (.dT (n,wa ep.2 kv ks b) (putK kv ks v)))) fun v d h=>h.upd hp;refine⟨(n,wa ep.2 kv ks b),_,KA.go (Y:=Y) (H:=H) (fun c hc=>?_) (fun c o e n=>by rw[ag fun z=>n (by rw[z];exact hp)];exact e) (fun c z=>.inl z),aq,g'.1,g'.2⟩
    unfold wa at hc;split at hc
    ·exact ka c hc
    ·rcases Vd.mp hc with hc|hc
     ·exact ka c hc
     ·rw[Wb.mp hc];exact⟨t.2,by rw[t.1];simp⟩
   ·rw[Ag c]at e;cases e
  | _=>cases e
 | dk kvs =>
  refine bx e fun kk e1 e=>?_;by_cases c:kvs.length<100000
  ·rw[Ad c]at e;cases e;obtain⟨kv,h1,h2,h3⟩:=ho;have:=DT bk e1;subst this;have g:Go (DA K Y H) kv kvs:=⟨h2,h3⟩;refine⟨p,rfl,.inl ⟨kv,kk,h1,rfl,by have:=g.len;lia,q _ ?_⟩⟩
   have g':=(g.put kk da).map (S:=DA K Y (upd H p (.dK (putK kv kk v)))) fun v d h=>h.upd hp;exact⟨_,aq,g'.1,g'.2⟩
  ·rw[Ag c]at e;cases e
 | _=>cases e
def DW (d:D):FE:=fun st=>some (.f d,st)
theorem yE:cT K xF (DW (.dk [])):=by
 intro st σ H O Z Q E r st' h q;cases h;intro p hp;have hres:RES K (U O Z) H (upd H p (.dK [])) (.ref p) (.dk [],true):=⟨p,rfl,hp,[],aq,rfl,fun i v d a _=>by simp at a⟩
 obtain⟨E3,rv⟩:=hres.rv E (be hp _);exact q _ _ O (Same.ext (be hp _)) (Kp.refl _) E3 rv fun p' e=>by cases e;exact hp
end
section
variable {X:Cx}
theorem r6 (hu:X.A.units+1<cLine) (ho:PE X o td) (hi:PE X i ty) (hs:BS i):PE X (.Subscript o i pos) (w5 JM td ty):=BT hu ho hi hs
theorem FK (hu:X.A.units+1<cLine):OpR X (compareOp .In) (HW false):=by
 intro pins s σ H y x v u Q I ry rx h;obtain⟨a,o,rfl,g,q⟩:=h;cases rx;exact Jl hu I g ry fun s' I'=>⟨.bl o.isSome,H,I',rfl,q⟩
theorem wE (hu:X.A.units+1<cLine):Eu X DU:=by
 intro pins s σ H o i v ov iv u Q I ro ri rv h;obtain⟨a,rfl,g⟩:=h;cases ro;exact we hu I g ri rv fun s' H' I' q=>⟨H',I',q⟩
end
end VF22
namespace VF22
open PySem PySem.Spec PyProof.Rows L2 VF
section
variable {X:Cx} {K:PySem.W.Frag}
@[irreducible] def DX (X:Cx) (es:List Expr) (t:TA):Prop:=PA X es t
theorem ve:DX X [] kN:=by unfold DX;exact ah
theorem lQ (ha:PE X e te) (hr:DX X es t) (h:noStar e=true):DX X (e::es) (dM te t):=by
 unfold DX at *;exact au ha hr h
theorem vf (h:DX X es t):PE X (.List es pos) (z7 t):=by
 unfold DX at h;exact bq h
@[irreducible] def FL (X:Cx) (e:Expr) (t:TE):Prop:=PE X e t
theorem Cl (h:DX X es t):FL X (.List es pos) (z7 t):=by
 unfold FL;exact vf h
theorem FM (hr:IxR X r) (ha:FL X a ta) (hb:PE X b tb) (hs:pU b):FL X (.Subscript a b pos) (w5 r ta tb):=by
 unfold FL at *;exact Dz hr ha hb hs
end
end VF22
namespace VF
open PySem L2 PySem.Spec PyProof.Rows
section
variable {X:Cx} {K:PySem.W.Frag}
def yF:V->List V->Hp->VK->Prop:=fun x vs H Q=>∃(a b:Str),x=.str a/\vs=[.str b]/\a.length<=1000000/\Q (.str (Txt.stripChars a b)) H
theorem nA:Hn X "str.strip" yF:=by
 intro pins s σ H x vs v us Q I rx rv h;obtain⟨a,b,rfl,rfl,hz,q⟩:=h;obtain⟨t,rfl⟩:=rx;obtain⟨u,rfl,ru⟩:=vals1 rv;obtain⟨t',rfl⟩:=ru;exact bu (SC.stripChars (fun t' k hle=>⟨.str _,H,I.tok k (I.tkl' hle),⟨t',rfl⟩,q⟩) (Qb hz (by decide)))
def jx:D->List D->Option Rz
 | .str a,[.str b]=>if a.length<=1000000 then some (.str (Txt.stripChars a b),false) else none
 | _,_=>none
theorem nB:yh K yF jx:=by
 intro Y H x xs d ds z Q lv b1 bs e q;cases d with
 | str a =>
  cases bs with
  | nil=>cases e
  | @cons v vs d ds b2 bs =>
   cases bs with
   | cons _ _=>cases d<;>cases e
   | nil =>
    cases d with
    | str b =>
     obtain⟨c,e⟩:=aK e;cases e;exact⟨a,b,b1,by rw[show v=V.str b from b2],c,q _ H (Same.refl H) (.str _)⟩
    | _=>cases e
 | _=>cases e
end
end VF
namespace VF
open PySem PySem.Spec PyProof.Rows L2
theorem gQ {N P:List Str} {sc:Scope} (h:N.Nodup/\(∀x∈P,sc.names.lookup x=some .local∨sc.names.lookup x=some .cell)/\∀y∈sc.names,y.2≠.free) (a:sc.kind=.function:=by rfl) (b:sc.isCoroutine=false:=by rfl) (c:sc.isGenerator=false:=by rfl) (d:N.take P.length=P:=by rfl):FnScope N P sc:=⟨a,b,c,h.1,d,h.2.1,h.2.2⟩
structure FH (K:PySem.W.Frag) (x:Str) (st:Stmt):Prop where
 ex:∃f fd,Fun K x x st f fd/\PySem.W.nsIn K mainGlobals x=some (some (.ref f))
theorem fh {K:PySem.W.Frag} {x:Str} {st:Stmt} {f:Addr} {oc:Value} {od an:Option Addr} {osl:Array (Option Value)} {kV doc pm cdv ct:Value} (a:PySem.W.nsIn K mainGlobals x=some (some (.ref f)))
  (l:K.lookup f=some ⟨oc,od,.func (PySem.W.fnOf x x (fV st) (cz st) (ak st) .none kV doc pm an cdv ct),osl⟩) (c:PySem.W.codeIn K cdv x=true) (k:PySem.W.keepIn K (.ref f)=true):FH K x st:=⟨f,_,ET l c k,a⟩
def Bn (x:Str) (st:Stmt) (ps:List Str):Prop:=∀(kV doc pm:Value) (an:Option Addr) (cdv ct:Value) (us:List Value),us.length=ps.length->bindArgs (PySem.W.fnOf x x (fV st) (cz st) (ak st) .none kV doc pm an cdv ct) ⟨us,[]⟩=pure (ps.zip us)
theorem JN {n:Nat} {P:List Value->Prop} {us:List Value} (hl:us.length=n+1) (h:∀a r,r.length=n->P (a::r)):P us:=by
 cases us with
 | nil=>cases hl
 | cons a r=>exact h a r (Nat.succ.inj hl)
theorem r9 {P:List Value->Prop} (h:∀a,P [a]) (us:List Value) (hl:us.length=1):P us:=JN hl fun a r hr=>by
 rw[Zm hr];exact h a
theorem vg {P:List Value->Prop} (h:∀a b,P [a,b]) (us:List Value) (hl:us.length=2):P us:=JN hl fun a r hr=>r9 (P:=fun r=>P (a::r)) (h a) r hr
section
variable {P:Program} {w:World} {K:PySem.W.Frag} {mg:Str->Option Value} {base h:Heap} {x:Str} {st:Stmt} {N ps:List Str} {k:Nat} {F:FS}
abbrev kZ (P:Program) (w:World) (K:PySem.W.Frag) (mg:Str->Option Value) (base:Heap) (x:Str) (st:Stmt) (N:List Str) (k:Nat) (F:FS):Prop :=
 ∀{f:Addr} {cdv:Value} {A:Around} {outer:List Env} {s:Shared} {H:Hp} {E:XK},Room k (A.deeper (envOfC x (ak st) s.heap.objs.size f cdv))->∃t,PSs (bw mD P w K mg base N x (ak st) f cdv A outer s H E).nox (cz st) t/\lM K t F
theorem Jq {f:Addr} {fd:FuncData} (F':Fun K x x st f fd) (S:FnScope N ps (ak st)) (hB:kZ P w K mg base x st N k F):FnOk P w K mg base mD (k+1) f fd ps (mE K (bN F N.length ps.length)):=by
 refine F'.ok S (fun vs H Q E h=>B3 h) fun cdv A outer s H vs Q E hr h=>?_;obtain⟨t,h1,h2⟩:=hB hr;exact⟨t,h1,uU h2 h⟩
theorem FH.cal (h':FH K x st) (X:K.In h) (G:h.Ns mainGlobals mg) (S:FnScope N ps (ak st)) (hb:Bn x st ps) (hB:kZ P w K mg base x st N k F):Cal P w K mg base x (k+1) ps (mE K (bN F N.length ps.length)):=by
 obtain⟨f,fd,F',a⟩:=h'.ex;exact⟨f,fd,Jq F' S hB,PySem.W.mg_of X G a,F'.kp,F'.binds hb⟩
theorem FH.calI (h':FH K x st) (X:K.In h) (G:h.Ns mainGlobals mg) (S:FnScope N ps (ak st)) (hb:Bn x st ps) (hB:kZ P w K mg base x st N k F):Cal P w K mg base x (k+1) ps (jX K (cL F N.length ps.length)):=by
 obtain⟨f,fd,F',a⟩:=h'.ex;refine⟨f,fd,F'.ok S (fun vs H Q E h=>Hy h) fun cdv A outer s H vs Q E hr h=>?_,PySem.W.mg_of X G a,F'.kp,F'.binds hb⟩;obtain⟨t,h1,h2⟩:=hB hr;exact⟨t,h1,ww h2 h⟩
theorem FH.calR {sp:Nat->Sp} (h':FH K x st) (X:K.In h) (G:h.Ns mainGlobals mg) (hb:Bn x st ps) (m:Nat) (h0:∀f fd,FnOk P w K mg base mD 0 f fd ps (sp 0)) (h1:∀n,n<=m->Cal P w K mg base x n ps (sp n)->∀f fd,Fun K x x st f fd->FnOk P w K mg base mD (n+1) f fd ps (sp (n+1))):∀n,n<=m+1->Cal P w K mg base x n ps (sp n):=by
 obtain⟨f,fd,F',a⟩:=h'.ex;intro n;induction n with
 | zero=>exact fun _=>⟨f,fd,h0 f fd,PySem.W.mg_of X G a,F'.kp,F'.binds hb⟩
 | succ n ih=>exact fun hn=>⟨f,fd,h1 n (Nat.le_of_succ_le_succ hn) (ih (Nat.le_of_succ_le hn)) f fd F',PySem.W.mg_of X G a,F'.kp,F'.binds hb⟩
theorem Cm {f:Addr} {fd:FuncData}:FnOk P w K mg base mD 0 f fd ps (mE K (du 0)):=by
 have no:∀vs H Q E,¬ mE K (du 0) vs H Q E:=fun vs H Q E h=>by
  obtain⟨Z,ds,z,el,lv,e,q⟩:=h;obtain⟨u,_,hd,_⟩:=pc e;cases hd
 exact⟨fun vs H Q E h=>absurd h (no vs H Q E),fun A outer s H args us vs Q E _ _ _ _ h=>absurd h (no vs H Q E)⟩
theorem FH.alike {F:(List D->Option Rz)->FS} (h':FH K x st) (X:K.In h) (G:h.Ns mainGlobals mg) (S:FnScope N ps (ak st)) (hb:Bn x st ps) (m:Nat) (hv:∀n u,Dp (n+1) u->bN (F (du n)) N.length ps.length [u,u]=some (.bl true,false))
  (hB:∀n g,n<=m->Cal P w K mg base x n ps (mE K g)->kZ P w K mg base x st N n (F g)):∀n,n<=m+1->Cal P w K mg base x n ps (mE K (du n)) :=
 h'.calR X G hb m (fun _ _=>Cm) fun n hn c f fd F'=>(Jq F' S (hB n _ hn c)).imp fun vs H Q E hs=>by
  obtain⟨Z,ds,z,el,lv,e,q⟩:=hs;obtain⟨u,rfl,hd,rfl⟩:=pc e;exact⟨Z,[u,u],(.bl true,false),el,lv,hv n u hd,q⟩
theorem FH.law {fa:Addr} (h':FH K "law" st) (X:K.In h) (G:h.Ns mainGlobals mg) (hfa:mg "law"=some (.ref fa)) (S:FnScope N ["_law_script"] (ak st)) (hb:Bn "law" st ["_law_script"]) (lv:∀ns:List Int,bN F N.length 1 [.fl (ns.map D.int)]=some (.bl true,false))
  (hB:∀base:Heap,kZ P w K mg base "law" st N k F):∃fd:FuncData,(∀(s:Shared) (v:Value),BindsTo s fd ⟨[v],[]⟩ [("_law_script",v)])/\∀base:Heap,K.In base->base.Ns mainGlobals mg->FnOk P w K mg base mD (k+1) fa fd ["_law_script"] (u6 K):=by
 obtain⟨f,fd,F',a⟩:=h'.ex;have e:=hfa.symm.trans (PySem.W.mg_of X G a);cases e;refine⟨fd,fun s v=>?_,fun base _ _=>(Jq F' S (hB base)).imp fun vs H Q E h=>?_⟩
 ·obtain⟨oc,od,kV,doc,pm,an,cdv,ct,osl,rfl,lk,hcd⟩:=F'.ex;exact .of_eq (hb kV doc pm an cdv ct [v] rfl)
 ·obtain⟨a,ns,rfl,sq,_,q⟩:=h;refine⟨fun _=>False,[.fl (ns.map D.int)],(.bl true,false),El.one (.fl (vs:=ns.map V.int) ?_ (by simp) fun i v d h1 h2=>?_),fun p z=>z.elim,lv ns,fun v H' _ r=>?_⟩
  ·rcases sq with s|s
   ·exact .inl ⟨s,fun z=>z⟩
   ·exact .inr fun H'=>.inr s
  ·rw[Wg]at h1 h2;obtain⟨c,e1,rfl⟩:=Yg.mp h1;rw[e1]at h2;obtain rfl:=Option.some.inj h2;exact .int _
  ·obtain rfl:=(show v=V.bl true from DA.ba (show DA K (fun _=>False) H' v (.bl true) from r));exact q H'
end
theorem walkZ {l:PySem.W.OpenLaw} {q:Program} {loose:List Str} {XP:(Str->Option Value)->Heap->Prop} {d:DefRec} {K:Params->PySem.W.Frag} {k:Nat} {as:List Addr} {sz t:Nat} (hn:l.most=some 63) (hdf:d.params.defaults=[]) (hr:Room k callerA) (ht:0<t) (hK:∀P,as=(K P).map (·.1))
  (F:∀(w:World) (mg:Str->Option Value) (fa:Addr) (h:Heap),(K w.params).In h->h.Ns mainGlobals mg->mg d.name=some (.ref fa) ->
   ∃fd:FuncData,(∀(s:Shared) (u:Value),BindsTo s fd ⟨[u],[]⟩ [("_law_script",u)])/\∀base:Heap,(K w.params).In base->base.Ns mainGlobals mg->FnOk l.prog w (K w.params) mg base mD k fa fd ["_law_script"] (u6 (K w.params))) :
  PySem.W.WalkX q loose XP (PySem.W.X.obsZ as) (PySem.W.X.valZ K sz t) l.row.toRowW d [] (fun f vs=>PySem.call f vs) :=
 L2.walk_of (n:=63) (k:=k) (x:="_law_script") (CX:=fun _=>mD) (sp:=fun w=>u6 (K w.params)) hn (by decide) hdf hr ht hK F (fun _ _ a ns hl _ hS=>⟨a,ns,rfl,hS,hl,fun _=>rfl⟩) fun _ _ _ _ _ z=>z
end VF
namespace VF22
open PySem PySem.Spec PyProof.Rows L2 VF
section
variable (K:PySem.W.Frag) {X:Cx} {a b o:Expr} {ta tb to:TE} {p pos apos cpos:Pos}
theorem bb (ha:PE X a ta) (hb:PE X b tb) (h:X.K=K:=by rfl) (hs:pU b:=by exact fun _ _=>rfl):PE X (.Subscript a b pos) (w5 (IU K) ta tb):=Dz (uQ h) ha hb hs
theorem dW (hm:X.mg "len"=none) (ha:PE X a ta) (h:X.K=K:=by rfl) (hg:Gl X "len":=by rfl) (n:noStar a=true:=by rfl):PE X (.Call (.Name "len" p) [a] [] pos) (z9 (yn K) (dM ta kN)) :=
 cF (wz h) hg hm PySem.boot_len (au ha ah n) (by decide) (by decide) (fu n) rfl
theorem qp (hm:X.mg "tuple"=none) (ha:PE X a ta) (h:X.K=K:=by rfl) (c:X.calm=true:=by rfl) (hg:Gl X "tuple":=by rfl) (n:noStar a=true:=by rfl):PE X (.Call (.Name "tuple" p) [a] [] pos) (z9 (ql K) (dM ta kN)) :=
 fq (rV h c) hg hm ir (au ha ah n) (by decide) (by decide) (fu n) rfl
theorem cq (hm:X.mg "isinstance"=none) (ha:PE X a ta) (hb:PE X b tb) (h:X.K=K:=by rfl) (hg:Gl X "isinstance":=by rfl) (n:noStar a=true:=by rfl) (n':noStar b=true:=by rfl) (hpl:(backTo pos (starEach [b] X.env)).any (·.1)=false:=by rfl) :
  PE X (.Call (.Name "isinstance" p) [a,b] [] pos) (z9 (Fy K) (dM ta (dM tb kN))) :=
 cF (qm h) hg hm L2.boot_isinstance (au ha (au hb ah n') n) (by decide) (by decide) (fu n) hpl
theorem br (ha:PE X a ta) (hb:PE X b tb) (h:X.K=K:=by rfl):PE X (.BinOp a .Add b pos) (w5 (uZ K) ta tb):=ce (u0 h) ha hb
theorem kg (ho:OpR X (compareOp op) r) (ha:PE X a ta) (hb:PE X b tb) (h:op≠.In:=by decide) (h2:op≠.NotIn:=by decide):PE X (.Compare a [op] [b] pos) (w5 r ta tb):=pR ho ha hb (xz _ h h2)
theorem bi (ho:OpR X (compareOp op) r) (ha:PE X a ta) (hb:PE X b tb) (h:op≠.In:=by decide) (h2:op≠.NotIn:=by decide):PT X (.Compare a [op] [b] pos) (uD (w5 r ta tb)):=gG ho ha hb (xz _ h h2)
theorem dB (ho:PE X o to) (ha:PE X a ta) (n:noStar a=true:=by rfl) (hbase:attributeBase o "append" X.env (eval o X.env)=eval o X.env:=by rfl)
  (hfew:((backTo cpos (starEach [a] X.env)).all (fun x=>!x.1)&&(backToKw cpos (keywordEach [] X.env)).all (fun x=>x.1.isSome)
   && decide (([a]:List Expr).length+([]:List Keyword).length+(if ([]:List Keyword).isEmpty then 0 else 1)<30))=true:=by rfl)
  (hline:(apos.endLine == cpos.line)=true:=by rfl):PE X (.Call (.Attribute o "append" apos) [a] [] cpos) (IV X.K "list" p6 to (dM ta kN)) :=
 ja PySem.F.plainAttrs_list PySem.F.slot_list_append PySem.F.type_list_append wj ho (au ha ah n) hbase hfew hline (fu n) rfl
end
end VF22
namespace VF22
open PySem PySem.Spec PyProof.Rows L2 VF
section
variable {X:Cx} {K:PySem.W.Frag}
def yG:V->List V->Hp->VK->Prop:=fun x vs H Q=>∃(a b:Str),x=.str a/\vs=[.str b]/\(b.length == 0)=false/\a.length<=100000/\∀l,H l=none->Q (.ref l) (upd H l (.lst ((Txt.split a b).map V.str)))
theorem pi:∀l:List (Str×Tok),Vals ((l.map (·.1)).map V.str) (strValues l)
 | []=>.nil
 | p::r=>.cons ⟨p.2,rfl⟩ (pi r)
theorem yH:Hn X "str.split" yG:=by
 intro pins s σ H x vs v us Q I rx rv hq;obtain⟨a,b,rfl,rfl,hb,hz,q⟩:=hq;obtain⟨t,rfl⟩:=rx;obtain⟨u,rfl,ru⟩:=vals1 rv;obtain⟨t',rfl⟩:=ru;have lim:(100000:Nat)+2<=sizeLine:=by rw[AF];decide
 have out:∀(c:List (Str×Tok)) (k:Nat),s.toks<=k->c.map (·.1)=Txt.split a b->c.length<=sizeLine->EP X pins σ Q (.ref s.heap.objs.size) { s with heap:=s.heap.push { cls:=.type "list",data:=.seq (strValues c).toArray },toks:=k }:=fun c k hk ec hc =>
  ⟨.ref s.heap.objs.size,_,I.laid (a:=s.heap.objs.size) (o:=.lst ((Txt.split a b).map V.str)) (t':=k) (ht:=I.tkl' hk) (fun _ _ z=>Ab _ z) (Wa _) ⟨by rw[Ya,← ec,Ya];exact hc,strValues c,0,ec ▸ pi c,Aj _ rfl⟩,rfl,q _ (I.hok.fresh (Wa _))⟩
 have lL:(Builtin.Str.partsBetween a (Builtin.Str.occurrences a b 0 a.length (a.length+1)) b.length).length<=sizeLine:=by
  have e1:=StrLaws.occ_length_le a b 0 a.length (a.length+1);rw[length_partsBetween];lia
 cases d1:(decide (a.length<b.length)||decide (Builtin.Str.strKind a<Builtin.Str.strKind b)) with
 | true=>exact AA F.slot_str_split (AJ _ _ _) F.entry_str_split (F.args_str_split_2 _ _) (meets_str_split_cannot_occur a b t t' d1) (out [(a,t)] s.toks (Wa _) (Ad d1).symm (by show 1<=sizeLine;lia))
 | false =>
  cases d2:(Builtin.Str.occurrences a b 0 a.length (a.length+1)).isEmpty with
  | true=>exact AA F.slot_str_split (AJ _ _ _) F.entry_str_split (F.args_str_split_2 _ _) (meets_str_split_not_found a b t t' d1 hb d2) (out [(a,t)] s.toks (Wa _) ((Ag (A9 d1)).trans (Ad d2)).symm (by show 1<=sizeLine;lia))
  | false =>
   refine AA F.slot_str_split (AJ _ _ _) F.entry_str_split (F.args_str_split_2 _ _) (meets_str_split_sep a b t t' d1 hb d2 (by lia) lL) ?_
   show wants _ _ _ { s with toks:=_,heap:=s.heap.push { cls:=.type "list",data:=.seq (strsFrom s.toks _).toArray } };rw[strsFrom_eq];refine out (numbered s.toks _) _ (Qm _ _) ((numbered_texts _ _).trans ((Ag (A9 d1)).trans (Ag (A9 d2))).symm) ?_;have:=congrArg List.length (numbered_texts s.toks (Builtin.Str.partsBetween a (Builtin.Str.occurrences a b 0 a.length (a.length+1)) b.length));rw[Ya]at this;rw[this];exact lL
def tV:D->List D->Option Rz
 | .str a,[.str b]=>if (b.length == 0)=false/\a.length<=100000 then some (.lst ((Txt.split a b).map D.str),true) else none
 | _,_=>none
theorem yI:yh K yG tV:=by
 intro Y H x xs d ds z Q lv b1 bs e q;cases d with
 | str a =>
  cases bs with
  | nil=>cases e
  | @cons v vs d ds b2 bs =>
   cases bs with
   | cons _ _=>cases d<;>cases e
   | nil =>
    cases d with
    | str b =>
     obtain⟨c,e⟩:=aK e;cases e;exact⟨a,b,b1,by rw[show v=V.str b from b2],c.1,c.2,fun r hr=>q _ _ (be hr _) (iV (Ce _) hr)⟩
    | _=>cases e
 | _=>cases e
end
end VF22
namespace VX
open PySem PySem.Spec PyProof.Rows L2 VF
abbrev mn (C t:Addr) (dx:Option Addr):Obj:={ cls:=.ref C,dict:=dx,data:=.fields #[.ref t,.none,.none,.none,.bool false,.none] }
inductive XO (H:Heap) (C N:Addr) (mr:List Value) (hd:Bool) (id:String):Prop
 | mk (a b:Str) (bs:List Value) (sn:List Str) (su:List Value) (x:Bool) (y:Option Bool) (z:Option Addr) (p0 p1 p2 p3 p5:Option Value) (e:H.get? C=some (excClassObj a b C N bs mr hd sn su x y z p0 p1 p2 p3 p5 id))
def JO (Q:Shared->Prop) (X:Value->Shared->Prop) (r:Result) (s:Shared):Prop:=match r with
 | .ok (.ret v)=>v=.none/\Q s
 | .ok _=>False
 | .error x=>X x s
section
variable {P:Program} {W:World} {A:Around} {X:Value->Shared->Prop} {S:Shared} {C N:Addr} {mr mB:List Value} {hd:Bool} {B id ii:String}
theorem yJ {us:List Value} {f:Addr} {o:Obj} {m:Str->Option Value} {Q:Fin->Shared->Prop} (c:XO S.heap C N mr hd id) (b:ExcBaseFacts B id ii mB) (tl:OwnTail S.heap mB mr) (n:S.heap.Ns N m) (i:m "__init__"=some (.ref f)) (l:S.heap.get? f=some o) (fn:o.cls=.type "function") (lL:us.length<=sizeLine)
  (q:∀H e t,(∀a u,S.heap.get? a=some u->H.get? a=some u)->S.heap.objs.size<=e->H.get? e=some (mn C t none)->codeAny (model P W) A (.call (.ref f) ⟨.ref e::us,[]⟩) (JO (fun s=>Q (.done (.ret (.ref e))) s) X) { S with heap:=H }) :
  wpAny (model P W) A (Builtin.«type.__call__» ⟨.ref C::us,[]⟩) Q X S:=by
 obtain⟨_,_,_,_,_,_,_,_,_,_,_,_,_,e0⟩:=c;obtain⟨H,gs,dr,tk,os⟩:=S;have up:∀(x y:Obj) a u,H.get? a=some u->((H.push x).push y).get? a=some u:=fun x y a u z=>Ab y (Ab x z)
 wp_walk using Am e0,wpAny_madeBy_exc e0
 refine codeAny_call_builtin_code (Code.quiet_builtin _ b.quiet) (wpAny_check_new_subT b tl e0 (codeAny_exc_new_subT b tl e0 ?_ lL));generalize hT:(H.push { cls:=.type "tuple",data:=.seq us.toArray }).push (mn C H.objs.size none)=H2;have kp:∀a u,H.get? a=some u->H2.get? a=some u:=fun a u z=>hT ▸ up _ _ a u z;have eg:H2.get? (H.objs.size+1)=some (mn C H.objs.size none):=by
  rw[← hT,← A8 H { cls:=.type "tuple",data:=.seq us.toArray }];exact Aj _ rfl
 have sb:∀{M:Model} {A:Around} {E:Value->Shared->Prop} {g:Array GenState} {d:Drawn} {t:Nat} {o:OsState} {R:Bool->Shared->Prop},R true ⟨H2,g,d,t,o⟩->wpAny M A (isSubtype (.ref C) (.ref C)) R E ⟨H2,g,d,t,o⟩:=fun r=>Ay (kp _ _ e0) (by rw[show(Value.ref C::mr).contains (.ref C)=true by simp];exact r)
 show wpAny _ _ _ _ _ _;unfold callSpecial? isInstance;unfold specialOf
 wp_walk using Am eg,sb
 refine wpAny_typeLookup_tail (kp _ _ e0) (n.keeps kp) (tl.keeps kp) b.mroIs b.init.lookup ?_;rw[i];have ty:Shared.TypeIs ⟨H2,gs,dr,tk,os⟩ (.ref f) "function":=⟨o,kp _ _ l,fn⟩;dsimp only;unfold bindSpecial
 wp_walk
 refine AG (q H2 _ _ kp (A5 _) eg) fun r s z=>?_;cases r with
 | error x=>exact z
 | ok fl =>
  cases fl with
  | ret v =>
   obtain⟨rfl,z⟩:=z
   wp_walk
   exact z
  | _=>exact z.elim
theorem wF {us:List Value} {f:Addr} {o:Obj} {m:Str->Option Value} {Q:Value->Shared->Prop} (c:XO S.heap C N mr hd id) (b:ExcBaseFacts B id ii mB) (tl:OwnTail S.heap mB mr) (n:S.heap.Ns N m) (i:m "__init__"=some (.ref f)) (l:S.heap.get? f=some o) (fn:o.cls=.type "function") (lL:us.length<=sizeLine)
  (q:∀H e t,(∀a u,S.heap.get? a=some u->H.get? a=some u)->S.heap.objs.size<=e->H.get? e=some (mn C t none)->codeAny (model P W) (A.under (.builtin "type.__call__" ⟨.ref C::us,[]⟩)) (.call (.ref f) ⟨.ref e::us,[]⟩) (JO (fun s=>Q (.ref e) s) X) { S with heap:=H }) :
  wpAny (model P W) A (call (.ref C) us) Q X S:=by
 have c':=c;obtain⟨_,_,_,_,_,_,_,_,_,_,_,_,_,e0⟩:=c';obtain⟨H,gs,dr,tk,os⟩:=S;have look:=tc_lookup;have bnd:=tc_bind (.ref C);have ty:Shared.TypeIs ⟨H,gs,dr,tk,os⟩ (.ref C) "type":=⟨_,e0,rfl⟩
 wp_walk
 refine codeAny_of_tree ?_;change wpAny _ _ (callAny (.ref C) ⟨us,[]⟩) _ _ _
 wp_walk using Am e0
 refine⟨rfl,codeAny_call_builtin_at (Code.quiet_builtin _ (by decide +kernel)) entry_typeCall (wpAny_check_type_call_sub e0 ?_)⟩
 refine yJ c b tl n i l fn lL fun H1 e t k z ee=>?_;refine AG (q H1 e t k z ee) fun r s w=>?_;cases r with
 | error x=>exact w
 | ok fl =>
  cases fl with
  | ret v=>exact w
  | _=>exact w.elim
theorem vh {M:Model} {en:Env} {ex:Sem Value} {R:Flow->Shared->Prop} (hb:mr.contains (.type "BaseException")=true) (hh:A.handled=none)
  (q:wpAny M A ex (fun v s=>∃e t dx,v=.ref e/\XO s.heap C N mr hd id/\s.heap.get? e=some (mn C t dx)/\X (.ref e) s) X S):wpAny M A (raiseStmt en (some ex) none) R X S:=by
 unfold raiseStmt;refine Aa (Ak q (fun v s z=>?_) fun _ _ z=>z);obtain⟨e,t,dx,rfl,⟨_,_,_,_,_,_,_,_,_,_,_,_,_,e0⟩,e1,x⟩:=z;obtain⟨H,gs,dr,tk,os⟩:=s;have sb:∀{M:Model} {A:Around} {E:Value->Shared->Prop} {g:Array GenState} {d:Drawn} {t:Nat} {o:OsState} {R:Bool->Shared->Prop},R true ⟨H,g,d,t,o⟩->wpAny M A (isSubtype (.ref C) (.type "BaseException")) R E ⟨H,g,d,t,o⟩:=fun r=>Ay e0 (by rw[show(Value.ref C::mr).contains (.type "BaseException")=true by rw[Wf,hb,Zi]];exact r)
 wp_walk using Am e1,Am e0,sb
 exact wpAny_raiseNew_none hh x
end
end VX
namespace VX
open PySem PySem.Spec PyProof.Rows L2 VF
section
variable {P:Program} {W:World} {A:Around} {X:Value->Shared->Prop} {S:Shared} {C N:Addr} {mr mB:List Value} {hd:Bool} {B id ii:String}
theorem wG {e t:Addr} {dx:Option Addr} {us:List Value} {Q:Value->Shared->Prop} (c:XO S.heap C N mr hd id) (b:ExcBaseFacts B id ii mB) (tl:OwnTail S.heap mB mr) (ee:S.heap.get? e=some (mn C t dx)) (lL:us.length<=sizeLine)
  (q:∀H t',(∀a u,a≠e->S.heap.get? a=some u->H.get? a=some u)->H.get? e=some (mn C t' dx)->Q .none { S with heap:=H }):wpAny (model P W) A (call (.builtin ii) (.ref e::us)) Q X S:=by
 obtain⟨_,_,_,_,_,_,_,_,_,_,_,_,_,e0⟩:=c;obtain⟨H,gs,dr,tk,os⟩:=S;have sb:∀{M:Model} {A:Around} {E:Value->Shared->Prop} {g:Array GenState} {d:Drawn} {t:Nat} {o:OsState} {R:Bool->Shared->Prop},R true ⟨H,g,d,t,o⟩->wpAny M A (isSubtype (.ref C) (.type B)) R E ⟨H,g,d,t,o⟩:=fun r=>Ay e0 (by rw[show(Value.ref C::mr).contains (.type B)=true by rw[Wf,tl.hasType b.hasB,Zi]];exact r)
 have any:∀(x y:String) (n:Nat),Bind.check ⟨.positional,"*",B,.self,[⟨"args",.varPos,false⟩]⟩ x y n []=pure ():=fun x y n=>check_star_args ..;have ns:=b.noStar;refine wpAny_call (AL b.init.plain b.initEntry ?_);simp only[checkBuiltinCall,b.initSplit,b.initRow,b.initKind]
 wp_walk using Am ee,Am e0,sb
 refine wpAny_onRaise ?_;change wpAny _ _ (Bind.check _ _ _ _ []) _ _ _;rw[any]
 wp_walk
 refine q _ H.objs.size (fun a u n z=>?_) ?_
 ·exact(Ai _ _ (Al n)).trans (Ab _ z)
 ·exact(Aq _ (Ab _ ee) rfl).trans rfl
end
theorem wH {M:Model} {A:Around} {X:Value->Shared->Prop} {S:Shared} {d:Addr} {f:Str} {tt:Tok} {v:Value} {R:Fin->Shared->Prop} (n:S.heap.Ns1 d fun _=>none) (q:∀H t,H.Ns1 d (fun y=>if y=f then some v else none)->Heap.SameBut d S.heap H->R (.done (.ret .none)) { S with heap:=H,toks:=t }) :
  wpAny M A (Builtin.ObjectAttr.storeInDict d (.str f tt) f v) R X S:=by
 unfold Builtin.ObjectAttr.storeInDict;unfold Builtin.ObjectAttr.newKeyGuard;refine Aa (Ah (Aa (wpAny_nsSet1 n fun G m sm=>?_)));obtain⟨_,_,_,g1,g2,lL⟩:=m.count (Within.cons f v Within.nil);refine Aa (wpAny_lookBehind g1 ?_ (Ah (q _ _ m sm)));rw[g2];exact pastItsLine_dict (Qb lL (by rw[AF];exact(by decide:1<=16777216+1)))
open PySem.W in
theorem tW {P:Program} {W:World} {A:Around} {X:Value->Shared->Prop} {S:Shared} {K:Frag} {C N T e:Addr} {mB:List Value} {B id sa ow:String} {f:Str} {v:Value} {t0:Addr} {Q:Unit->Shared->Prop} (kin:K.In S.heap) (c:XO S.heap C N (.ref T::mB) true id) (sf:StoreFacts B mB sa ow)
  (f1:findIn K (.ref C) "__setattr__"=some (some (.builtin sa))) (f2:findIn K (.ref C) f=some none) (eo:S.heap.get? e=some (mn C t0 none))
  (q:∀H t dx,H.get? e=some (mn C t0 (some dx))->S.heap.objs.size<=dx->dx≠e->H.Ns1 dx (fun y=>if y=f then some v else none)->(∀a u,a≠e->S.heap.get? a=some u->H.get? a=some u)->Q () { S with heap:=H,toks:=t }) :
  wpAny (model P W) A (setAttr (.ref e) f v) Q X S:=by
 obtain⟨_,_,_,_,_,_,_,_,_,_,_,_,_,e0⟩:=c;obtain⟨H,gs,dr,tk,os⟩:=S;have sb:∀{M:Model} {A:Around} {E:Value->Shared->Prop} {g:Array GenState} {d:Drawn} {t:Nat} {os:OsState} {R:Bool->Shared->Prop},R true ⟨H,g,d,t,os⟩->wpAny M A (isSubtype (.ref C) (.type ow)) R E ⟨H,g,d,t,os⟩:=fun r=>Ay e0 (by rw[show(Value.ref C::.ref T::mB).contains (.type ow)=true by rw[Wf,Wf,sf.hasOwner,Zi,Zi]];exact r)
 have lp:∀{M:Model} {A:Around} {E:Value->Shared->Prop} {g:Array GenState} {d:Drawn} {t:Nat} {os:OsState} {pt} {R:Obj->Shared->Prop},R (mn C t0 none) ⟨H,g,d,t,os⟩->wpAny M A (loadPart e pt) R E ⟨H,g,d,t,os⟩:=fun r=>Am eo r;have l1:=looks_findIn (M:=model P W) kin f1;have l2:=looks_findIn (M:=model P W) kin f2;have bd:=sf.slot.bind (.ref e);unfold setAttr callSpecial?;unfold specialOf
 wp_walk using lp
 refine Looks.here (s:=⟨H,gs,dr,tk+1,os⟩) l1 ?_;dsimp only
 wp_walk
 refine AL sf.slot.plain sf.entry ?_;have lk:Looks (model P W) H (isInstance (.ref e) (.type ow)) true:=fun A' Q' E' S' k z=>by
  obtain⟨H',gs',dr',tk',os'⟩:=S';unfold isInstance
  wp_walk using Am (k _ _ eo)
  refine Ay (k _ _ e0) ?_;rw[show(Value.ref C::.ref T::mB).contains (.type ow)=true by rw[Wf,Wf,sf.hasOwner,Zi,Zi]]
  exact z
 refine PySem.W.check_slot (s:=⟨H,gs,dr,tk+1,os⟩) sf.kind sf.split lk (sf.args (.ref e) (.str f tk) v) ?_;have ty:∀{M:Model} {A:Around} {E:Value->Shared->Prop} {g:Array GenState} {d:Drawn} {t:Nat} {os:OsState} {R:Value->Shared->Prop},R (.ref C) ⟨H,g,d,t,os⟩->wpAny M A (typeOf (.ref e)) R E ⟨H,g,d,t,os⟩:=fun r=>by
  unfold typeOf
  wp_walk using lp
  exact r
 have rl:refuseLoop (.ref e) "__setattr__" (.ref C::.ref T::mB)=pure ():=by
  rw[refuseLoop_ref,refuseLoop_ref];exact sf.passes _
 have l3:∀{A:Around} {E:Value->Shared->Prop} {g:Array GenState} {d:Drawn} {t:Nat} {os:OsState} {R:Option Value->Shared->Prop},R none ⟨H,g,d,t,os⟩->wpAny (model P W) A (typeLookup (.ref C) f) R E ⟨H,g,d,t,os⟩:=fun r=>Looks.here (s:=⟨H,_,_,_,_⟩) l2 r;have rf:∀{M:Model} {A:Around} {E:Value->Shared->Prop} {g:Array GenState} {d:Drawn} {t:Nat} {os:OsState} {R:Unit->Shared->Prop},R () ⟨H,g,d,t,os⟩->wpAny M A (Builtin.ObjectAttr.refuseIfOverridden (.ref e) "__setattr__") R E ⟨H,g,d,t,os⟩:=fun r=>by
  rw[refuse_eq];refine Aa (ty (Aa (wpAny_mroOf_exc e0 ?_)));rw[rl];exact Ah r
 delta Builtin.«object.__setattr__»
 have fin:∀{A:Around} {E:Value->Shared->Prop} {g:Array GenState} {d:Drawn} {t:Nat} {os:OsState} {R:Fin->Shared->Prop},(∀G t,G.get? e=some (mn C t0 (some H.objs.size))->G.Ns1 H.objs.size (fun y=>if y=f then some v else none)->(∀a u,a≠e->H.get? a=some u->G.get? a=some u)->R (.done (.ret .none)) ⟨G,g,d,t,os⟩) ->
   wpAny (model P W) A (Builtin.ObjectAttr.storeInDict H.objs.size (.str f tk) f v) R E ⟨(H.push { cls:=.type "dict",data:=.dict #[] }).update e fun o=>{ cls:=o.cls,dict:=some H.objs.size,data:=o.data,slots:=o.slots },g,d,t,os⟩:=fun {A E g d t os R} r=>by
  have ne:e≠H.objs.size:=Zf (Ac eo);have n0:=Heap.get?_update_ne (H.push { cls:=.type "dict",data:=.dict #[] }) H.objs.size e (fun o=>{ cls:=o.cls,dict:=some H.objs.size,data:=o.data,slots:=o.slots }) ne.symm;have n1:=n0.trans (Aj H rfl);refine wH (Heap.Ns1.of_empty ⟨_,_,_,n1,rfl,fun x hx=>absurd hx (by simp),fun _=>rfl⟩) fun G t' m sm=>r G t' ?_ m fun a u n z=>?_
  ·exact(sm.2 e ne).trans ((Aq _ (Ab _ eo) rfl).trans rfl)
  ·exact(sm.2 a (Zf (Ac z))).trans ((Heap.get?_update_ne _ _ _ _ n).trans (Ab _ z))
 wp_walk using rf,ty,l3,lp,Am e0,fin
 intro G t' g1 g2 g3;dsimp only
 wp_walk
 exact q G t' _ g1 (Wa _) (Qj (Ac eo)) g2 g3
end VX
namespace VX
open PySem PySem.Spec PySem.W PyProof.Rows L2 VF
def xφ (C e:Addr) (dx:Option Addr):Heap->Prop:=fun h=>∃t,h.get? e=some (mn C t dx)
theorem yK {P:Program} {w:World} {H:Hp} {h:Heap} {C e:Addr} {dx:Option Addr} (q:xφ C e dx h):ObjOk P w H h e (.ext (xφ C e dx)) :=
 ⟨q,let ⟨_,z⟩:=q;⟨_,z⟩,fun _ _ ⟨t,z⟩ k=>⟨t,k _ z⟩⟩
structure XC (K:PySem.W.Frag) (C T f:Addr) (id ii sa ow B:String) (mB:List Value):Prop where
 ob:∃N,(∃a b bs sn su x y z p0 p1 p2 p3 p5,K.lookup C=some (excClassObj a b C N bs (.ref T::mB) true sn su x y z p0 p1 p2 p3 p5 id))/\nsOkIn K N=true/\nsIn K N "__init__"=some (some (.ref f))
 tl:∃c0 dd cd sl,K.lookup T=some { cls:=c0,dict:=dd,data:=.cls cd,slots:=sl }/\nsOkIn K cd.ns=true/\nsIn K cd.ns "__init__"=some none
 bf:ExcBaseFacts B id ii mB
 sf:StoreFacts B mB sa ow
 st:findIn K (.ref C) "__setattr__"=some (some (.builtin sa))
 fo:∃o,K.lookup f=some o/\o.cls=.type "function"
 kp:keepIn K (.ref C)=true
section
variable {X:Cx} {K:PySem.W.Frag} {C T f:Addr} {id ii sa ow B:String} {mB:List Value} {pins:List (Addr×Obj)} {σ:L2.St} {H:Hp} {s:Shared} {h:Heap}
theorem XC.tail (x:XC K C T f id ii sa ow B mB) (kin:K.In h):OwnTail h mB (.ref T::mB):=by
 obtain⟨c0,dd,cd,sl,l,n,i⟩:=x.tl;exact .own (kin _ _ l) (.of_isNs (isNs_of_in kin n)) (nsMap_none_of_in kin n i) .base
theorem XC.cls (x:XC K C T f id ii sa ow B mB) (kin:K.In h):∃N,XO h C N (.ref T::mB) true id:=by
 obtain⟨N,⟨_,_,_,_,_,_,_,_,_,_,_,_,_,l⟩,_⟩:=x.ob;exact⟨N,.mk _ _ _ _ _ _ _ _ _ _ _ _ _ (kin _ _ l)⟩
def yL (C:Addr) (ta:TA):TE:=fun σ H Q=>ta σ H fun vs H1=>∃e ws,vs=.ref e::ws/\ws.length<=10/\H1 e=some (.ext (xφ C e none))/\Q .non H1
theorem vi {pl:Sem Bool} {x m:Str} {p apos pos:Pos} {a:Expr} {as:List Expr} {ta:TA} {mc:Value} (hK:X.K=K) (xc:XC K C T f id ii sa ow B mB) (hg:Gl X x) (hm:X.mg x=some (.ref T))
  (hga:specialIn K (.ref T) "__getattribute__"=some (some (.builtin "type.__getattribute__"))) (hrd:readsIn K T mc=true) (hf:findCls K (.ref T) mc m=some (.val (.builtin ii))) (ha:PA X (a::as) ta)
  (hh:handedIn (.builtin ii)=true:=by rfl) (hdb:(x == ("__debug__":Str))=false:=by decide) (hst:starEach (a::as) X.env=(false,eval a X.env)::starEach as X.env:=by rfl) (hpl:(backTo pos (starEach as X.env)).any (·.1)=false:=by rfl)
  (ht:eval (.Call (.Attribute (.Name x p) m apos) (a::as) [] pos) X.env=(do
   let ov ← eval (.Name x p) X.env
   standAt apos.atName
   let (f,first) ← holding [ov] (getMethod ov m pl)
   callWith pos f first (backTo pos (starEach (a::as) X.env)) (backToKw pos (keywordEach [] X.env))):=by rfl) :
  PE X (.Call (.Attribute (.Name x p) m apos) (a::as) [] pos) (yL C ta):=by
 intro pins s σ H Q I h;subst hK;refine PySem.W.methodCall_KW (pl:=pl) (cX I hg hm ?_ hdb) ht;refine method_cls I.kIn hga (cls_value I.kIn hrd hf hh ?_);have hA:=ha pos pins _ σ H _ (I.tok (s.toks+1)) h;rw[hst]at hA ⊢;refine AH (by show(false||(backTo pos (starEach as X.env)).any (·.1))=false;rw[hpl]<;>rfl) (AO ?_)
 refine b7 hA fun us s2 zz=>?_;obtain⟨vs,H2,I2,r2,e,ws,rfl,hl,ee,q⟩:=zz;cases r2 with
 | @cons _ u _ us' r rr =>
  obtain rfl:u=Value.ref e:=r;obtain⟨N,xo⟩:=xc.cls I2.kIn;obtain⟨t0,he⟩:=(I2.hok e _ ee).1;refine wG xo xc.bf (xc.tail I2.kIn) he (by rw[← rr.length];exact Qb hl (by decide)) fun h' t' k he'=>?_
  have I3:=I2.write (x:=e) (e:=e) (o:=.ext (xφ C e none)) (t':=s2.toks) (by rw[ee];exact True.intro) (.inl rfl) (fun b u hb z=>k b u hb z) ⟨_,he'⟩ (yK ⟨_,he'⟩)
  have eH:upd H2 e (.ext (xφ C e none))=H2:=by
   funext b
   by_cases hb:b=e
   ·subst hb;rw[aq,ee]
   ·rw[ag hb]
  rw[eH]at I3;exact⟨.non,H2,I3,rfl,q⟩
def JP (C:Addr) (n:Str) (ta tv:TE):TS:=fun D σ H=>tv σ H fun y H1=>ta σ H1 fun x H2=>∃e,x=.ref e/\H2 e=some (.ext (xφ C e none))/\∀dx,H2 dx=none->D.nx σ (upd (upd H2 e (.ext (xφ C e (some dx)))) dx (.xd [(n,y)]))
theorem Cn {o value:Expr} {n:Str} {pos' pos:Pos} {ta tv:TE} (hK:X.K=K) (xc:XC K C T f id ii sa ow B mB) (fn:findIn K (.ref C) n=some none) (ha:PE X o ta) (hv:PE X value tv)
  (hs:swapsWith value (some (.Attribute o n pos')) pos.line X.env=pure false:=by rfl):PS X (.Assign [.Attribute o n pos'] value pos) (JP C n ta tv):=by
 intro pins s σ H D I h;subst hK;refine plainObj_wpAny_Assign_Attribute (b7 (hv pins s σ H _ I h) fun u s1 ⟨y,H1,I1,ry,q⟩=>b7 (ha pins s1 σ H1 _ I1 q) fun ov s2 zz9=>?_) hs;obtain⟨x,H2,I2,rx,e,rfl,ee,q2⟩:=zz9;obtain rfl:ov=Value.ref e:=rx;obtain⟨N,xo⟩:=xc.cls I2.kIn;obtain⟨t0,he⟩:=(I2.hok e _ ee).1;refine bu (tW I2.kIn xo xc.sf xc.st fn he fun h' tk' dx hx' hnew hne hns k hle=>?_);have htk:0<tk':=I2.tkl' hle;have nd:H2 dx=none:=I2.hok.fresh hnew;have hnew:s2.heap.get? dx=none:=AN hnew;have ne1:∀b o,H2 b=some o->b≠dx:=fun b o z w=>by rw[w,nd]at z;cases z
 have old:∀b o,s2.heap.get? b=some o->b≠dx:=fun b o z w=>by rw[w,hnew]at z;cases z
 refine⟨σ,_,I2.un (h':=h') (t':=tk') ⟨fun b o z n _ _=>k b o (fun w=>by rw[w,ee]at n;cases n) z,fun b o z n _ _=>⟨o.slots,k b o (fun w=>by rw[w,ee]at n;cases n) z⟩,fun b o z n _=>?_,fun b o z _=>?_,fun b xs z=>?_,fun b o u z=>?_,fun b ps z=>?_⟩ fun b o z=>?_,q2 dx nd⟩
 ·rw[ag (old b o z),ag fun w=>by rw[w,ee]at n;cases n];exact n
 ·by_cases w:b=e
  ·rw[w];exact⟨_,hx'⟩
  ·exact⟨o,k b o w z⟩
 ·rw[ag (ne1 b _ z),ag (fun w=>by rw[w,ee]at z;cases z)];exact z
 ·rw[ag (ne1 b _ z),ag (fun w=>by rw[w,ee]at z;cases z)];exact z
 ·exact⟨#[],by rw[ag (ne1 b _ z),ag (fun w=>by rw[w,ee]at z;cases z),z];simp⟩
 ·by_cases w:b=dx
  ·subst w;rw[aq]at z;cases z;refine⟨_,hns,fun g=>?_⟩;by_cases hg:g=n
   ·subst hg;rw[Ad rfl,Yi];exact ry
   ·rw[Ag hg,Vk,show(g == n)=false from by simpa using hg];exact True.intro
  ·rw[ag w]at z;by_cases v:b=e
   ·subst v;rw[aq]at z;cases z;exact yK ⟨t0,hx'⟩
   ·rw[ag v]at z;refine(I2.hok b o z).stay (fun c v' hc qq=>k c v' ?_ qq) (fun c qq=>?_) fun c ys qq=>?_
    ·rcases hc with hc|hc
     ·rw[hc];exact v
     ·exact fun w'=>by rw[w',ee]at hc;cases hc
    ·rw[ag (ne1 c _ qq),ag (fun w'=>by rw[w',ee]at qq;cases qq)];exact qq
    ·rw[ag (ne1 c _ qq),ag (fun w'=>by rw[w',ee]at qq;cases qq)];exact qq
end
end VX
namespace VX
open PySem PySem.Spec PySem.W PyProof.Rows L2 VF
theorem FN {K:Frag} {h:Heap} {N:Addr} {m:Str->Option Value} {n:Str} {v:Value} (kin:K.In h) (g:h.Ns N m) (e:nsIn K N n=some (some v)):m n=some v:=by
 obtain⟨o,es,ep,g1,g2,_,g4⟩:=g;cases l:K.lookup N with
 | none=>unfold nsIn at e;rw[l]at e;cases e
 | some u =>
  obtain rfl:=Option.some.inj ((kin _ _ l).symm.trans g1);obtain⟨c,d,dt,sl⟩:=u;cases g2;unfold nsIn at e;rw[l]at e;dsimp only at e;cases w:es.toList.find? (·.key.isStr n) with
  | none=>rw[w]at e;dsimp only at e;split at e<;>cases e
  | some x =>
   rw[w]at e;cases e;rw[← g4 n];show nsFind es n=some x.val;unfold nsFind findBy;rw[← Array.find?_toList];exact congrArg (Option.map _) w
section
variable {X:Cx} {C T f:Addr} {id ii sa ow B:String} {mB:List Value} {pins:List (Addr×Obj)} {σ:L2.St} {H:Hp} {s:Shared} {k:Nat} {fd:FuncData} {ps:List Str} {sp:Sp} {dvs:List V} {ds:List Value}
theorem pk {Q:VK} {us:List Value} {vs:List V} (xc:XC X.K C T f id ii sa ow B mB) (F:FnOk X.prog X.w X.K X.mg X.base mD k f fd ps sp) (hr:Room (k+1) X.A) (hb:L2.Binds X.K fd ps ds) (hd:Vals dvs ds)
  (I:L2.Inv X pins σ H s) (r:Vals vs us) (hus:us.length<=sizeLine) (h:∀e,H e=none->sp (.ref e::(vs++dvs)) (upd H e (.ext (xφ C e none))) (fun v H2=>v=.non/\Q (.ref e) H2) E0) :
  wpAny (model X.prog X.w) X.A (call (.ref C) us) (EP X pins σ Q) X.xe s:=by
 obtain⟨N,⟨_,_,_,_,_,_,_,_,_,_,_,_,_,l⟩,hN,hi⟩:=xc.ob;obtain⟨oI,lI,cI⟩:=xc.fo;have hn:=Heap.Ns.of_isNs (isNs_of_in I.kIn hN);refine wF (.mk _ _ _ _ _ _ _ _ _ _ _ _ _ (I.kIn _ _ l)) xc.bf (xc.tail I.kIn) hn (FN I.kIn hn hi) (I.kIn _ _ lI) cI hus fun h' e t kk hz ht=>?_;have hq:=h e (I.hok.fresh hz);have I2:=I.laid (a:=e) (o:=.ext (xφ C e none)) (t':=s.toks) kk hz (yK ⟨t,ht⟩);have r2:Vals (V.ref e::(vs++dvs)) (Value.ref e::(us++ds)):=.cons rfl (r.append hd);have hl:(Value.ref e::us++ds).length=ps.length:=by
  have e:=r2.length;rw[F.len _ _ _ _ hq]at e;exact e.symm
 refine jm ?_;refine AG (F.run _ X.stack _ _ ⟨Value.ref e::us,[]⟩ (Value.ref e::(us++ds)) _ _ E0 (hr.make C us []) (I2.env0.make C us []) (hb _ (Value.ref e::us) I2.kIn hl) r2 hq) fun r s' hq' hle=>?_;cases r with
 | error e=>exact hq'.elim
 | ok fl =>
  cases fl with
  | ret u =>
   obtain⟨v,H',I3,rv,ev,q3⟩:=I2.after hq' hle;subst ev;exact⟨rv,⟨V.ref e,H',I3,rfl,q3⟩⟩
  | _=>exact hq'.elim
end
end VX
namespace VX
open PySem PySem.Spec PySem.W PyProof.Rows L2 VF
structure X1 (h:Heap) (e C:Addr) (dx:Option Addr) (T:Addr) (fl:Value):Prop where
 ex:∃vs sl,h.get? e=some ⟨.ref C,dx,.fields vs,sl⟩/\vs[1]?=some (.ref T)
 ne:T≠e
 tb:∃o ts,h.get? T=some o/\o.data=.fields ts/\ts[3]?=some fl
structure Kn (fs:List Addr) (ch:List Addr) (h h':Heap):Prop where
 keep:∀b o,b∉fs->b∉ch->h.get? b=some o->h'.get? b=some o
 slot:∀b o,b∈fs->b∉ch->h.get? b=some o->∃sl,h'.get? b=some { o with slots:=sl }
 size:h.objs.size<=h'.objs.size
theorem Kn.trans {fs ch ch':List Addr} {h h1 h2:Heap} (a:Kn fs ch h h1) (b:Kn fs ch' h1 h2):Kn fs (ch++ch') h h2 :=
 ⟨fun x o n m z=>b.keep x o n (fun w=>m (Xd _ w)) (a.keep x o n (fun w=>m (Wi _ w)) z),fun x o n m z=>by
  obtain⟨sl,z1⟩:=a.slot x o n (fun w=>m (Wi _ w)) z
  exact b.slot x { o with slots:=sl } n (fun w=>m (Xd _ w)) z1,Qb a.size b.size⟩
section
variable {M:Model} {A:Around} {X:Value->Shared->Prop} {S:Shared} {base:Heap} {en:Env} {outer:List Env} {L e C T:Addr} {dx:Option Addr}
theorem entry_at {vs:Array Value} {sl:Array (Option Value)} {hd:Value} {b:Bool} {Q:Unit->Shared->Prop} (fr:A.frames=some (en::outer)) (ff:S.heap.FunFrames base (en::outer)) (hf:en.frame=some L) (ee:S.heap.get? e=some ⟨.ref C,dx,.fields vs,sl⟩) (v1:1<vs.size)
  (q:∀H T,Kn (fA (en::outer)) [e] S.heap H->S.heap.objs.size<=T->X1 H e C dx T (rawInt L)->Q () { S with heap:=H }) :
  wpAny M A (do let a ← frameOf en;let pl ← entryPlaceOf L b;let x ← EntryCells.newEntry hd a .none (rawInt L) .none pl;setField (.ref e) 1 x) Q X S:=by
 have nf:e∉fA (en::outer):=fun z=>by
  obtain⟨_,o,z1,z2⟩:=ff.mem z;rw[ee]at z1;cases z1;exact z2 vs rfl
 refine Aa (wpAny_frameOf_fun fr ff hf fun H1 so=>Aa (wpAny_entryPlaceOf fun pl hp=>?_));have e1:H1.get? e=some ⟨.ref C,dx,.fields vs,sl⟩:=(so.2.1 e nf).trans ee
 delta EntryCells.newEntry newFields
 refine Aa (Aw ?_ (hp.sizeOk5 _ _ _ _ _));generalize hO:({ cls:=.type "traceback",dict:=none,data:=.fields ([hd,.ref L,.none,rawInt L,.none]++(if pl.isEmpty=true then List.replicate 6 Value.none else pl)).toArray }:Obj)=O;have e2:(H1.push O).get? e=some ⟨.ref C,dx,.fields vs,sl⟩:=Ab _ e1;have ne:H1.objs.size≠e:=Qj (Ac e1);refine AR e2 rfl v1 (q _ H1.objs.size ⟨fun b o n1 n2 z=>?_,fun b o n1 n2 z=>?_,?_⟩ (Nat.le_of_eq so.1.symm) ⟨⟨vs.setIfInBounds 1 (.ref H1.objs.size),sl,?_,by simp[v1]⟩,ne,O,?_⟩)
 ·exact(Ai _ _ fun w:e=b=>n2 (w ▸ .head _)).trans (Ab _ ((so.2.1 b n1).trans z))
 ·obtain⟨sl',z1⟩:=so.2.2 b o z;exact⟨sl',(Ai _ _ fun w:e=b=>n2 (w ▸ .head _)).trans (Ab _ z1)⟩
 ·rw[AK,A8,so.1];exact A5 _
 ·exact(Aq _ e2 rfl).trans rfl
 ·subst hO;exact⟨_,(Ai _ _ ne.symm).trans (Aj _ rfl),rfl,by rcases hp with rfl|⟨_,_,_,_,_,_,_,rfl⟩<;>simp⟩
theorem land {fl:Value} {Q:Unit->Shared->Prop} {fs:List Addr} (x:X1 S.heap e C dx T fl) (q:∀H,Kn fs [T] S.heap H->X1 H e C dx T .none->Q () { S with heap:=H }):wpAny M A (setFlight (.ref e) none) Q X S:=by
 obtain⟨⟨vs,sl,e1,v1⟩,ne,o,ts,t1,t2,t3⟩:=x;unfold setFlight;refine Aa (At e1 rfl v1 ?_);rw[Ad (show(Value.ref T != Value.none)=true by simp)]
 have v3:=(Xe.mp t3).1;refine AR t1 t2 v3 (q _ ⟨fun b o n1 n2 z=>?_,fun b o n1 n2 z=>⟨o.slots,?_⟩,?_⟩ ⟨⟨vs,sl,?_,v1⟩,ne,?_⟩)
 ·exact(Ai _ _ fun w:T=b=>n2 (w ▸ .head _)).trans z
 ·exact(Ai _ _ fun w:T=b=>n2 (w ▸ .head _)).trans z
 ·rw[AK];exact Wa _
 ·exact(Ai _ _ ne).trans e1
 ·have d:=AU t2 (·.setIfInBounds 3 ((none:Option Addr).elim Value.none fun f=>rawInt f));exact⟨_,_,Aq _ t1 (AI d),d,by simp[v3]⟩
theorem HX {vs:Array Value} {sl:Array (Option Value)} {Q:Unit->Shared->Prop} (fr:A.frames=some (en::outer)) (ff:S.heap.FunFrames base (en::outer)) (hf:en.frame=some L) (ee:S.heap.get? e=some ⟨.ref C,dx,.fields vs,sl⟩) (v1:vs[1]?=some .none)
  (q:∀H T,Kn (fA (en::outer)) [e] S.heap H->S.heap.objs.size<=T->X1 H e C dx T (rawInt L)->Q () { S with heap:=H }):wpAny M A (noteFrame (.ref e) en) Q X S:=by
 unfold noteFrame;rw[hf];refine Aa (At ee rfl v1 ?_);rw[Ag (by decide)]
 exact entry_at fr ff hf ee (Xe.mp v1).1 q
theorem yM {Q:Unit->Shared->Prop} (fr:A.frames=some (en::outer)) (ff:S.heap.FunFrames base (en::outer)) (hf:en.frame=some L) (x:X1 S.heap e C dx T .none) (hT:T∉fA (en::outer))
  (q:∀H T',Kn (fA (en::outer)) ([T]++[e]) S.heap H->S.heap.objs.size<=T'->X1 H e C dx T' (rawInt L)->(∃o ts,H.get? T=some o/\o.data=.fields ts/\ts[3]?=some .none)->Q () { S with heap:=H }):wpAny M A (noteFrame (.ref e) en) Q X S:=by
 obtain⟨⟨vs,sl,e1,v1⟩,ne,o,ts,t1,t2,t3⟩:=x;unfold noteFrame;rw[hf];refine Aa (At e1 rfl v1 ?_);rw[Ad (show(Value.ref T != Value.none)=true by simp)]
 refine Aa (At t1 t2 t3 ?_);rw[Ag (show ¬ (Value.none == rawInt L)=true by simp[rawInt])]
 refine Aa (AR t1 t2 (Xe.mp t3).1 ?_);have ot:∀b,b≠T->(S.heap.update T (Obj.mapFields (·.setIfInBounds 3 Value.none))).get? b=S.heap.get? b:=fun b n=>Ai _ _ (Al n);have k1:Kn (fA (en::outer)) [T] S.heap (S.heap.update T (Obj.mapFields (·.setIfInBounds 3 Value.none))):=⟨fun b o _ n z=>(ot b fun w=>n (w ▸ .head _)).trans z,fun b o _ n z=>⟨o.slots,(ot b fun w=>n (w ▸ .head _)).trans z⟩,by rw[AK];exact Wa _⟩
 have td:=AU t2 (·.setIfInBounds 3 Value.none);refine entry_at (S:={ S with heap:=S.heap.update T (Obj.mapFields (·.setIfInBounds 3 Value.none)) }) fr (ff.of_keeps fun b o z nn=>⟨o,(ot b fun w=>?_).trans z,rfl⟩) hf ((ot e (Al ne)).trans e1) (Xe.mp v1).1 fun H T' k z x=>q H T' (k1.trans k) (Qb k1.size z) x ⟨_,_,k.keep T _ hT (fun m=>ne (Wb.mp m)) (Aq _ t1 (AI td)),td,by simp[(Xe.mp t3).1]⟩
 rw[w,t1]at z;cases z;exact nn ts t2
theorem FP {vs:Array Value} {sl:Array (Option Value)} {Q:Unit->Shared->Prop} (fr:A.frames=some (en::outer)) (ff:S.heap.FunFrames base (en::outer)) (hf:en.frame=some L) (ee:S.heap.get? e=some ⟨.ref C,dx,.fields vs,sl⟩) (v1:vs[1]?=some .none)
  (q:∀H T,Kn (fA (en::outer)) [e] S.heap H->S.heap.objs.size<=T->X1 H e C dx T .none->Q () { S with heap:=H }):wpAny M A (leaving en (.ref e)) Q X S:=by
 unfold leaving;refine Aa (HX fr ff hf ee v1 fun H T k z x=>?_);refine land (S:={ S with heap:=H }) (fs:=fA (en::outer)) x fun H2 k2 x2=>q H2 T ?_ z x2;refine⟨fun b o n1 n2 w=>k2.keep b o n1 (fun m=>?_) (k.keep b o n1 n2 w),fun b o n1 n2 w=>?_,Qb k.size k2.size⟩
 ·rw[Wb.mp m]at w;exact absurd (Ac w) (Qk z)
 ·obtain⟨sl',w1⟩:=k.slot b o n1 n2 w;refine k2.slot b { o with slots:=sl' } n1 (fun m=>?_) w1;rw[Wb.mp m]at w;exact absurd (Ac w) (Qk z)
end
end VX
namespace VX
open PySem PySem.Spec PySem.W PyProof.Rows L2 VF
section
variable {P:Program} {w:World} {H:Hp} {h:Heap} {C e T:Addr} {dx:Option Addr} {fl:Value}
theorem DY (q:yφ C e dx T h):ObjOk P w H h e (.ext (yφ C e dx T)) :=
 ⟨q,let ⟨_,_,z,_⟩:=q;⟨_,z⟩,fun _ _ ⟨vs,sl,z,v⟩ k=>⟨vs,sl,k _ z,v⟩⟩
theorem HY (q:tφ T fl h):ObjOk P w H h T (.ext (tφ T fl)) :=
 ⟨q,let ⟨_,_,z,_⟩:=q;⟨_,z⟩,fun _ _ ⟨o,ts,z,v⟩ k=>⟨o,ts,k _ z,v⟩⟩
end
def fR (P:Program) (w:World):w6:=fun outer H s E e s'=>∃a H',e=.ref a/\s'.os=s.os/\AllBare s'.gens/\Un (fA outer) [] H H' s.heap s'.heap/\HOk P w H' s'.heap/\E (.ref a) none H'
abbrev two (H:Hp) (C e:Addr) (dx:Option Addr) (T:Addr) (fl:Value):Hp:=upd (upd H e (.ext (yφ C e dx T))) T (.ext (tφ T fl))
section
variable {X:Cx} {pins:List (Addr×Obj)} {σ:L2.St} {H:Hp} {s:Shared} {h':Heap} {ch:List Addr} {C e T:Addr} {dx:Option Addr} {fl:Value}
theorem se (I:L2.Inv X pins σ H s) (k:Kn (fA X.stack) ch s.heap h') (he:∃φ,H e=some (.ext φ)) (hT:(∃φ,H T=some (.ext φ))∨s.heap.objs.size<=T)
  (hc:∀b∈ch,b=e∨b=T∨∃φ,H b=some (.ext φ)/\φ h'/\∃o,h'.get? b=some o) (x:X1 h' e C dx T fl):L2.Inv X pins σ (two H C e dx T fl) { s with heap:=h' }:=by
 obtain⟨φe,he⟩:=he;obtain⟨ex,ne,tb⟩:=x;have hT':(∃φ,H T=some (.ext φ))∨(H T=none/\s.heap.get? T=none):=hT.imp id fun z=>⟨I.hok.fresh z,AN z⟩;have nT:∀b o,H b=some o->(∀φ,o≠.ext φ)->b≠T:=fun b o z n w=>by
  rw[w]at z;rcases hT' with⟨φ,q⟩|⟨q,_⟩
  ·rw[q]at z;cases z;exact n φ rfl
  ·rw[q]at z;cases z
 have nE:∀b o,H b=some o->(∀φ,o≠.ext φ)->b≠e:=fun b o z n w=>by
  rw[w,he]at z;cases z;exact n φe rfl
 have same:∀b o,H b=some o->(∀φ,o≠.ext φ)->two H C e dx T fl b=some o:=fun b o z n=>by
  unfold two;rw[ag (nT b o z n),ag (nE b o z n)];exact z
 have out:∀b,H b=none->b∈ch->∀o,s.heap.get? b≠some o:=fun b n m o z=>by
  rcases hc b m with w|w|⟨φ,w,_⟩
  ·rw[w,he]at n;cases n
  ·rw[w]at n z;rcases hT' with⟨φ,q⟩|⟨_,q⟩
   ·rw[q]at n;cases n
   ·rw[q]at z;cases z
  ·rw[w]at n;cases n
 have oc:∀c o,H c=some o->(∀φ,o≠.ext φ)->c∉ch:=fun c o z n m=>by
  rcases hc c m with w|w|⟨φ,w,_⟩
  ·exact nE c o z n w
  ·exact nT c o z n w
  ·rw[w]at z;cases z;exact n φ rfl
 refine I.call (ch:=[]) (g':=s.gens) (d':=s.drawn) (t':=s.toks) ⟨fun b o z n nf _=>k.keep b o nf (fun m=>out b n m o z) z,fun b o z n nf _=>k.slot b o nf (fun m=>out b n m o z) z,fun b o z n _=>?_,fun b o z _=>?_,fun b xs z=>same b _ z nofun,fun b o u z=>same b _ z nofun,fun b ps z=>⟨#[],by rw[Array.append_empty];exact same b _ z nofun⟩⟩ (fun b o z=>?_) I.bare nofun
 ·unfold two;rw[ag,ag]
  ·exact n
  ·intro w;rw[w,he]at n;cases n
  ·intro w;rw[w]at n z;rcases hT' with⟨φ,q⟩|⟨_,q⟩
   ·rw[q]at n;cases n
   ·rw[q]at z;cases z
 ·by_cases m:b∈ch
  ·rcases hc b m with w|w|⟨φ,_,_,w⟩
   ·rw[w];obtain⟨_,_,q,_⟩:=ex;exact⟨_,q⟩
   ·rw[w];obtain⟨_,_,q,_⟩:=tb;exact⟨_,q⟩
   ·exact w
  ·by_cases f:b∈fA X.stack
   ·obtain⟨_,q⟩:=k.slot b o f m z;exact⟨_,q⟩
   ·exact⟨_,k.keep b o f m z⟩
 ·unfold two at z;by_cases w:b=T
  ·subst w;rw[aq]at z;cases z;exact HY tb
  ·rw[ag w]at z;by_cases v:b=e
   ·subst v;rw[aq]at z;cases z;exact DY ex
   ·rw[ag v]at z;have nf:∀c u,H c=some u->c∉fA X.stack:=fun c u q m=>by rw[I.stkFree c m]at q;cases q
    by_cases m:b∈ch
    ·rcases hc b m with q|q|⟨φ,q,f,th⟩
     ·exact absurd q v
     ·exact absurd q w
     ·rw[q]at z;cases z;exact⟨f,th,(show ObjOk X.prog X.w H s.heap b (.ext φ) from I.hok b _ q).2.2⟩
    ·refine(I.hok b o z).stay (fun c u hc' q=>?_) (fun c q=>same c _ q nofun) fun c ys q=>same c _ q nofun;rcases hc' with rfl|hc'
     ·exact k.keep c u (nf c o z) m q
     ·exact k.keep c u (nf c _ hc') (oc c _ hc' nofun) q
end
section
variable {P:Program} {w:World} {K:Frag} {mg:Str->Option Value} {base:Heap} {N:List Str} {qual:Str} {scope:Scope} {f:Addr} {cd:Value} {A:Around} {outer:List Env} {s0 s:Shared} {H0 H:Hp} {E:XK} {pins:List (Addr×Obj)} {σ:L2.St} {C e:Addr} {dx:Option Addr}
theorem vj (I:L2.Inv (bw (fR P w) P w K mg base N qual scope f cd A outer s0 H0 E) pins σ H s) (he:H e=some (.ext (xφ C e dx))) (q:∀T,H T=none->E (.ref e) none (two H C e dx T .none)) :
  (bw (fR P w) P w K mg base N qual scope f cd A outer s0 H0 E).xe (.ref e) s:=by
 obtain⟨t,ee⟩:=(I.hok e _ he).1;refine FP I.ok.frames I.stack rfl ee rfl fun h' T k z x=>?_;have J:=se I k ⟨_,he⟩ (.inr z) (fun b m=>.inl (Wb.mp m)) x;exact⟨e,_,rfl,J.os,J.bare,J.base,J.hok,q T (I.hok.fresh z)⟩
end
end VX
namespace VX
open PySem PySem.Spec PySem.W PyProof.Rows L2 VF
def Jr (C:Addr) (n:Str):Sp:=fun vs H Q _=>∃e v,vs=[.ref e,v]/\H e=some (.ext (xφ C e none))/\∀dx,H dx=none->Q .non (upd (upd H e (.ext (xφ C e (some dx)))) dx (.xd [(n,v)]))
def Fn (H H':Hp) (dx:Option Addr) (n:Str) (v:V):Prop:=(n=""/\dx=none)∨∃d,dx=some d/\H d=none/\H' d=some (.xd [(n,v)])
structure Rsd (C:Addr) (n:Str) (v:V) (H H':Hp) (e:Addr):Prop where
 new:H e=none
 obj:∃dx T,T≠e/\H T=none/\H' e=some (.ext (yφ C e dx T))/\Fn H H' dx n v/\H' T=some (.ext (tφ T .none))
 old:∀b o,H b=some o->H' b=some o
def FQ (C:Addr):Sp:=fun vs H Q _=>∃e,vs=[.ref e]/\H e=some (.ext (xφ C e none))/\Q .non H
def Js (C:Addr) (E:XK):TS:=fun _ _ H=>∀e H',Rsd C "" .non H H' e->E (.ref e) none H'
section
variable {P:Program} {w:World} {K:Frag} {mg:Str->Option Value} {base:Heap} {N:List Str} {qual:Str} {scope:Scope} {g:Addr} {cd:Value} {A:Around} {outer:List Env} {s0:Shared} {H0:Hp} {E:XK} {C T f:Addr} {id ii sa ow B:String} {mB:List Value}
theorem wI {k:Nat} {fd:FuncData} {x:Str} {p cp pos:Pos} {ps:List Str} (xc:XC K C T f id ii sa ow B mB) (hbe:mB.contains (.type "BaseException")=true) (F:FnOk P w K mg base mD k f fd ps (FQ C)) (hr:Room (k+1) (A.deeper (envOfC qual scope s0.heap.objs.size g cd))) (hb:L2.Binds K fd ps [])
  (hg:Gl (bw (fR P w) P w K mg base N qual scope g cd A outer s0 H0 E) x) (hm:mg x=some (.ref C)) (hdb:(x == ("__debug__":Str))=false:=by decide) :
  PS (bw (fR P w) P w K mg base N qual scope g cd A outer s0 H0 E) (.Raise (some (.Call (.Name x p) [] [] cp)) none pos) (Js C E):=by
 intro pins s σ H D I h;obtain⟨M,⟨_,_,_,_,_,_,_,_,_,_,_,_,_,l⟩,_⟩:=xc.ob;rw[arm_exec_Raise];refine Aa (AB (vh (C:=C) (N:=M) (mr:=.ref T::mB) (hd:=true) (id:=id) (ex:=do let v ← eval (.Call (.Name x p) [] [] cp) (envOfC qual scope s0.heap.objs.size g cd);standAt pos;pure v) (by rw[Wf,hbe,Zi]) (I.ok.hd rfl) ?_))
 refine Aa (b7 ?_ fun v s1 z=>Aa (AB (Ah z)));refine As (cX I hg hm ?_ hdb);refine PySem.W.callWith_K0 I.kIn xc.kp (b7 (pk (Q:=fun u H2=>∃e,u=.ref e/\H e=none/\H2=upd H e (.ext (xφ C e none))) (us:=[]) (vs:=[]) (dvs:=[]) (ds:=[]) xc F hr hb .nil I .nil (Vj _) fun e he=>⟨e,rfl,aq,rfl,e,rfl,he,rfl⟩) fun u s1 zz=>?_);obtain⟨v,H2,I2,rv,e,rfl,he,rfl⟩:=zz;obtain rfl:u=Value.ref e:=rv;have e2:upd H e (.ext (xφ C e none)) e=some (.ext (xφ C e none)):=aq;obtain⟨t,ee⟩:=(I2.hok e _ e2).1;refine⟨e,t,none,rfl,.mk _ _ _ _ _ _ _ _ _ _ _ _ _ (I2.kIn _ _ l),ee,vj I2 e2 fun T' hT=>?_⟩;have a2:T'≠e:=fun z=>by rw[z,e2]at hT;cases hT
 have nT:H T'=none:=by rw[ag a2]at hT;exact hT
 refine h e _ ⟨he,⟨none,T',a2,nT,?_,.inl ⟨rfl,rfl⟩,?_⟩,fun b o z=>?_⟩
 ·unfold two;rw[ag (Al a2),aq]
 ·unfold two;rw[aq]
 ·have n1:b≠e:=fun q=>by rw[q,he]at z;cases z
  have n3:b≠T':=fun q=>by rw[q,nT]at z;cases z
  unfold two;rw[ag n3,ag n1,ag n1];exact z
end
structure CalG (P:Program) (w:World) (K:Frag) (mg:Str->Option Value) (base:Heap) (x:Str) (k:Nat) (ps:List Str) (sp:Sp):Prop where
 ex:∃f fd,FnOk P w K mg base (fR P w) k f fd ps sp/\mg x=some (.ref f)/\keepIn K (.ref f)=true/\L2.Binds K fd ps []
end VX
namespace VX
open PySem PySem.Spec PySem.W PyProof.Rows L2 VF
section
variable {P:Program} {w:World} {K:Frag} {mg:Str->Option Value} {base:Heap} {x qual n:Str} {st:Stmt} {ds:List Value} {N ps:List Str} {k:Nat} {C f:Addr} {fd:FuncData}
def HZ (C:Addr) (n:Str):TS:=z0 (uw (yL C (dM (mV 0) (dM (mV 1) kN)))) (JP C n (mV 0) (mV 1))
end
end VX
namespace VX
open PySem PySem.Spec PySem.W PyProof.Rows L2 VF
abbrev H9 (X:Cx) (v:Value):Cx:={ X with A:=X.A.mark (some v),calm:=false,xe:=fun _ _=>False }
section
variable {X:Cx} {pins:List (Addr×Obj)} {σ:L2.St} {H:Hp} {s:Shared} {v:Value}
theorem yN (I:L2.Inv X pins σ H s):L2.Inv (H9 X v) pins σ H s :=
 ⟨⟨I.ok.mod,I.ok.kind,I.ok.glob,I.ok.blt,I.ok.above,I.ok.inj,I.ok.has,I.ok.cab,nofun,I.ok.frames,I.ok.stk,I.ok.exf,I.ok.bs,I.ok.bsz,I.ok.noex,I.ok.exfs,I.ok.funs,I.ok.frf⟩,I.os,I.bare,I.base,I.loc,I.cell,I.free,I.freeC,I.pin,I.hok,I.len,I.tk⟩
theorem Co (ok:X.Ok) (I:L2.Inv (H9 X v) pins σ H s):L2.Inv X pins σ H s:=⟨ok,I.os,I.bare,I.base,I.loc,I.cell,I.free,I.freeC,I.pin,I.hok,I.len,I.tk⟩
theorem gone {M:Model} {A:Around} {E:Value->Shared->Prop} {i:Nat} {x:Str} {pos:Pos} {Q:Unit->Shared->Prop} (I:L2.Inv X pins σ H s) (hN:X.N.Nodup) (hi:X.N[i]?=some x) (hk:X.env.scope.names.lookup x=some .local)
  (q:∀s',L2.Inv X pins (σ.set i none) H s'->Q () s'):wpAny M A (do bindName X.env x .none;unbindBehindTheSuite X.env x pos) Q E s:=by
 obtain⟨m,hn,hl⟩:=id I.loc;obtain⟨oL,_,_,hoL,_⟩:=id hn;have hiσ:i<σ.length:=by rw[I.len];exact(Yd.mp hi).1
 refine bu (wpAny_nameGoes_keeps hk hn (by rw[I.ok.kind];rfl) fun h' u hn' hs hle=>q _ ?_)
 have lt:∀b o,X.s₀.heap.get? b=some o->b≠X.env.locals:=fun b o e=>Zf (Va (Ac e) I.ok.above);refine⟨I.ok,I.os,I.bare,⟨fun b o e n hb hx=>(hs.2 b (lt b o e)).trans (I.base.keep b o e n hb hx),fun b o e n hb hx=>?_,I.base.free,fun b o e hx=>?_,I.base.tups,I.base.frzs,I.base.tbls⟩,⟨_,hn',fun j y v' e1 e2 e3=>?_⟩,fun y c e=>?_,I.free,I.freeC,fun p hp=>?_,fun b o e=>?_,by simpa using I.len,I.tkl' hle⟩
 ·obtain⟨sl,e1⟩:=I.base.slot b o e n hb hx;exact⟨sl,(hs.2 b (lt b o e)).trans e1⟩
 ·obtain⟨o',e1⟩:=I.base.there b o e hx;exact⟨o',(hs.2 b (lt b o e)).trans e1⟩
 ·by_cases hj:j=i
  ·subst hj;rw[Wl hiσ]at e2;cases e2
  ·rw[Zk (Al hj)]at e2;obtain⟨u',r',z⟩:=hl j y v' e1 e2 e3;refine⟨u',r',?_⟩;rcases z with⟨k,e⟩|⟨k,c,e,z⟩
   ·have ny:y≠x:=fun e=>hj (mT hN e1 (e ▸ hi));exact .inl ⟨k,(Ag ny).trans e⟩
   ·exact .inr ⟨k,c,e,z.sameBut hs (I.cne y c e)⟩
 ·obtain⟨w',z⟩:=I.cell y c e;exact⟨w',z.sameBut hs (I.cne y c e)⟩
 ·obtain⟨e,n,ne,nf,d⟩:=I.pin p hp;exact⟨(hs.2 p.1 ne).trans e,n,ne,nf,d⟩
 ·refine(I.hok b o e).stay (fun c w' hc z=>(hs.2 c fun w=>?_).trans z) (fun _ z=>z) fun _ _ z=>z;rw[w]at hc;rcases hc with hc|hc
  ·rw[← hc,I.free]at e;cases e
  ·rw[I.free]at hc;cases hc
end
def JQ (X:Cx) (sts:List Stmt) (t:(Addr->Hp->Prop)->TS):Prop:=∀(pins:List (Addr×Obj)) (s:Shared) (σ:L2.St) (H:Hp) (D:Ends) (Ex:Addr->Hp->Prop),L2.Inv X pins σ H s->t Ex D σ H ->
 wpAny (model X.prog X.w) X.A (execs sts X.env) (SP X pins D) (fun e s'=>∃a H',e=.ref a/\L2.Inv X pins σ H' s'/\Ex a H') s
section
variable {X:Cx} {pins:List (Addr×Obj)} {σ:L2.St} {H:Hp} {s:Shared}
theorem vk {k:Nat} {f:Addr} {fd:FuncData} {ps:List Str} {sp:Sp} {Q:VK} {E:XK} {us:List Value} {vs:List V} (F:FnOk X.prog X.w X.K X.mg X.base (fR X.prog X.w) k f fd ps sp) (hr:Room k X.A) (hb:L2.Binds X.K fd ps [])
  (I:L2.Inv X pins σ H s) (r:Vals vs us) (h:sp vs H Q E):wpAny (model X.prog X.w) X.A (call (.ref f) us) (EP X pins σ Q) (fun e s'=>∃a H',e=.ref a/\L2.Inv X pins σ H' s'/\E (.ref a) none H') s:=by
 have hl:us.length=ps.length:=r.length.symm.trans (F.len _ _ _ _ h);have hb':=hb s us I.kIn (by rw[Xc];exact hl)
 rw[Xc]at hb';refine wpAny_call (jm (AG (F.run _ _ _ _ ⟨us,[]⟩ us vs _ E hr I.env0 hb' r h) fun r s' z hle=>?_));cases r with
 | error e =>
  obtain⟨a,H',rfl,os,bare,un,hok,q⟩:=z;exact⟨a,H',rfl,I.call' os un hok bare nofun (I.tkl' hle),q⟩
 | ok fl =>
  cases fl with
  | ret u=>exact I.after z hle
  | _=>exact z.elim
end
end VX
namespace VX
open PySem PySem.Spec PySem.W PyProof.Rows L2 VF
theorem vm {H:Hp} {C e T:Addr} {dx:Option Addr} {a b:Value}:two (two H C e dx T a) C e dx T b=two H C e dx T b:=by
 funext x
 unfold two;by_cases h:x=T
 ·rw[h,aq,aq]
 ·rw[ag h,ag h];by_cases g:x=e
  ·rw[g,aq,aq]
  ·rw[ag g,ag h,ag g]
def Ia (Cs:Addr->Prop) (i:Nat) (tb:(Addr->Hp->Prop)->TS) (th:Addr->TS):TS:=fun D σ H=>tb (fun a H'=>∃C dx T,Cs C/\T≠a/\H' a=some (.ext (yφ C a dx T))/\H' T=some (.ext (tφ T .none)) /\
 ∀T',H' T'=none->th a { nx:=fun σ' H2=>D.nx (σ'.set i none) H2,rt:=fun _ _=>False } (σ.set i (some (.ref a))) (two H' C a dx T' .none)) D σ H
theorem yO {M:Model} {A:Around} {E:Value->Shared->Prop} {S:Shared} {C N a:Addr} {mr:List Value} {hd:Bool} {id:String} {o:Obj} {nv:Value} {Q:Unit->Shared->Prop} (c:XO S.heap C N mr hd id) (hb:mr.contains (.type "BaseException")=true) (ha:S.heap.get? a=some o) (hc:o.cls=.ref C) (q:Q () S) :
  wpAny M A (checkBuiltinCall "BaseException.__getattribute__" ⟨[.ref a,nv],[]⟩) Q E S:=by
 obtain⟨_,_,_,_,_,_,_,_,_,_,_,_,_,e0⟩:=c;obtain⟨H,gs,dr,tk,os⟩:=S;have k1:builtinKind "BaseException.__getattribute__"=some .slot:=by decide +kernel
 have k2:splitId "BaseException.__getattribute__"=some ("BaseException","__getattribute__"):=by decide +kernel
 have k3:=F.args_bexc_ga (.ref a) nv;have sb:∀{M:Model} {A:Around} {E:Value->Shared->Prop} {g:Array GenState} {d:Drawn} {t:Nat} {o:OsState} {R:Bool->Shared->Prop},R true ⟨H,g,d,t,o⟩->wpAny M A (isSubtype (.ref C) (.type "BaseException")) R E ⟨H,g,d,t,o⟩:=fun r=>Ay e0 (by rw[show(Value.ref C::mr).contains (.type "BaseException")=true by rw[Wf,hb,Zi]];exact r)
 have ld:∀{M:Model} {A:Around} {E:Value->Shared->Prop} {g:Array GenState} {d:Drawn} {t:Nat} {os:OsState} {R:Value->Shared->Prop},R (.ref C) ⟨H,g,d,t,os⟩->wpAny M A (typeOf (.ref a)) R E ⟨H,g,d,t,os⟩:=fun r=>by
  unfold typeOf
  wp_walk using Am ha
  rw[hc];exact r
 unfold checkBuiltinCall;rw[k1];dsimp only;rw[k2];unfold isInstance
 wp_walk using ld,sb
 exact q
theorem Jt {P:Program} {W:World} {A:Around} {E:Value->Shared->Prop} {S:Shared} {K:Frag} {C N a:Addr} {mr:List Value} {hd ep:Bool} {id B:String} {o:Obj} {od:Option Obj} {n:Str} {v:Value} {Q:Value->Shared->Prop} (kin:K.In S.heap) (c:XO S.heap C N mr hd id) (hb:mr.contains (.type "BaseException")=true) (J:PySem.W.InstAt S.heap a o C od)
  (fb:ExcAttrFacts B) (ga:findIn K (.ref C) "__getattribute__"=some (some (.builtin "BaseException.__getattribute__"))) (gt:findIn K (.ref C) "__getattr__"=some none) (fo:findObj K C od n=some (.value v)) (hv:handedIn v=true) (q:Q v { S with toks:=S.toks+1 }) :
  wpAny (model P W) A (getAttr (.ref a) n ep) Q E S:=by
 obtain⟨H,gs,dr,tk,os⟩:=S;have ty:=J.type (M:=model P W);have l1:=looks_findIn (M:=model P W) kin ga;have l2:=looks_findIn (M:=model P W) kin gt;have l3:=looks_find (M:=model P W) kin J fo;have x0:(ep&&onTheHeap (Value.builtin "BaseException.__getattribute__"))=false:=by cases ep<;>rfl
 have x2:(Value.builtin "BaseException.__getattribute__" == Value.builtin "object.__getattribute__")=false:=by decide +kernel
 have x1:(onTheHeap (Value.ref C)&&Value.builtin "BaseException.__getattribute__" == Value.builtin "object.__getattribute__")=false:=by rw[x2];rfl
 have bd:=fb.ga.bind (.ref a);have ho:=handedOut_of hv;unfold getAttr getAttrBy
 wp_walk using ty.at,l1.at,l2.at
 refine AL fb.ga.plain F.entry_bexc_ga (yO (S:=⟨H,gs,dr,tk+1,os⟩) c hb J.at_ J.cls ?_)
 wp_walk using ty.at,l3.at
 exact q
end VX
namespace VX
open PySem PySem.Spec PySem.W PyProof.Rows L2 VF
structure XH (K:Frag) (C:Addr) (B:String):Prop where
 fb:ExcAttrFacts B
 ga:findIn K (.ref C) "__getattribute__"=some (some (.builtin "BaseException.__getattribute__"))
 gt:findIn K (.ref C) "__getattr__"=some none
 hd:hasDictIn K C=true
 ca:findIn K (.ref C) "__class__"=some (some (.builtin "object.__class__"))
 cn:specialIn K (.builtin "object.__class__") "__get__"=some (some (.builtin "getset_descriptor.__get__"))
 ck:takesIn K (.builtin "object.__class__")=some true
 cm:mroIn K C (.type "object")=some true
section
variable {K:Frag} {C T f a:Addr} {id ii sa ow B:String} {mB:List Value} {o:Obj} {od:Option Obj}
theorem FR {P:Program} {W:World} {A:Around} {E:Value->Shared->Prop} {S:Shared} {Q:Option Value->Shared->Prop} (xc:XC K C T f id ii sa ow B mB) (hbe:mB.contains (.type "BaseException")=true) (xh:XH K C B) (kin:K.In S.heap) (J:PySem.W.InstAt S.heap a o C od) (q:Q (some (.ref C)) { S with toks:=S.toks+1 }) :
  wpAny (model P W) A (getAttr? (.ref a) "__class__") Q E S:=by
 obtain⟨N,c⟩:=xc.cls kin;have fo:findObj K C od "__class__"=some (.bind (.builtin "getset_descriptor.__get__") (.builtin "object.__class__")):=by
  obtain⟨cd,e1,_⟩:=any_some xh.hd;simp[findObj,e1,xh.ca,xh.cn,xh.ck]
 obtain⟨H,gs,dr,tk,os⟩:=S;have ty:=J.type (M:=model P W);have l1:=looks_findIn (M:=model P W) kin xh.ga;have l2:=looks_findIn (M:=model P W) kin xh.gt;have l3:=looks_find (M:=model P W) kin J fo;have x0:(false&&onTheHeap (Value.builtin "BaseException.__getattribute__"))=false:=rfl;have x2:(Value.builtin "BaseException.__getattribute__" == Value.builtin "object.__getattribute__")=false:=by decide +kernel
 have x1:(onTheHeap (Value.ref C)&&Value.builtin "BaseException.__getattribute__" == Value.builtin "object.__getattribute__")=false:=by rw[x2];rfl
 have bd:=xh.fb.ga.bind (.ref a);unfold getAttr?;unfold getAttrBy? getAttrBy
 wp_walk using ty.at,l1.at,l2.at
 refine AL xh.fb.ga.plain F.entry_bexc_ga (yO (S:=⟨H,gs,dr,tk+1,os⟩) c (by rw[Wf,hbe,Zi]) J.at_ J.cls ?_)
 wp_walk using ty.at,l3.at
 have ho:handedOut (.ref C)=pure (.ref C):=handedOut_of rfl;refine class_get (s:=⟨H,gs,dr,tk+1,os⟩) (ox:=o) (od:=od) kin J xh.cm ?_
 wp_walk
 exact q
theorem tX (xc:XC K C T f id ii sa ow B mB) (hbe:mB.contains (.type "BaseException")=true) (xh:XH K C B):KitX K (.ref a) (.ref C) (fun h=>PySem.W.InstAt h a o C od) where
 ty:=fun _ _ _ J=>J.type
 it:=fun M h kin _ A' Q' E' s' k q=>by
  obtain⟨N,⟨_,_,_,_,_,_,_,_,_,_,_,_,_,l⟩,_⟩:=xc.ob;unfold isType loadHead;exact Aa (wpAny_loadPart (k C _ (kin C _ l)) (Ah q))
 ne:=fun h tp dd its n sl kin ht=>by
  obtain⟨N,⟨_,_,_,_,_,_,_,_,_,_,_,_,_,l⟩,_⟩:=xc.ob;by_cases w:C=tp
  ·rw[← w,kin C _ l]at ht;exact absurd (congrArg Obj.data (Option.some.inj ht)) nofun
  ·simpa using w
 ca:=fun kin J q=>FR xc hbe xh kin J q
end
theorem vn:∀{cs:List Addr} {us:List Value},Vals (cs.map V.ref) us->us=cs.map Value.ref
 | [],_,.nil=>rfl
 | c::cs,_,.cons r rr=>by
  cases (show _=Value.ref c from r);rw[vn rr];rfl
def Dx (H:Hp) (dx:Option Addr):Prop:=dx=none∨∃d fs,dx=some d/\H d=some (.xd fs)
def sh (K:Frag) (C:Addr):List V->Hp->VK->Prop:=fun vs H Q=>∃a dx T b cv,vs=[.ref a,.ref cv]/\H a=some (.ext (yφ C a dx T))/\Dx H dx/\(kitOne K (.ref C) (.ref cv)=some b∨∃cs:List Addr,H cv=some (.tup (cs.map V.ref))/\kitAny K (.ref C) (cs.map Value.ref)=some b)/\Q (.bl b) H
def JR (C:Addr) (n:Str) (te:TE):TE:=fun σ H Q=>te σ H fun x H1=>∃a dx T fs v,x=.ref a/\H1 a=some (.ext (yφ C a (some dx) T))/\H1 dx=some (.xd fs)/\fs.lookup n=some v/\Q v H1
section
variable {X:Cx} {K:Frag} {C T f a dx:Addr} {id ii sa ow B:String} {mB:List Value} {pins:List (Addr×Obj)} {σ:L2.St} {H:Hp} {s:Shared} {fs:List (Str×V)}
theorem x_at (I:L2.Inv X pins σ H s) {T':Addr} (ea:H a=some (.ext (yφ C a (some dx) T'))) (ex:H dx=some (.xd fs)):∃(o od:Obj) (mA:Str->Option Value),PySem.W.InstAt s.heap a o C (some od)/\(∀n,lookIn n od=some (mA n))/\∀n,RelO (fs.lookup n) (mA n):=by
 obtain⟨vs,sl,z,_⟩:=(I.hok a _ ea).1;obtain⟨mA,ns,r⟩:=(show ObjOk X.prog X.w H s.heap dx (.xd fs) from I.hok dx _ ex);obtain⟨od,z2,l⟩:=oJ ns;exact⟨_,od,mA,⟨z,rfl,rfl,z2⟩,l,r⟩
theorem DZ (I:L2.Inv X pins σ H s) {T':Addr} {dx:Option Addr} (ea:H a=some (.ext (yφ C a dx T'))) (ex:Dx H dx):∃(o:Obj) (od:Option Obj),PySem.W.InstAt s.heap a o C od:=by
 rcases ex with rfl|⟨d,fs,rfl,ex⟩
 ·obtain⟨vs,sl,z,_⟩:=(I.hok a _ ea).1;exact⟨_,none,⟨z,rfl,rfl,trivial⟩⟩
 ·obtain⟨o,od,mA,J,_⟩:=x_at I ea ex;exact⟨o,some od,J⟩
theorem bZ (h:X.K=K) (xc:XC K C T f id ii sa ow B mB) (hbe:mB.contains (.type "BaseException")=true) (xh:XH K C B):CallR X (.builtin "isinstance") (sh K C):=by
 intro pins s σ H vs us Q I r q;subst h;obtain⟨a,dx,T',b,cv,rfl,ea,ex,hc,q⟩:=q;obtain⟨o,od,J⟩:=DZ I ea ex;cases r with
 | cons r1 r2 =>
  cases r2 with
  | cons r2 r3 =>
   cases r3;cases (show _=Value.ref a from r1);cases (show _=Value.ref cv from r2);refine bu ?_;have en:∀tk,s.toks<=tk->EP X pins σ Q (.bool b) { s with toks:=tk }:=fun tk hle=>⟨.bl b,H,I.tok tk (I.tkl' hle),rfl,q⟩;rcases hc with hc|⟨cs,ec,hc⟩
   ·exact kia_one (tX xc hbe xh) I.kIn J hc nofun en
   ·obtain⟨_,us,rv,p⟩:=(show ObjOk X.prog X.w H s.heap cv (.tup (cs.map V.ref)) from I.hok cv _ ec);have eu:=vn rv;subst eu;obtain⟨o',p1,p2,n,p3⟩:=p;obtain⟨c1,c2,c3,c4⟩:=o';cases p2;cases p3;exact kia_tup (tX xc hbe xh) I.kIn J p1 hc nofun en
theorem FU {e:Expr} {n:Str} {pos:Pos} {te:TE} (h:X.K=K) (xc:XC K C T f id ii sa ow B mB) (hbe:mB.contains (.type "BaseException")=true) (xh:XH K C B) (fn:findIn K (.ref C) n=some none) (he:PE X e te) (hb:attributeBase e n X.env (eval e X.env)=eval e X.env:=by rfl):PE X (.Attribute e n pos) (JR C n te):=by
 intro pins s σ H Q I q;subst h;refine z6 hb (b7 (he pins s σ H _ I q) fun u s1 zz=>?_);obtain⟨x,H1,I1,rx,a,dx,T',fs,v,rfl,ea,ex,l,q⟩:=zz;cases (show u=Value.ref a from rx);obtain⟨o,od,mA,J,lk,rl⟩:=x_at I1 ea ex;obtain⟨u,hu,ru⟩:=RelO.some_of (v:=v) (o:=mA n) (by rw[← l];exact rl n)
 obtain⟨N,c⟩:=xc.cls I1.kIn;exact Jt I1.kIn c (by rw[Wf,hbe,Zi]) J xh.fb xh.ga xh.gt (findObj_own xh.hd fn rfl (by rw[lk,hu])) (v8 ru) ⟨v,H1,I1.tok _,ru,q⟩
end
end VX
namespace VX
open PySem PySem.Spec PySem.W PyProof.Rows L2 VF
def D0 (s:Stmt) (i:Nat):Stmt:=match s with
 | .ClassDef _ _ _ b _ _ _ _ _ _ _=>b.getD i (.Pass ⟨0,0,0,0⟩)
 | _=>.Pass ⟨0,0,0,0⟩
def Ju (es:Array DictEntry):Bool:=es.toList.all fun e=>match e.key with|.str _ _=>true|_=>false
theorem nsOk_of {K:Frag} {N:Addr} {nc:Value} {nd:Option Addr} {es:Array DictEntry} {ep:Nat} {ns:Array (Option Value)} (l:K.lookup N=some ⟨nc,nd,.dict es ep,ns⟩) (t:Ju es=true):nsOkIn K N=true:=by
 unfold nsOkIn;rw[l];exact Array.all_toList.symm.trans t
abbrev mVE:List Value:=[.type "ValueError",.type "Exception",.type "BaseException",.type "object"]
theorem xc_mk {K:Frag} {C S f N:Addr} {a b:Str} {bs:List Value} {sn:List Str} {su:List Value} {x:Bool} {y:Option Bool} {z:Option Addr} {p0 p1 p2 p3 p5:Option Value} {c0:Value} {dd:Option Addr} {cd:ClassData} {sl:Array (Option Value)} {o:Obj}
  (l:K.lookup C=some (excClassObj a b C N bs (.ref S::mVE) true sn su x y z p0 p1 p2 p3 p5 "ValueError.__new__")) (n:nsOkIn K N=true) (i:nsIn K N "__init__"=some (some (.ref f))) (l2:K.lookup S=some { cls:=c0,dict:=dd,data:=.cls cd,slots:=sl }) (n2:nsOkIn K cd.ns=true) (i2:nsIn K cd.ns "__init__"=some none)
  (st:findIn K (.ref C) "__setattr__"=some (some (.builtin "object.__setattr__"))) (lf:K.lookup f=some o) (fc:o.cls=.type "function") (kp:keepIn K (.ref C)=true):XC K C S f "ValueError.__new__" "ValueError.__init__" "object.__setattr__" "object" "ValueError" mVE :=
 ⟨⟨N,⟨a,b,bs,sn,su,x,y,z,p0,p1,p2,p3,p5,l⟩,n,i⟩,⟨c0,dd,cd,sl,l2,n2,i2⟩,PySem.F.excBase_ValueError,PySem.F.store_ValueError,st,⟨o,lf,fc⟩,kp⟩
abbrev JX (P:Program) (w:World) (K:Frag) (mg:Str->Option Value) (base:Heap) (qual n:Str) (C f:Addr) (st:Stmt) (N:List Str) (k:Nat):Prop :=
 ∀{cdv:Value} {A:Around} {outer:List Env} {s:Shared} {H:Hp} {E:XK},Room k (A.deeper (envOfC qual (ak st) s.heap.objs.size f cdv))->PSs (bw mD P w K mg base N qual (ak st) f cdv A outer s H E).nox (cz st) (HZ C n)
end VX
namespace VX
open PySem PySem.Spec PySem.W PyProof.Rows L2 VF
def Jv (C:Addr) (n:Str) (te:TE) (E:XK):TS:=fun _ σ H=>te σ H fun v H1=>∀e H',Rsd C n v H1 H' e->E (.ref e) none H'
section
variable {P:Program} {w:World} {K:Frag} {mg:Str->Option Value} {base:Heap} {N:List Str} {qual:Str} {scope:Scope} {g:Addr} {cd:Value} {A:Around} {outer:List Env} {s0:Shared} {H0:Hp} {E:XK} {C T f:Addr} {id ii sa ow B:String} {mB:List Value}
theorem wJ {k:Nat} {fd:FuncData} {x n:Str} {e0:Expr} {te:TE} {p cp pos:Pos} {ps:List Str} (xc:XC K C T f id ii sa ow B mB) (hbe:mB.contains (.type "BaseException")=true) (F:FnOk P w K mg base mD k f fd ps (Jr C n)) (hr:Room (k+1) (A.deeper (envOfC qual scope s0.heap.objs.size g cd))) (hb:L2.Binds K fd ps [])
  (hg:Gl (bw (fR P w) P w K mg base N qual scope g cd A outer s0 H0 E) x) (hm:mg x=some (.ref C)) (ha:PE (bw (fR P w) P w K mg base N qual scope g cd A outer s0 H0 E) e0 te) (hst:noStar e0=true:=by rfl) (hdb:(x == ("__debug__":Str))=false:=by decide)
  (he:starEach [e0] (bw (fR P w) P w K mg base N qual scope g cd A outer s0 H0 E).env=(false,eval e0 (bw (fR P w) P w K mg base N qual scope g cd A outer s0 H0 E).env)::[]:=by rfl) :
  PS (bw (fR P w) P w K mg base N qual scope g cd A outer s0 H0 E) (.Raise (some (.Call (.Name x p) [e0] [] cp)) none pos) (Jv C n te E):=by
 intro pins s σ H D I h;obtain⟨M,⟨_,_,_,_,_,_,_,_,_,_,_,_,_,l⟩,_⟩:=xc.ob;rw[arm_exec_Raise];refine Aa (AB (vh (C:=C) (N:=M) (mr:=.ref T::mB) (hd:=true) (id:=id) (ex:=do let v ← eval (.Call (.Name x p) [e0] [] cp) (envOfC qual scope s0.heap.objs.size g cd);standAt pos;pure v) (by rw[Wf,hbe,Zi]) (I.ok.hd rfl) ?_))
 refine Aa (b7 ?_ fun v s1 z=>Aa (AB (Ah z)));refine As (cX I hg hm ?_ hdb);refine PySem.W.callWith_K (h₀:=base) I.ok.mod.kin xc.kp (b7 (au ha ah hst cp pins s σ H (fun vs H1=>match vs with|[v]=>∀e H',Rsd C n v H1 H' e->E (.ref e) none H'|_=>False) I h) fun us s1 zz=>?_) he rfl
 obtain⟨vs,H,I,r,h⟩:=zz;split at h
 rotate_left
 ·exact h.elim
 rename_i v
 refine⟨I.kIn,b7 (pk (Q:=fun u H2=>∃e dx,u=.ref e/\H e=none/\upd H e (.ext (xφ C e none)) dx=none/\H2=upd (upd (upd H e (.ext (xφ C e none))) e (.ext (xφ C e (some dx)))) dx (.xd [(n,v)])) (dvs:=[]) (ds:=[]) xc F hr hb .nil I r (by show us.length<=_;rw[← r.length];exact A3 rfl) fun e he=>⟨e,v,rfl,aq,fun dx hx=>⟨rfl,e,dx,rfl,he,hx,rfl⟩⟩) fun u s2 zz=>?_⟩
 obtain⟨w',H2,I2,rv,e,dx,rfl,he,hx,rfl⟩:=zz;obtain rfl:u=Value.ref e:=rv;have ne:e≠dx:=fun z=>by rw[← z,aq]at hx;cases hx
 have nx:H dx=none:=by rw[ag (Al ne)]at hx;exact hx
 have e2:upd (upd (upd H e (.ext (xφ C e none))) e (.ext (xφ C e (some dx)))) dx (.xd [(n,v)]) e=some (.ext (xφ C e (some dx))):=by rw[ag ne,aq]
 obtain⟨t,ee⟩:=(I2.hok e _ e2).1;refine⟨e,t,some dx,rfl,.mk _ _ _ _ _ _ _ _ _ _ _ _ _ (I2.kIn _ _ l),ee,vj I2 e2 fun T' hT=>?_⟩;have a1:T'≠dx:=fun z=>by rw[z,aq]at hT;cases hT
 have a2:T'≠e:=fun z=>by rw[z,e2]at hT;cases hT
 have nT:H T'=none:=by rw[ag a1,ag a2,ag a2]at hT;exact hT
 refine h e _ ⟨he,⟨some dx,T',a2,nT,?_,.inr ⟨dx,rfl,nx,?_⟩,?_⟩,fun b o z=>?_⟩
 ·unfold two;rw[ag (Al a2),aq]
 ·unfold two;rw[ag (Al a1),ag (Al ne),aq]
 ·unfold two;rw[aq]
 ·have n1:b≠e:=fun q=>by rw[q,he]at z;cases z
  have n2:b≠dx:=fun q=>by rw[q,nx]at z;cases z
  have n3:b≠T':=fun q=>by rw[q,nT]at z;cases z
  unfold two;rw[ag n3,ag n1,ag n2,ag n1,ag n1];exact z
end
section
variable {M:Model} {A:Around} {X:Value->Shared->Prop} {S:Shared} {base:Heap} {en:Env} {outer:List Env} {L e C T:Addr} {dx:Option Addr}
theorem FV {Q:Unit->Shared->Prop} (fr:A.frames=some (en::outer)) (ff:S.heap.FunFrames base (en::outer)) (hf:en.frame=some L) (x:X1 S.heap e C dx T .none) (hT:T∉fA (en::outer))
  (q:∀H T',Kn (fA (en::outer)) ([T]++[e]) S.heap H->S.heap.objs.size<=T'->X1 H e C dx T' .none->(∃o ts,H.get? T=some o/\o.data=.fields ts/\ts[3]?=some .none)->Q () { S with heap:=H }):wpAny M A (leaving en (.ref e)) Q X S:=by
 unfold leaving;refine Aa (yM fr ff hf x hT fun H T' k z x' old=>?_);obtain⟨o,ts,t1,t2,t3⟩:=x.tb;have lT:=Ac t1;have nT:T≠T':=Zf (Va lT z);refine land (S:={ S with heap:=H }) (fs:=fA (en::outer)) x' fun H2 k2 x2=>q H2 T' ⟨fun b o n1 n2 w=>?_,fun b o n1 n2 w=>?_,Qb k.size k2.size⟩ z x2 ?_
 ·refine k2.keep b o n1 (fun m=>?_) (k.keep b o n1 n2 w);rw[Wb.mp m]at w;exact absurd (Ac w) (Qk z)
 ·obtain⟨sl',w1⟩:=k.slot b o n1 n2 w;refine k2.slot b { o with slots:=sl' } n1 (fun m=>?_) w1;rw[Wb.mp m]at w;exact absurd (Ac w) (Qk z)
 ·obtain⟨o',ts',w1,w2,w3⟩:=old;exact⟨o',ts',k2.keep T o' hT (fun m=>nT (Wb.mp m)) w1,w2,w3⟩
end
section
variable {P:Program} {w:World} {K:Frag} {mg:Str->Option Value} {base:Heap} {N:List Str} {qual:Str} {scope:Scope} {f:Addr} {cd:Value} {A:Around} {outer:List Env} {s0 s:Shared} {H0 H:Hp} {E:XK} {pins:List (Addr×Obj)} {σ:L2.St} {C e T:Addr} {dx:Option Addr}
theorem vo (I:L2.Inv (bw (fR P w) P w K mg base N qual scope f cd A outer s0 H0 E) pins σ H s) (ea:H e=some (.ext (yφ C e dx T))) (eT:H T=some (.ext (tφ T .none))) (ne:T≠e) (q:∀T',H T'=none->E (.ref e) none (two H C e dx T' .none)) :
  (bw (fR P w) P w K mg base N qual scope f cd A outer s0 H0 E).xe (.ref e) s:=by
 refine FV I.ok.frames I.stack rfl ⟨(I.hok e _ ea).1,ne,(I.hok T _ eT).1⟩ (fun m=>by rw[I.stkFree T m]at eT;cases eT) fun h' T' k z x old=>?_
 have J:=se I k ⟨_,ea⟩ (.inr z) (fun b m=>?_) x
 ·exact⟨e,_,rfl,J.os,J.bare,J.base,J.hok,q T' (I.hok.fresh z)⟩
 ·rcases Vd.mp m with m|m
  ·rw[Wb.mp m];exact .inr (.inr ⟨_,eT,old,let ⟨o,_,z,_⟩:=old;⟨o,z⟩⟩)
  ·exact .inl (Wb.mp m)
def JS (sp:Sp) (ta:TA) (E:XK):TS:=fun D σ H=>ta σ H fun vs H1=>sp vs H1 (fun _ H2=>D.nx σ H2) fun u _ H2=>∃a C dx T,u=.ref a/\T≠a/\H2 a=some (.ext (yφ C a dx T))/\H2 T=some (.ext (tφ T .none))/\∀T',H2 T'=none->E (.ref a) none (two H2 C a dx T' .none)
theorem si {x:Str} {k k':Nat} {ps:List Str} {sp:Sp} {e0:Expr} {es:List Expr} {t:TA} {p cp pos:Pos} (Cg:CalG P w K mg base x k ps sp) (hr:Room k' (A.deeper (envOfC qual scope s0.heap.objs.size f cd))) (hg:Gl (bw (fR P w) P w K mg base N qual scope f cd A outer s0 H0 E) x) (ha:PA (bw (fR P w) P w K mg base N qual scope f cd A outer s0 H0 E) (e0::es) t)
  (hk:k<=k':=by decide) (hdb:(x == ("__debug__":Str))=false:=by decide) (he:starEach (e0::es) (bw (fR P w) P w K mg base N qual scope f cd A outer s0 H0 E).env=(false,eval e0 (bw (fR P w) P w K mg base N qual scope f cd A outer s0 H0 E).env)::starEach es (bw (fR P w) P w K mg base N qual scope f cd A outer s0 H0 E).env:=by rfl) (hpl:(backTo cp (starEach es (bw (fR P w) P w K mg base N qual scope f cd A outer s0 H0 E).env)).any (·.1)=false:=by rfl)
  (hs:swapsWith (.Call (.Name x p) (e0::es) [] cp) none pos.line (bw (fR P w) P w K mg base N qual scope f cd A outer s0 H0 E).env=pure false:=by rfl) :
  PS (bw (fR P w) P w K mg base N qual scope f cd A outer s0 H0 E) (.Expr (.Call (.Name x p) (e0::es) [] cp) pos) (JS sp t E):=by
 intro pins s σ H D I h;obtain⟨f',fd,F,hm,hkp,hb⟩:=Cg.ex;refine By (As (cX I hg hm ?_ hdb)) I.quiet hs;refine PySem.W.callWith_K (h₀:=base) I.ok.mod.kin hkp (b7 (ha cp pins s σ H _ I h) fun us s1 zz=>?_) he hpl;obtain⟨vs,H1,I1,r,q⟩:=zz;refine⟨I1.kIn,Ak (vk F (hr.mono hk) hb I1 r q) (fun u s2 zz=>?_) fun u s2 zz=>?_⟩
 ·obtain⟨v,H2,I2,rv,q2⟩:=zz;exact⟨σ,H2,I2,q2⟩
 ·obtain⟨a,H2,rfl,I2,b,C',dx',T',w',ne,ea,eT,q2⟩:=zz;cases w';exact vo I2 ea eT ne q2
end
end VX
namespace VX
open PySem PySem.Spec PySem.W PyProof.Rows L2 VF
abbrev Rx:=Str×Str×Option Str
inductive Oy where
 | o (x:Ot)|x (v:Rx)
def Flies (K:Frag) (E:XK) (H:Hp) (v:Rx):Prop:=∀C,nsIn K mainGlobals v.1=some (some (.ref C))->∀e H',Rsd C v.2.1 (oV v.2.2) H H' e->E (.ref e) none H'
abbrev FY:=En->Option Oy
def OutY (K:Frag) (E:XK) (Z O:AS) (H:Hp) (st:En) (σ:L2.St) (Dn:Ends):Oy->Prop
 | .o o=>Out K Z O H st σ Dn o
 | .x v=>∀H1 O1,Ext O H O1 H1->Flies K E H1 v
def pp (K:Frag) (E:XK) (t:TS) (F:FY):Prop:=∀(st:En) (σ:L2.St) (H:Hp) (O Z:AS) (Dn:Ends),ER K st σ H O Z->∀r,F st=some r->OutY K E Z O H st σ Dn r->t Dn σ H
def rm (K:Frag) (R:List D->Option Rx) (g:List D->Option Rz):Sp:=fun vs H Q E=>mE K g vs H Q E∨∃Z ds x,El K Z H vs ds/\(∀p,Z p->Lv H p)/\R ds=some x/\Flies K E H x
def qr (F:FS):FY:=fun st=>(F st).bind fun o=>some (.o o)
def gA (F G:FY):FY:=fun st=>(F st).bind fun r=>match r with
 | .o (.nx s)=>G s
 | r=>some r
def yP (f:FT) (F G:FY):FY:=fun st=>(f st).bind fun x=>if x.1=true then F x.2 else G x.2
def Jw:D->Option (Option Str)
 | .str x=>some (some x)
 | .non=>some none
 | _=>none
def qt (c n:Str) (fe:FE):FY:=fun st=>(fe st).bind fun x=>(cont x.2 x.1).bind fun d=>(Jw d).bind fun v=>some (.x (c,n,v))
def kh (c:Str):FY:=fun _=>some (.x (c,"",none))
def nC (R:List D->Option Rx) (g:List D->Option Rz) (fa:FA):FY:=fun st=>(fa st).bind fun x=>(bK x.1 x.2).bind fun y=>match R y.1 with
 | some v=>some (.x v)
 | none=>(cJ (bV g fa) st).bind fun o=>some (.o o)
def xa (F:FY):FS:=fun st=>(F st).bind fun r=>match r with
 | .o o=>some o
 | .x _=>none
def eS (F:FY) (n m:Nat):List D->Option Rx:=fun ds=>if ds.length=m then(F (gk n ds)).bind fun r=>match r with
 | .o _=>none
 | .x v=>some v else none
section
variable {K:Frag} {C:Addr} {c n:Str} {E:XK} {t u:TS} {F G:FY}
theorem OutY.trans {Z O O1:AS} {H H1:Hp} {st st1:En} {σ σ1:L2.St} {Dn:Ends} {r:Oy} (h:OutY K E Z O H st σ Dn r) (x:Ext O H O1 H1) (k:Kq st σ st1 σ1):OutY K E Z O1 H1 st1 σ1 Dn r:=by
 cases r with
 | o o=>exact Out.trans (show Out K Z O H st σ Dn o from h) x k
 | x v=>exact fun H2 O2 x2=>h H2 O2 (x.trans x2)
theorem gB {F:FS} (h:lM K t F):pp K E t (qr F):=by
 intro st σ H O Z Dn E' r e q;refine bx e fun o e1 e=>?_;cases e;exact h st σ H O Z Dn E' o e1 q
theorem dP (h1:pp K E t F) (h2:pp K E u G):pp K E (z0 t u) (gA F G):=by
 intro st σ H O Z Dn E' r e q;refine bx e fun o1 e1 e=>?_;refine h1 st σ H O Z _ E' o1 e1 ?_;cases o1 with
 | x v=>cases e;exact q
 | o o =>
  cases o with
  | nx s=>exact fun σ1 H1 O1 x1 k1 E1=>h2 s σ1 H1 O1 Z Dn E1 r e (q.trans x1 k1)
  | bk s=>cases e;exact q
  | ct s=>cases e;exact q
  | rt r s=>cases e;exact q
theorem sj {tc:TT} {f:FT} (hc:oU K tc f) (h1:pp K E t F) (h2:pp K E u G):pp K E (Et tc t u) (yP f F G):=by
 intro st σ H O Z Dn E' r e q;refine cx e fun b st1 e1 e=>hc st σ H O Z _ E' b st1 e1 fun H1 O1 x1 k1 E1=>?_;cases b with
 | true=>exact h1 st1 σ H1 O1 Z Dn E1 r e (q.trans x1 k1.kq)
 | false=>exact h2 st1 σ H1 O1 Z Dn E1 r e (q.trans x1 k1.kq)
theorem FW {Y:AS} {H:Hp} {w:V} {d:D} {v:Option Str} (h:BA K Y H w d) (e:Jw d=some v):w=oV v:=by
 cases d with
 | str x=>cases e;exact h
 | non=>cases e;exact h
 | _=>cases e
theorem yQ {te:TE} {fe:FE} (hC:nsIn K mainGlobals c=some (some (.ref C))) (h:cT K te fe):pp K E (Jv C n te E) (qt c n fe):=by
 intro st σ H O Z Dn E' r e q;refine cx e fun r1 st1 e1 e=>bx e fun d e2 e=>bx e fun v e3 e=>?_;cases e;refine h st σ H O Z _ E' r1 st1 e1 fun w H1 O1 x1 k1 E1 rv _ a H' z=>?_;have ew:=FW (rv.ba E1 e2) e3;subst ew;exact q H1 O1 x1 C hC a H' z
theorem la (hC:nsIn K mainGlobals c=some (some (.ref C))):pp K E (Js C E) (kh c):=by
 intro st σ H O Z Dn E' r e q;cases e;intro a H' z;exact q H O (Ext.refl O H) C hC a H' z
theorem Rsd.back {v:V} {H H1 H':Hp} {e:Addr} (z:Rsd C n v H1 H' e) (x:Same H H1):Rsd C n v H H' e:=by
 have no:∀b,H1 b=none->H b=none:=fun b h=>by
  cases w:H b with
  | none=>rfl
  | some o=>rw[x b o w]at h;cases h
 obtain⟨dx,T,a1,a2,a3,a4,a5⟩:=z.obj;refine⟨no _ z.new,⟨dx,T,a1,no _ a2,a3,?_,a5⟩,fun b o w=>z.old b o (x b o w)⟩;rcases a4 with a4|⟨d,w1,w2,w3⟩
 ·exact .inl a4
 ·exact .inr ⟨d,w1,no _ w2,w3⟩
theorem Flies.back {H H1:Hp} {v:Rx} (h:Flies K E H v) (x:Same H H1):Flies K E H1 v:=fun C hC e H' z=>h C hC e H' (z.back x)
theorem Rsd.on {v:V} {H H':Hp} {e:Addr} (z:Rsd C n v H H' e):∃dx T,T≠e/\H' e=some (.ext (yφ C e dx T))/\H' T=some (.ext (tφ T .none))/\∀T',H' T'=none->Rsd C n v H (two H' C e dx T' .none) e:=by
 obtain⟨dx,T,a1,a2,a4,a5,a6⟩:=z.obj;refine⟨dx,T,a1,a4,a6,fun T' nT=>?_⟩;have n1:T'≠e:=fun w=>by rw[w,a4]at nT;cases nT
 have nT0:H T'=none:=by
  cases w':H T' with
  | none=>rfl
  | some o=>rw[z.old _ _ w']at nT;cases nT
 have old:∀b o,H b=some o->two H' C e dx T' .none b=some o:=fun b o w=>by
  have w1:b≠e:=fun w'=>by rw[w',z.new]at w;cases w
  have w2:b≠T':=fun w'=>by rw[w',nT0]at w;cases w
  unfold two;rw[ag w2,ag w1];exact z.old b o w
 refine⟨z.new,⟨dx,T',n1,nT0,?_,?_,?_⟩,old⟩
 ·unfold two;rw[ag (Al n1),aq]
 ·rcases a5 with a5|⟨d,w1,w2,w3⟩
  ·exact .inl a5
  ·refine .inr ⟨d,w1,w2,?_⟩;have n2:d≠T':=fun w=>by rw[w,nT]at w3;cases w3
   have n3:d≠e:=fun w=>by rw[w,a4]at w3;cases w3
   unfold two;rw[ag n2,ag n3];exact w3
 ·unfold two;rw[aq]
theorem iD {R:List D->Option Rx} {g:List D->Option Rz} {ta:TA} {fa:FA} {E':Hp->XK} (ha:oq K ta fa):cT K (fun σ H Q=>ta σ H fun vs H1=>rm K R g vs H1 Q (E' H1)) (bV g fa):=by
 intro st σ H O Z Q E r0 st' h q;refine cx h fun rs st1 e1 h=>cx h fun ds st2 e2 h=>bx h fun z e3 h=>?_;cases h;refine ha st σ H O Z _ E rs st1 e1 fun vs H1 O1 x1 k1 E1 rvs=>?_;obtain⟨O2,x2,k2,E2,el⟩:=rvs.esc E1 e2;refine .inl ⟨U O2 Z,ds,z,el,E2.liv,e3,fun v H3 s hres=>?_⟩;obtain⟨E3,rv3⟩:=hres.rv E2 s;exact q v H3 O2 ((x1.trans x2).trans (Same.ext s)) (k1.trans k2) E3 rv3 (hres.fsh.back (x1.trans x2))
theorem JT {H:Hp} {v:Rx} (h:Flies K E H v):Flies K (fun u _ H2=>∃a C dx T,u=.ref a/\T≠a/\H2 a=some (.ext (yφ C a dx T))/\H2 T=some (.ext (tφ T .none))/\∀T',H2 T'=none->E (.ref a) none (two H2 C a dx T' .none)) H v:=fun C hC e H' z=>by
 obtain⟨dx,T,h1,h2,h3,h4⟩:=z.on;exact⟨e,C,dx,T,rfl,h1,h2,h3,fun T' nT=>h C hC e _ (h4 T' nT)⟩
theorem vp {R:List D->Option Rx} {g:List D->Option Rz} {ta:TA} {fa:FA} (ha:oq K ta fa):pp K E (JS (rm K R g) ta E) (nC R g fa):=by
 intro st σ H O Z D E' r h q;refine cx h fun rs st1 e1 h=>cx h fun ds st2 e2 h=>?_;dsimp only at h;cases w:R ds with
 | some v =>
  rw[w]at h;cases h;refine ha st σ H O Z _ E' rs st1 e1 fun vs H1 O1 x1 k1 E1 rvs=>?_;obtain⟨O2,x2,k2,E2,el⟩:=rvs.esc E1 e2;exact .inr ⟨U O2 Z,ds,v,el,E2.liv,w,JT (q H1 O2 (x1.trans x2))⟩
 | none =>
  rw[w]at h;refine bx h fun o e3 h=>?_;cases h;exact cD (iD (R:=R) ha) st σ H O Z D E' o e3 q
theorem Ib (h:pp K E t F):lM K t (xa F):=by
 intro st σ H O Z Dn E' o e q;refine bx e fun r e1 e=>?_;cases r with
 | o o'=>cases e;exact h st σ H O Z Dn E' _ e1 q
 | x v=>cases e
theorem yR {N:List Str} {m:Nat} {vs:List V} {H:Hp} {Q:VK} (h:pp K E t F) (sp:rm K (eS F N.length m) (bN (xa F) N.length m) vs H Q E):t { nx:=fun _ H'=>Q .non H',rt:=Q } (L2.start N vs) H:=by
 rcases sp with sp|⟨Z,ds,x,el,lv,e,q⟩
 ·exact uU (Ib h) sp
 ·have hm:ds.length=m:=by
   by_cases hm:ds.length=m
   ·exact hm
   ·simp only[eS,Ag hm]at e;cases e
  simp only[eS,Ad hm]at e;refine bx e fun r e1 e=>?_;cases r with
  | o o=>cases e
  | x v =>
   cases e;exact h _ _ H _ Z _ (rO el lv) _ e1 fun H1 O1 x1=>q.back fun b o w=>x1.kp b o w fun z=>z
end
section
variable {P:Program} {w:World} {K:Frag} {mg:Str->Option Value} {base h:Heap} {x c n:Str} {st:Stmt} {N ps:List Str} {k:Nat} {F:FY} {C:Addr}
abbrev FX (P:Program) (w:World) (K:Frag) (mg:Str->Option Value) (base:Heap) (x:Str) (st:Stmt) (N:List Str) (k:Nat) (F:FY):Prop :=
 ∀{f:Addr} {cdv:Value} {A:Around} {outer:List Env} {s:Shared} {H:Hp} {E:XK},Room k (A.deeper (envOfC x (ak st) s.heap.objs.size f cdv))->∃t,PSs (bw (fR P w) P w K mg base N x (ak st) f cdv A outer s H E) (cz st) t/\pp K E t F
theorem Ic {m a:Nat} {vs:List V} {H:Hp} {Q:VK} {E:XK} (sp:rm K (eS F a m) (bN (xa F) a m) vs H Q E):vs.length=m:=by
 rcases sp with sp|⟨Z,ds,x,el,_,e,_⟩
 ·exact B3 sp
 ·by_cases hm:ds.length=m
  ·exact el.1.trans hm
  ·simp only[eS,Ag hm]at e;cases e
theorem pq (h':FH K x st) (X:K.In h) (G:h.Ns mainGlobals mg) (S:FnScope N ps (ak st)) (hb:Bn x st ps) (hB:FX P w K mg base x st N k F):CalG P w K mg base x (k+1) ps (rm K (eS F N.length ps.length) (bN (xa F) N.length ps.length)):=by
 obtain⟨f,fd,F',a⟩:=h'.ex;refine⟨f,fd,?_,PySem.W.mg_of X G a,F'.kp,F'.binds hb⟩;obtain⟨oc,od,kV,doc,pm,an,cdv,ct,osl,rfl,lk,hcd⟩:=F'.ex;refine Dt lk hcd S (fun vs H Q E h=>Ic h) fun A outer s H vs Q E hr hsp=>?_;obtain⟨t,h1,h2⟩:=hB hr;exact⟨_,h1,yR h2 hsp⟩
end
end VX
namespace VX
open PySem PySem.Spec PySem.W PyProof.Rows L2 VF
section
variable {X:Cx} {C T f:Addr} {id ii sa ow B:String} {mB:List Value}
theorem yS {x:Str} {k k':Nat} {ps:List Str} {sp:Sp} {e:Expr} {es:List Expr} {t:TA} {p cp pos:Pos} (Cg:CalG X.prog X.w X.K X.mg X.base x k ps sp) (hr:Room k' X.A) (hg:Gl X x) (ha:PA X.nox (e::es) t)
  (hk:k<=k':=by decide) (hdb:(x == ("__debug__":Str))=false:=by decide) (he:starEach (e::es) X.env=(false,eval e X.env)::starEach es X.env:=by rfl) (hpl:(backTo cp (starEach es X.env)).any (·.1)=false:=by rfl)
  (hs:swapsWith (.Call (.Name x p) (e::es) [] cp) none pos.line X.env=pure false:=by rfl) :
  JQ X [.Expr (.Call (.Name x p) (e::es) [] cp) pos] fun Ex D σ H=>t σ H fun vs H1=>sp vs H1 (fun _ H2=>D.nx σ H2) fun u _ H2=>∃a,u=.ref a/\Ex a H2:=by
 intro pins s σ H D Ex I h;obtain⟨f,fd,F,hm,hkp,hb⟩:=Cg.ex;refine AX (By (As (cX I hg hm ?_ hdb)) I.quiet hs);refine PySem.W.callWith_K (h₀:=X.base) I.ok.mod.kin hkp (Ak (ha cp pins s σ H _ (I.wish _) h) (fun us s1 zz=>?_) fun _ _ z=>False.elim z) he hpl;obtain⟨vs,H1,I1,r,q⟩:=zz;refine⟨I1.unwish.kIn,Ak (vk F (hr.mono hk) hb I1.unwish r q) (fun u s2 zz=>?_) fun u s2 zz=>?_⟩
 ·obtain⟨v,H2,I2,rv,q2⟩:=zz;exact Av ⟨_,H2,I2,q2⟩
 ·obtain⟨a,H2,rfl,I2,b,w,q2⟩:=zz;cases w;exact⟨a,H2,rfl,I2,q2⟩
theorem Cp (i:Nat) {body bs:List Stmt} {b0:Stmt} {x n:Str} {cS:Addr} {p hp pos:Pos} {tb:(Addr->Hp->Prop)->TS} {th:Addr->TS} {Cs:Addr->Prop} (hx:∀C,Cs C->exmOne X.K (.ref C) (.ref cS)=some true) (hst:X.stack=X.env::X.outer) (hfr:X.env.frame=some X.env.locals)
  (hb:JQ X body tb) (hg:Gl X x) (hm:X.mg x=some (.ref cS)) (hN:X.N.Nodup) (hh:∀a,PSs (H9 X (.ref a)) (b0::bs) (th a)) (hi:X.N[i]?=some n:=by rfl) (hl:X.env.scope.names.lookup n=some .local:=by rfl) (hdb:(x == ("__debug__":Str))=false:=by decide) :
  PS X (.Try body [.ExceptHandler (some (.Name x p)) (some n) (b0::bs) hp] [] [] pos) (Ia Cs i tb th):=by
 intro pins s σ H D I h;refine wpAny_Try_except (Ak (hb pins s σ H D _ I h) (fun f s1 q=>?_) fun v s1 z=>?_)
 ·cases f with
  | next=>exact Av q
  | _=>exact q
 obtain⟨a,H',rfl,I1,C,dx,T,hCs,ne,ea,eT,q⟩:=z;have fr:=I1.ok.frames;have sk:=I1.stack;have sf:=I1.stkFree;rw[hst]at fr sk sf;refine yM fr sk hfr ⟨(I1.hok a _ ea).1,ne,(I1.hok T _ eT).1⟩ (fun m=>by rw[sf T m]at eT;cases eT) fun h1 T' k1 z1 x1 old=>?_
 rw[← hst]at k1;have J1:=se I1 k1 ⟨_,ea⟩ (.inr z1) (fun b m=>?_) x1
 ·have nT:H' T'=none:=I1.hok.fresh z1;have eA:∀fl,two H' C a dx T' fl a=some (.ext (yφ C a dx T')):=fun fl=>by unfold two;rw[ag (Al x1.ne),aq]
  refine land (S:={ s1 with heap:=h1 }) (fs:=fA X.stack) x1 fun h2 k2 x2=>?_;have J2:=se J1 k2 ⟨_,eA _⟩ (.inl ⟨_,aq⟩) (fun b m=>.inr (.inl (Wb.mp m))) x2;rw[vm]at J2;refine wpAny_handleBy_cons (codeAny_handlers_test (cX (X:=H9 X (.ref a)) (yN J2) hg hm ?_ hdb)) (by intro q;cases q)
  obtain⟨vs,sl,ee,_⟩:=x2.ex;refine(exm_one J2.kIn ((Looks.ld ee).andThen .now) (hx C hCs)).here (codeAny_handlers_suite_as ?_);refine land (S:={ s1 with heap:=h2 }) (fs:=fA X.stack) x2 fun h3 k3 x3=>?_;have J3:=se J2 k3 ⟨_,eA _⟩ (.inl ⟨_,aq⟩) (fun b m=>.inr (.inl (Wb.mp m))) x3;rw[vm]at J3;refine mU (X:=H9 X (.ref a)) (v:=.ref a) (yN J3) hN hi (.inl hl) rfl (fun s4 I4=>?_) (.inr hl);refine Ak (hh a pins s4 _ _ _ I4 (q T' nT)) (fun f s5 z=>?_) fun _ _ z=>z.elim;cases f with
  | next =>
   obtain⟨σ',H2,I5,q5⟩:=z;exact gone (Co I.ok I5) hN hi hl fun s6 I6=>⟨_,H2,I6,q5⟩
  | ret u=>obtain⟨_,_,_,_,_,z⟩:=z;exact z.elim
  | brk=>obtain⟨_,_,_,z⟩:=z;exact z.elim
  | cont=>obtain⟨_,_,_,z⟩:=z;exact z.elim
 ·rcases Vd.mp m with m|m
  ·rw[Wb.mp m];exact .inr (.inr ⟨_,eT,old,let ⟨o,_,z,_⟩:=old;⟨o,z⟩⟩)
  ·exact .inl (Wb.mp m)
theorem lb {u:Str} {c:Addr} {pos:Pos} (hg:Gl X u) (hm:X.mg u=some (.ref c)) (hd:(u == ("__debug__":Str))=false:=by decide):PE X (.Name u pos) (tC (.ref c)):=pQ hg hm rfl hd
end
def pr (R:List D->Option Rx) (g:List D->Option Rz) (fa:FA) (i:Nat) (cs:List Str) (Fh:FS):FS:=fun st=>(fa st).bind fun x=>(bK x.1 x.2).bind fun y=>match R y.1 with
 | some v=>match y.2[i]? with
  | some .e=>if v.1∈cs then(Fh (y.2.set i (.v (.xc v.1 v.2.1 v.2.2)))).bind fun o=>match o with
   | .nx s'=>match s'[i]? with
    | some (.v _)=>some (.nx (s'.set i .e))
    | _=>none
   | _=>none else none
  | _=>none
 | none=>cJ (bV g fa) st
section
variable {K:Frag} {C:Addr} {c n:Str} {R:List D->Option Rx} {g:List D->Option Rz} {ta:TA} {fa:FA} {i j:Nat}
theorem yT {st:En} {σ:L2.St} {H:Hp} {O Z:AS} {v:Option V} {d:D} (E:ER K st σ H O Z) (e:st[i]?=some (.v d)):ER K (st.set i .e) (σ.set i v) H O Z:=by
 have li:=(Yd.mp e).1;have ne:∀(k:Nat) (s:Sl),(st.set i .e)[k]?=some s->s≠Sl.e->st[k]?=some s/\(σ.set i v)[k]?=σ[k]?:=fun k s h hs=>by
  by_cases z:i=k
  ·subst z;rw[Wl li]at h;cases h;exact(hs rfl).elim
  ·rw[Zk z]at h;exact⟨h,Zk z⟩
 have no:∀(s:Sl) d,s.ow=some d->s≠Sl.e:=fun s d h w=>by rw[w]at h;cases h
 refine⟨by simpa using E.len,fun k d h=>?_,fun k s d h o=>?_,fun k l s t d d' p h1 o1 h2 o2 z1 z2=>?_,E.dis,E.liv⟩
 ·obtain⟨h1,h2⟩:=ne k _ h nofun;rw[h2];exact E.val k d h1
 ·obtain⟨h1,h2⟩:=ne k s h (no s d o);rw[h2];exact E.own k s d h1 o
 ·obtain⟨a1,a2⟩:=ne k s h1 (no s d o1);obtain⟨b1,b2⟩:=ne l t h2 (no t d' o2);rw[a2]at z1;rw[b2]at z2;exact E.uni k l s t d d' p a1 o1 b1 o2 z1 z2
theorem Rsd.da {Y:AS} {H H':Hp} {e:Addr} {x:Option Str} (z:Rsd C n (oV x) H H' e) (hC:nsIn K mainGlobals c=some (some (.ref C))) (dead:∀b,H b=none->¬ Y b):DA K Y H' (.ref e) (.xc c n x):=by
 obtain⟨dx,T,a1,a2,a3,a4,a5⟩:=z.obj;refine .xc ⟨C,dx,T,hC,a1,⟨dead _ z.new,dead _ a2⟩,a3,?_,a5⟩;rcases a4 with a4|⟨d,w1,w2,w3⟩
 ·exact .inl a4
 ·exact .inr ⟨d,w1,dead _ w2,w3⟩
theorem Cq {cs:List Str} {Cs:Addr->Prop} {th:TS} {Fh:FS} (ha:oq K ta fa) (hh:lM K th Fh) (hcs:∀c∈cs,∀C,nsIn K mainGlobals c=some (some (.ref C))->Cs C) :
  lM K (Ia Cs i (fun Ex D σ H=>ta σ H fun vs H1=>rm K R g vs H1 (fun _ H2=>D.nx σ H2) fun u _ H2=>∃a,u=.ref a/\Ex a H2) fun _=>th) (pr R g fa i cs Fh):=by
 intro st σ H O Z D E o e q;refine cx e fun rs st1 e1 e=>cx e fun ds st2 e2 e=>?_;dsimp only at e;cases w:R ds with
 | none =>
  rw[w]at e;exact cD (iD (R:=R) ha) st σ H O Z D E o e q
 | some v =>
  rw[w]at e;dsimp only at e;refine ha st σ H O Z _ E rs st1 e1 fun vs H1 O1 x1 k1 E1 rvs=>?_;obtain⟨O2,x2,k2,E2,el⟩:=rvs.esc E1 e2;refine .inr ⟨U O2 Z,ds,v,el,E2.liv,w,fun C hC a H' z=>⟨a,rfl,?_⟩⟩;obtain⟨dx,T,ne,ea,eT,on⟩:=z.on;split at e
  ·rename_i ei
   obtain⟨hc,e⟩:=aK e;refine⟨C,dx,T,hcs _ hc C hC,ne,ea,eT,fun T' nT=>?_⟩;refine bx e fun o1 e3 e=>?_;have z2:=on T' nT;have sm2:Same H1 (two H' C a dx T' .none):=z2.old;have da:=z2.da hC fun b hb m=>(E2.liv b m).1 hb;have E3:=(E2.same sm2).asg (d:=.xc v.1 v.2.1 v.2.2) (v:=.ref a) ei da;cases o1 with
   | nx s' =>
    dsimp only at e;split at e
    ·rename_i d ed
     cases e;refine hh _ _ _ _ Z _ E3 _ e3 fun σ5 H5 O5 x5 k5 E5=>?_;exact q _ _ O5 (((x1.trans x2).trans (Same.ext sm2)).trans x5) ((((k1.trans k2).kq.trans (kQ ei rfl)).trans k5).trans (kQ ed rfl)) (yT E5 ed)
    ·cases e
   | _=>cases e
  ·cases e
def le (tab:List (Str×Bool)) (fe:FE):FE:=fun st=>(fe st).bind fun x=>match cont x.2 x.1 with
 | some (.xc c' _ _)=>(tab.lookup c').bind fun b=>some (.d (.bl b),x.2)
 | _=>none
def Cr (n c:Str) (fe:FE):FE:=fun st=>(fe st).bind fun x=>match cont x.2 x.1 with
 | some (.xc c' n' (some y))=>if c'=c/\n'=n/\n≠"" then some (.d (.str y),x.2) else none
 | _=>none
theorem D1 {Y:AS} {H:Hp} {dx:Option Addr} {v:V} (h:Fd Y H dx n v):Dx H dx:=by
 rcases h with h|⟨d,h1,_,h2⟩
 ·exact .inl h.2
 ·exact .inr ⟨d,_,h1,h2⟩
theorem lh {te:TE} {fe:FE} {tab:List (Str×Bool)} {cv:Addr} {r:List V->Hp->VK->Prop} (hr:∀c b,tab.lookup c=some b->∀C,nsIn K mainGlobals c=some (some (.ref C))->kitOne K (.ref C) (.ref cv)=some b/\∀vs H Q,sh K C vs H Q->r vs H Q) (h:cT K te fe):cT K (z9 r (dM te (dM (tC (.ref cv)) kN))) (le tab fe):=by
 intro st σ H O Z Q E r st' e q;refine cx e fun r1 st1 e1 e=>h st σ H O Z _ E r1 st1 e1 fun v H1 O1 x1 k1 E1 rv fs=>?_;dsimp only at e;split at e
 ·rename_i c' n' y' e2
  refine bx e fun b e3 e=>?_;cases e;obtain⟨a,rfl,C',dx,T,h1,h2,h3,h4,h5,h6⟩:=rv.ba E1 e2;obtain⟨hk,hv⟩:=hr _ _ e3 C' h1;exact hv _ _ _ ⟨a,dx,T,b,cv,rfl,h4,D1 h5,.inl hk,q _ H1 O1 x1 k1 E1 (.bl b) trivial⟩
 ·cases e
theorem FZ {te:TE} {fe:FE} (hC:nsIn K mainGlobals c=some (some (.ref C))) (h:cT K te fe):cT K (JR C n te) (Cr n c fe):=by
 intro st σ H O Z Q E r st' e q;refine cx e fun r1 st1 e1 e=>h st σ H O Z _ E r1 st1 e1 fun v H1 O1 x1 k1 E1 rv fs=>?_;dsimp only at e;split at e
 ·rename_i e2
  obtain⟨⟨hc,hn,h0⟩,e3⟩:=aK e;subst hc hn;cases e3;obtain⟨a,rfl,C',dx,T,h1,h2,h3,h4,h5,h6⟩:=rv.ba E1 e2;rw[hC]at h1;cases h1;rcases h5 with h5|⟨d,rfl,_,h5⟩
  ·exact absurd h5.1 h0
  ·exact⟨a,d,T,_,_,rfl,h4,h5,Yi,q _ H1 O1 x1 k1 E1 (.str _) trivial⟩
 ·cases e
end
end VX
namespace VX
open PySem PySem.Spec PySem.W PyProof.Rows L2 VF
def IZ (sp:Sp) (ta:TA) (E:XK):TE:=fun σ H Q=>ta σ H fun vs H1=>sp vs H1 Q fun u _ H2=>∃a C dx T,u=.ref a/\T≠a/\H2 a=some (.ext (yφ C a dx T))/\H2 T=some (.ext (tφ T .none))/\∀T',H2 T'=none->E (.ref a) none (two H2 C a dx T' .none)
section
variable {P:Program} {w:World} {K:Frag} {mg:Str->Option Value} {base:Heap} {N:List Str} {qual:Str} {scope:Scope} {f:Addr} {cd:Value} {A:Around} {outer:List Env} {s0 s:Shared} {H0 H:Hp} {E:XK} {pins:List (Addr×Obj)} {σ:L2.St} {C e T:Addr} {dx:Option Addr}
theorem ki {x:Str} {k k':Nat} {ps:List Str} {sp:Sp} {e0:Expr} {es:List Expr} {t:TA} {p cp:Pos} (Cg:CalG P w K mg base x k ps sp) (hr:Room k' (A.deeper (envOfC qual scope s0.heap.objs.size f cd))) (hg:Gl (bw (fR P w) P w K mg base N qual scope f cd A outer s0 H0 E) x) (ha:PA (bw (fR P w) P w K mg base N qual scope f cd A outer s0 H0 E) (e0::es) t)
  (hk:k<=k':=by decide) (hdb:(x == ("__debug__":Str))=false:=by decide) (he:starEach (e0::es) (bw (fR P w) P w K mg base N qual scope f cd A outer s0 H0 E).env=(false,eval e0 (bw (fR P w) P w K mg base N qual scope f cd A outer s0 H0 E).env)::starEach es (bw (fR P w) P w K mg base N qual scope f cd A outer s0 H0 E).env:=by rfl) (hpl:(backTo cp (starEach es (bw (fR P w) P w K mg base N qual scope f cd A outer s0 H0 E).env)).any (·.1)=false:=by rfl) :
  PE (bw (fR P w) P w K mg base N qual scope f cd A outer s0 H0 E) (.Call (.Name x p) (e0::es) [] cp) (IZ sp t E):=by
 intro pins s σ H Q I h;obtain⟨f',fd,F,hm,hkp,hb⟩:=Cg.ex;refine As (cX I hg hm ?_ hdb);refine PySem.W.callWith_K (h₀:=base) I.ok.mod.kin hkp (b7 (ha cp pins s σ H _ I h) fun us s1 zz=>?_) he hpl;obtain⟨vs,H1,I1,r,q⟩:=zz;refine⟨I1.kIn,Ak (vk F (hr.mono hk) hb I1 r q) (fun u s2 zz=>zz) fun u s2 zz=>?_⟩;obtain⟨a,H2,rfl,I2,b,C',dx',T',w',ne,ea,eT,q2⟩:=zz;cases w';exact vo I2 ea eT ne q2
end
def Ja (k:Ends->L2.St->VK) (te:TE):TS:=fun D σ H=>te σ H (k D σ)
def hY (R:List D->Option Rx) (g:List D->Option Rz) (fa:FA) (k:FE->FS):FY:=fun st=>(fa st).bind fun x=>(bK x.1 x.2).bind fun y=>match R y.1 with
 | some v=>some (.x v)
 | none=>(k (bV g fa) st).bind fun o=>some (.o o)
section
variable {K:Frag} {C:Addr} {c n:Str} {E:XK} {R:List D->Option Rx} {g:List D->Option Rz} {ta:TA} {fa:FA}
theorem vq {k:Ends->L2.St->VK} {kF:FE->FS} (ha:oq K ta fa) (hk:∀te fe,cT K te fe->lM K (Ja k te) (kF fe)):pp K E (Ja k (IZ (rm K R g) ta E)) (hY R g fa kF):=by
 intro st σ H O Z D E' r h q;refine cx h fun rs st1 e1 h=>cx h fun ds st2 e2 h=>?_;dsimp only at h;cases w:R ds with
 | some v =>
  rw[w]at h;cases h;refine ha st σ H O Z _ E' rs st1 e1 fun vs H1 O1 x1 k1 E1 rvs=>?_;obtain⟨O2,x2,k2,E2,el⟩:=rvs.esc E1 e2;exact .inr ⟨U O2 Z,ds,v,el,E2.liv,w,JT (q H1 O2 (x1.trans x2))⟩
 | none =>
  rw[w]at h;refine bx h fun o e3 h=>?_;cases h;exact hk _ _ (iD (R:=R) ha) st σ H O Z D E' o e3 q
theorem vt {i:Nat} (ha:oq K ta fa):pp K E (v4 (IZ (rm K R g) ta E) (jR i)) (hY R g fa fun fe=>aY fe i):=vq (k:=fun D σ x H1=>jR i x σ H1 D.nx) ha fun _ _ h=>aG h
theorem vv (ha:oq K ta fa):pp K E (Es (IZ (rm K R g) ta E)) (hY R g fa bG):=vq (k:=fun D _=>D.rt) ha fun _ _ h=>aV h
end
end VX
namespace VX
open PySem PySem.Spec PySem.W PyProof.Rows L2 VF
def kj (fg:FG) (B:FY):List D->FY
 | [],st=>some (.o (.nx st))
 | x::r,st=>(fg x st).bind fun s1=>(B s1).bind fun o=>match o with
  | .o (.nx s2)=>kj fg B r s2
  | .o (.ct s2)=>kj fg B r s2
  | .o (.bk s2)=>some (.o (.nx s2))
  | .o (.rt y s2)=>some (.o (.rt y s2))
  | .x v=>some (.x v)
def Ct (fi:FI) (fg:FG) (B:FY):FY:=fun st=>(fi st).bind fun x=>kj fg B x.1 x.2
section
variable {K:Frag} {C:Addr} {n:Str} {E:XK}
theorem F2 {wi:TI} {fi:FI} {g:TG} {fg:FG} {tg:List Nat} {tb:TS} {B:FY} (hi:RdI K wi fi) (hg:DG K g fg tg) (hb:pp K E tb B):pp K E (Ey wi g tb) (Ct fi fg B):=by
 intro st σ H O Z Dn E0 o e q;refine cx e fun items st1 e1 e=>?_;refine hi st σ H O Z _ E0 items st1 e1 fun J H1 O1 x1 k1 E1 it=>?_;have q1:=q.trans x1 (k1.kq (σ:=σ));refine⟨fun i m σ' H'=>m=items.length-i/\i<=items.length/\∃s O',Ext O1 H1 O' H'/\Kq st1 σ s σ'/\ER K s σ' H' O' Z/\kj fg B (items.drop i) s=some o,⟨items.length,by simp,Vj _,st1,O1,Ext.refl _ _,Kq.refl _ _,E1,e⟩,?_⟩
 rintro i m σ' H' ⟨rfl,hle,s,O',x2,k2,E2,e2⟩;obtain⟨stop,go⟩:=it H' O' x2 E2.liv;by_cases hlt:i<items.length
 ·right;have hd:items.drop i=items[i]::items.drop (i+1):=Yk hlt;rw[hd]at e2;refine bx e2 fun s1 e3 e2=>?_;refine bx e2 fun o1 e4 e2=>?_;obtain⟨g1,g2⟩:=go i _ (Zc hlt);refine⟨g1,fun σ3 H3=>∃s O3,Ext O1 H1 O3 H3/\Kq st1 σ s σ3/\ER K s σ3 H3 O3 Z/\kj fg B (items.drop (i+1)) s=some o,fun σ3 H3 ⟨s3,O3,x3,k3,E3,e3'⟩=>⟨items.length-(i+1),by lia,rfl,hlt,s3,O3,x3,k3,E3,e3'⟩,fun x H'' hy=>?_⟩
  obtain⟨sm,da⟩:=g2 x H'' hy;have xm:Ext O' H' O' H'':=Same.ext sm;refine hg s σ' H'' O' Z x _ _ (E2.same sm) da s1 e3 fun σ4 _ k4 E4=>?_;refine hb s1 σ4 H'' O' Z _ E4 o1 e4 ?_;have xx:=x2.trans xm;cases o1 with
  | x v =>
   cases e2;exact fun H5 O5 x5=>q1 H5 O5 (xx.trans x5)
  | o o2 =>
   cases o2 with
   | nx s2=>exact fun σ5 H5 O5 x5 k5 E5=>⟨s2,O5,xx.trans x5,(k2.trans k4).trans k5,E5,e2⟩
   | ct s2=>exact fun σ5 H5 O5 x5 k5 E5=>⟨s2,O5,xx.trans x5,(k2.trans k4).trans k5,E5,e2⟩
   | bk s2 =>
    cases e2;exact fun σ5 H5 O5 x5 k5 E5=>q1 σ5 H5 O5 (xx.trans x5) ((k2.trans k4).trans k5) E5
   | rt y s2 =>
    cases e2;exact fun v σ5 H5 O5 x5 k5 E5 rv w=>q1 v σ5 H5 O5 (xx.trans x5) ((k2.trans k4).trans k5) E5 rv (w.back xx)
 ·left;have hn:items.drop i=[]:=Vl (by lia)
  rw[hn]at e2;cases e2;exact⟨stop i (by lia),q1 σ' H' O' x2 k2 E2⟩
end
end VX
namespace VX
open PySem PySem.Spec PySem.W PyProof.Rows L2 VF
structure CalJ (P:Program) (w:World) (K:Frag) (mg:Str->Option Value) (base:Heap) (C f:Addr) (n:Str) (k:Nat):Prop where
 ex:∃fd ps,FnOk P w K mg base mD k f fd ps (Jr C n)/\L2.Binds K fd ps []
abbrev xN:String:="ValueError.__new__"
structure Xk (K:Frag) (mg:Str->Option Value) (x n sx:Str) (C S f:Addr):Prop where
 xc:XC K C S f xN "ValueError.__init__" "object.__setattr__" "object" "ValueError" mVE
 xh:XH K C "ValueError"
 fn:findIn K (.ref C) n=some none
 aC:nsIn K mainGlobals x=some (some (.ref C))
 mC:mg x=some (.ref C)
 mS:mg sx=some (.ref S)
 hx:exmOne K (.ref C) (.ref S)=some true
theorem gb {X:Cx} {st:Stmt} {t:TS} (h:PS X.nox st t):PS X st t:=fun pins s σ H D I hw=>Ak (h pins s σ H D (I.wish _) hw) (fun _ _ q=>q.unwish) fun _ _ z=>False.elim z
theorem sv:mVE.contains (.type "BaseException")=true:=by decide
section
variable {P:Program} {w:World} {K:Frag} {mg:Str->Option Value} {base h:Heap} {N:List Str} {qual:Str} {scope:Scope} {g:Addr} {cd:Value} {A:Around} {outer:List Env} {s0:Shared} {H0:Hp} {E:XK} {C S f:Addr} {x n sx:Str}
theorem F3 {k k':Nat} {e0:Expr} {te:TE} {p cp pos:Pos} (Y:Xk K mg x n sx C S f) (i:CalJ P w K mg base C f n k) (hr:Room k' (A.deeper (envOfC qual scope s0.heap.objs.size g cd))) (hg:Gl (bw (fR P w) P w K mg base N qual scope g cd A outer s0 H0 E) x) (ha:PE (bw (fR P w) P w K mg base N qual scope g cd A outer s0 H0 E) e0 te) (hk:k+1<=k':=by decide) (hst:noStar e0=true:=by rfl) (hdb:(x == ("__debug__":Str))=false:=by decide)
  (he:starEach [e0] (bw (fR P w) P w K mg base N qual scope g cd A outer s0 H0 E).env=(false,eval e0 (bw (fR P w) P w K mg base N qual scope g cd A outer s0 H0 E).env)::[]:=by rfl) :
  PS (bw (fR P w) P w K mg base N qual scope g cd A outer s0 H0 E) (.Raise (some (.Call (.Name x p) [e0] [] cp)) none pos) (Jv C n te E):=by
 obtain⟨fd,ps,F,hb⟩:=i.ex;exact wJ Y.xc sv F (hr.mono hk) hb hg Y.mC ha hst hdb he
theorem yU {x qual n:Str} {st:Stmt} {N ps:List Str} {k:Nat} {fd:FuncData} (F:Fun K x qual st f fd) (S:FnScope N ps (ak st)) (h2:ps.length=2)
  (hB:∀{cdv:Value} {A:Around} {outer:List Env} {s:Shared} {H:Hp} {E:XK},Room k (A.deeper (envOfC qual (ak st) s.heap.objs.size f cdv))->PSs (bw mD P w K mg base N qual (ak st) f cdv A outer s H E).nox (cz st) (HZ C n)):FnOk P w K mg base mD (k+1) f fd ps (Jr C n):=by
 refine F.ok S (fun vs H Q E h=>?_) fun cdv A outer s H vs Q E hr h=>⟨_,hB hr,?_⟩
 ·obtain⟨e,v,rfl,_⟩:=h;exact h2.symm
 ·obtain⟨e,v,rfl,he,q⟩:=h;exact⟨.ref e,rfl,v,rfl,e,[v],rfl,A3 rfl,he,v,rfl,.ref e,rfl,e,rfl,he,q⟩
theorem Id (X:K.In h) (G:h.Ns mainGlobals mg) (xc:XC K C S f xN "ValueError.__init__" "object.__setattr__" "object" "ValueError" mVE) (aC:nsIn K mainGlobals x=some (some (.ref C))) (aS:nsIn K mainGlobals sx=some (some (.ref S)))
  (ga:findIn K (.ref C) "__getattribute__"=some (some (.builtin "BaseException.__getattribute__"))) (gt:findIn K (.ref C) "__getattr__"=some none) (hd:hasDictIn K C=true) (ca:findIn K (.ref C) "__class__"=some (some (.builtin "object.__class__")))
  (cn:specialIn K (.builtin "object.__class__") "__get__"=some (some (.builtin "getset_descriptor.__get__"))) (ck:takesIn K (.builtin "object.__class__")=some true) (cm:mroIn K C (.type "object")=some true) (fn:findIn K (.ref C) n=some none) (hx:exmOne K (.ref C) (.ref S)=some true):Xk K mg x n sx C S f :=
 ⟨xc,⟨PySem.F.attr_ValueError,ga,gt,hd,ca,cn,ck,cm⟩,fn,aC,mg_of X G aC,mg_of X G aS,hx⟩
end
end VX
namespace VX
open PySem PySem.Spec PySem.W PyProof.Rows L2 VF
def tψ (T:Addr):Heap->Prop:=fun h=>∃o ts v,h.get? T=some o/\o.data=.fields ts/\ts[3]?=some v
theorem D2 {T:Addr}:∀h1 h2:Heap,tψ T h1->(∀o,h1.get? T=some o->h2.get? T=some o)->tψ T h2:=fun _ _ ⟨o,ts,v,z,w⟩ k=>⟨o,ts,v,k _ z,w⟩
theorem D3 {T:Addr} {fl:Value}:∀h1 h2:Heap,tφ T fl h1->(∀o,h1.get? T=some o->h2.get? T=some o)->tφ T fl h2:=fun _ _ ⟨o,ts,z,w⟩ k=>⟨o,ts,k _ z,w⟩
abbrev dL (H:Hp) (C e:Addr) (dx:Option Addr) (T:Addr) (φT:Heap->Prop):Hp:=upd (upd H e (.ext (yφ C e dx T))) T (.ext φT)
section
variable {X:Cx} {pins:List (Addr×Obj)} {σ:L2.St} {H:Hp} {s:Shared} {h':Heap} {ch:List Addr} {C e T:Addr} {dx:Option Addr} {fl:Value}
theorem qu {φT:Heap->Prop} (I:L2.Inv X pins σ H s) (k:Kn (fA X.stack) ch s.heap h') (he:∃φ,H e=some (.ext φ)) (hT:(∃φ,H T=some (.ext φ))∨s.heap.objs.size<=T)
  (hc:∀b∈ch,b=e∨b=T∨∃φ,H b=some (.ext φ)/\φ h'/\∃o,h'.get? b=some o) (ex:yφ C e dx T h') (ne:T≠e) (tb:φT h') (tt:∃o,h'.get? T=some o) (stab:∀h1 h2:Heap,φT h1->(∀o,h1.get? T=some o->h2.get? T=some o)->φT h2):L2.Inv X pins σ (dL H C e dx T φT) { s with heap:=h' }:=by
 obtain⟨φe,he⟩:=he;have hT':(∃φ,H T=some (.ext φ))∨(H T=none/\s.heap.get? T=none):=hT.imp id fun z=>⟨I.hok.fresh z,AN z⟩;have nT:∀b o,H b=some o->(∀φ,o≠.ext φ)->b≠T:=fun b o z n w=>by
  rw[w]at z;rcases hT' with⟨φ,q⟩|⟨q,_⟩
  ·rw[q]at z;cases z;exact n φ rfl
  ·rw[q]at z;cases z
 have nE:∀b o,H b=some o->(∀φ,o≠.ext φ)->b≠e:=fun b o z n w=>by
  rw[w,he]at z;cases z;exact n φe rfl
 have same:∀b o,H b=some o->(∀φ,o≠.ext φ)->dL H C e dx T φT b=some o:=fun b o z n=>by
  unfold dL;rw[ag (nT b o z n),ag (nE b o z n)];exact z
 have out:∀b,H b=none->b∈ch->∀o,s.heap.get? b≠some o:=fun b n m o z=>by
  rcases hc b m with w|w|⟨φ,w,_⟩
  ·rw[w,he]at n;cases n
  ·rw[w]at n z;rcases hT' with⟨φ,q⟩|⟨_,q⟩
   ·rw[q]at n;cases n
   ·rw[q]at z;cases z
  ·rw[w]at n;cases n
 have oc:∀c o,H c=some o->(∀φ,o≠.ext φ)->c∉ch:=fun c o z n m=>by
  rcases hc c m with w|w|⟨φ,w,_⟩
  ·exact nE c o z n w
  ·exact nT c o z n w
  ·rw[w]at z;cases z;exact n φ rfl
 refine I.call (ch:=[]) (g':=s.gens) (d':=s.drawn) (t':=s.toks) ⟨fun b o z n nf _=>k.keep b o nf (fun m=>out b n m o z) z,fun b o z n nf _=>k.slot b o nf (fun m=>out b n m o z) z,fun b o z n _=>?_,fun b o z _=>?_,fun b xs z=>same b _ z nofun,fun b o u z=>same b _ z nofun,fun b ps z=>⟨#[],by rw[Array.append_empty];exact same b _ z nofun⟩⟩ (fun b o z=>?_) I.bare nofun
 ·unfold dL;rw[ag,ag]
  ·exact n
  ·intro w;rw[w,he]at n;cases n
  ·intro w;rw[w]at n z;rcases hT' with⟨φ,q⟩|⟨_,q⟩
   ·rw[q]at n;cases n
   ·rw[q]at z;cases z
 ·by_cases m:b∈ch
  ·rcases hc b m with w|w|⟨φ,_,_,w⟩
   ·rw[w];obtain⟨_,_,q,_⟩:=ex;exact⟨_,q⟩
   ·rw[w];exact tt
   ·exact w
  ·by_cases f:b∈fA X.stack
   ·obtain⟨_,q⟩:=k.slot b o f m z;exact⟨_,q⟩
   ·exact⟨_,k.keep b o f m z⟩
 ·unfold dL at z;by_cases w:b=T
  ·subst w;rw[aq]at z;cases z;exact⟨tb,tt,stab⟩
  ·rw[ag w]at z;by_cases v:b=e
   ·subst v;rw[aq]at z;cases z;exact DY ex
   ·rw[ag v]at z;have nf:∀c u,H c=some u->c∉fA X.stack:=fun c u q m=>by rw[I.stkFree c m]at q;cases q
    by_cases m:b∈ch
    ·rcases hc b m with q|q|⟨φ,q,f,th⟩
     ·exact absurd q v
     ·exact absurd q w
     ·rw[q]at z;cases z;exact⟨f,th,(show ObjOk X.prog X.w H s.heap b (.ext φ) from I.hok b _ q).2.2⟩
    ·refine(I.hok b o z).stay (fun c u hc' q=>?_) (fun c q=>same c _ q nofun) fun c ys q=>same c _ q nofun;rcases hc' with rfl|hc'
     ·exact k.keep c u (nf c o z) m q
     ·exact k.keep c u (nf c _ hc') (oc c _ hc' nofun) q
end
section
variable {M:Model} {A:Around} {X:Value->Shared->Prop} {S:Shared} {base:Heap} {en:Env} {outer:List Env} {L e C T:Addr} {dx:Option Addr}
theorem Ie {Q:Unit->Shared->Prop} (hf:en.frame=some L) (x:X1 S.heap e C dx T (rawInt L)) (q:Q () S):wpAny M A (noteFrame (.ref e) en) Q X S:=by
 obtain⟨⟨vs,sl,e1,v1⟩,ne,o,ts,t1,t2,t3⟩:=x;unfold noteFrame;rw[hf];refine Aa (At e1 rfl v1 ?_);rw[Ad (show(Value.ref T != Value.none)=true by simp)]
 refine Aa (At t1 t2 t3 ?_);rw[Ad (show(rawInt L == rawInt L)=true by simp)]
 exact Ah q
theorem F4 {fl:Value} (hfl:(fl == rawInt L)=false) {Q:Unit->Shared->Prop} (fr:A.frames=some (en::outer)) (ff:S.heap.FunFrames base (en::outer)) (hf:en.frame=some L) (x:X1 S.heap e C dx T fl) (hT:T∉fA (en::outer))
  (q:∀H T',Kn (fA (en::outer)) ([T]++[e]) S.heap H->S.heap.objs.size<=T'->X1 H e C dx T' (rawInt L)->(∃o ts,H.get? T=some o/\o.data=.fields ts/\ts[3]?=some .none)->Q () { S with heap:=H }):wpAny M A (noteFrame (.ref e) en) Q X S:=by
 obtain⟨⟨vs,sl,e1,v1⟩,ne,o,ts,t1,t2,t3⟩:=x;unfold noteFrame;rw[hf];refine Aa (At e1 rfl v1 ?_);rw[Ad (show(Value.ref T != Value.none)=true by simp)]
 refine Aa (At t1 t2 t3 ?_);rw[Ag (show ¬ (fl == rawInt L)=true by rw[hfl];decide)]
 refine Aa (AR t1 t2 (Xe.mp t3).1 ?_);have ot:∀b,b≠T->(S.heap.update T (Obj.mapFields (·.setIfInBounds 3 Value.none))).get? b=S.heap.get? b:=fun b n=>Ai _ _ (Al n);have k1:Kn (fA (en::outer)) [T] S.heap (S.heap.update T (Obj.mapFields (·.setIfInBounds 3 Value.none))):=⟨fun b o _ n z=>(ot b fun w=>n (w ▸ .head _)).trans z,fun b o _ n z=>⟨o.slots,(ot b fun w=>n (w ▸ .head _)).trans z⟩,by rw[AK];exact Wa _⟩
 have td:=AU t2 (·.setIfInBounds 3 Value.none);refine entry_at (S:={ S with heap:=S.heap.update T (Obj.mapFields (·.setIfInBounds 3 Value.none)) }) fr (ff.of_keeps fun b o z nn=>⟨o,(ot b fun w=>?_).trans z,rfl⟩) hf ((ot e (Al ne)).trans e1) (Xe.mp v1).1 fun H T' k z x=>q H T' (k1.trans k) (Qb k1.size z) x ⟨_,_,k.keep T _ hT (fun m=>ne (Wb.mp m)) (Aq _ t1 (AI td)),td,by simp[(Xe.mp t3).1]⟩
 rw[w,t1]at z;cases z;exact nn ts t2
theorem JY {fl:Value} {F:Option Addr} {Q:Unit->Shared->Prop} {fs:List Addr} (x:X1 S.heap e C dx T fl) (q:∀H fl',Kn fs [T] S.heap H->X1 H e C dx T fl'->Q () { S with heap:=H }):wpAny M A (setFlight (.ref e) F) Q X S:=by
 obtain⟨⟨vs,sl,e1,v1⟩,ne,o,ts,t1,t2,t3⟩:=x;unfold setFlight;refine Aa (At e1 rfl v1 ?_);rw[Ad (show(Value.ref T != Value.none)=true by simp)]
 have v3:=(Xe.mp t3).1;refine AR t1 t2 v3 (q _ (F.elim Value.none fun f=>rawInt f) ⟨fun b o n1 n2 z=>?_,fun b o n1 n2 z=>⟨o.slots,?_⟩,?_⟩ ⟨⟨vs,sl,?_,v1⟩,ne,?_⟩)
 ·exact(Ai _ _ fun w:T=b=>n2 (w ▸ .head _)).trans z
 ·exact(Ai _ _ fun w:T=b=>n2 (w ▸ .head _)).trans z
 ·rw[AK];exact Wa _
 ·exact(Ai _ _ ne).trans e1
 ·have d:=AU t2 (·.setIfInBounds 3 (F.elim Value.none fun f=>rawInt f));exact⟨_,_,Aq _ t1 (AI d),d,by simp[v3]⟩
end
def F5 (C a:Addr) (dx:Option Addr) (H H':Hp):Prop:=∃T,T≠a/\H T=none/\H' a=some (.ext (yφ C a dx T))/\H' T=some (.ext (tφ T .none))/\∀b o,b≠a->H b=some o->H' b=some o
end VX
namespace VX
open PySem PySem.Spec PySem.W PyProof.Rows L2 VF
section
variable {M:Model} {A:Around} {X:Value->Shared->Prop} {S:Shared} {base:Heap} {en:Env} {outer:List Env} {L e C T:Addr} {dx:Option Addr}
theorem F6 {v:Value} {Q:Unit->Shared->Prop} (fr:A.frames=some (en::outer)) (ff:S.heap.FunFrames base (en::outer)) (hf:en.frame=some L) (x:X1 S.heap e C dx T v) (hT:T∉fA (en::outer))
  (qA:∀H,Kn (fA (en::outer)) [T] S.heap H->X1 H e C dx T .none->Q () { S with heap:=H })
  (qB:∀H T',Kn (fA (en::outer)) ([T]++[e]) S.heap H->S.heap.objs.size<=T'->X1 H e C dx T' .none->(∃o ts,H.get? T=some o/\o.data=.fields ts/\ts[3]?=some .none)->Q () { S with heap:=H }):wpAny M A (leaving en (.ref e)) Q X S:=by
 unfold leaving;cases hv:(v == rawInt L) with
 | true =>
  obtain rfl:v=rawInt L:=by simpa using hv
  exact Aa (Ie hf x (land (fs:=fA (en::outer)) x qA))
 | false =>
  refine Aa (F4 hv fr ff hf x hT fun H T' k z x' old=>?_);obtain⟨o,ts,t1,t2,t3⟩:=x.tb;have lT:=Ac t1;have nT:T≠T':=Zf (Va lT z);refine land (S:={ S with heap:=H }) (fs:=fA (en::outer)) x' fun H2 k2 x2=>qB H2 T' ⟨fun b o n1 n2 w=>?_,fun b o n1 n2 w=>?_,Qb k.size k2.size⟩ z x2 ?_
  ·refine k2.keep b o n1 (fun m=>?_) (k.keep b o n1 n2 w);rw[Wb.mp m]at w;exact absurd (Ac w) (Qk z)
  ·obtain⟨sl',w1⟩:=k.slot b o n1 n2 w;refine k2.slot b { o with slots:=sl' } n1 (fun m=>?_) w1;rw[Wb.mp m]at w;exact absurd (Ac w) (Qk z)
  ·obtain⟨o',ts',w1,w2,w3⟩:=old;exact⟨o',ts',k2.keep T o' hT (fun m=>nT (Wb.mp m)) w1,w2,w3⟩
end
section
variable {P:Program} {w:World} {K:Frag} {mg:Str->Option Value} {base:Heap} {N:List Str} {qual:Str} {scope:Scope} {f:Addr} {cd:Value} {A:Around} {outer:List Env} {s0 s:Shared} {H0 H:Hp} {E:XK} {pins:List (Addr×Obj)} {σ:L2.St} {C e T:Addr} {dx:Option Addr}
theorem Cu (I:L2.Inv (bw (fR P w) P w K mg base N qual scope f cd A outer s0 H0 E) pins σ (dL H C e dx T (tψ T)) s) (nT:H T=none) (ne:T≠e) (q:∀H',F5 C e dx H H'->E (.ref e) none H') :
  (bw (fR P w) P w K mg base N qual scope f cd A outer s0 H0 E).xe (.ref e) s:=by
 have ea:dL H C e dx T (tψ T) e=some (.ext (yφ C e dx T)):=by unfold dL;rw[ag (Al ne),aq]
 have eT:dL H C e dx T (tψ T) T=some (.ext (tψ T)):=by unfold dL;rw[aq]
 obtain⟨o,ts,v,t1,t2,t3⟩:=(I.hok T _ eT).1;refine F6 (v:=v) I.ok.frames I.stack rfl ⟨(I.hok e _ ea).1,ne,o,ts,t1,t2,t3⟩ (fun m=>by rw[I.stkFree T m]at eT;cases eT) (fun h' k x=>?_) fun h' T' k z x old=>?_
 ·have J:=qu I k ⟨_,ea⟩ (.inl ⟨_,eT⟩) (fun b m=>.inr (.inl (Wb.mp m))) x.ex x.ne x.tb (let ⟨o,_,z,_⟩:=x.tb;⟨o,z⟩) D3;refine⟨e,_,rfl,J.os,J.bare,J.base,J.hok,q _ ⟨T,ne,nT,?_,?_,fun b o n1 z=>?_⟩⟩
  ·unfold dL;rw[ag (Al ne),aq]
  ·unfold dL;rw[aq]
  ·have n2:b≠T:=fun w=>by rw[w,nT]at z;cases z
   unfold dL;rw[ag n2,ag n1,ag n2,ag n1];exact z
 ·have J:=qu I k ⟨_,ea⟩ (.inr z) (fun b m=>?_) x.ex x.ne x.tb (let ⟨o,_,z,_⟩:=x.tb;⟨o,z⟩) D3
  ·have nT':dL H C e dx T (tψ T) T'=none:=I.hok.fresh z;have m1:T'≠T:=fun w=>by rw[w,eT]at nT';cases nT'
   have m2:T'≠e:=fun w=>by rw[w,ea]at nT';cases nT'
   have nH:H T'=none:=by unfold dL at nT';rw[ag m1,ag m2]at nT';exact nT'
   refine⟨e,_,rfl,J.os,J.bare,J.base,J.hok,q _ ⟨T',m2,nH,?_,?_,fun b o n1 z=>?_⟩⟩
   ·unfold dL;rw[ag (Al m2),aq]
   ·unfold dL;rw[aq]
   ·have n2:b≠T:=fun w=>by rw[w,nT]at z;cases z
    have n3:b≠T':=fun w=>by rw[w,nH]at z;cases z
    unfold dL;rw[ag n3,ag n1,ag n2,ag n1];exact z
  ·rcases Vd.mp m with m|m
   ·rw[Wb.mp m];obtain⟨o',ts',w1,w2,w3⟩:=old;exact .inr (.inr ⟨_,eT,⟨o',ts',_,w1,w2,w3⟩,⟨o',w1⟩⟩)
   ·exact .inl (Wb.mp m)
end
def Jx (X:Cx) (e:Expr) (t:(Addr->Hp->Prop)->TE):Prop:=∀(pins:List (Addr×Obj)) (s:Shared) (σ:L2.St) (H:Hp) (Q:VK) (Ex:Addr->Hp->Prop),L2.Inv X pins σ H s->t Ex σ H Q ->
 wpAny (model X.prog X.w) X.A (eval e X.env) (EP X pins σ Q) (fun u s'=>∃a H',u=.ref a/\L2.Inv X pins σ H' s'/\Ex a H') s
theorem yV {X:Cx} {x:Str} {k k':Nat} {ps:List Str} {sp:Sp} {e:Expr} {es:List Expr} {t:TA} {p cp:Pos} (Cg:CalG X.prog X.w X.K X.mg X.base x k ps sp) (hr:Room k' X.A) (hg:Gl X x) (ha:PA X.nox (e::es) t)
  (hk:k<=k':=by decide) (hdb:(x == ("__debug__":Str))=false:=by decide) (he:starEach (e::es) X.env=(false,eval e X.env)::starEach es X.env:=by rfl) (hpl:(backTo cp (starEach es X.env)).any (·.1)=false:=by rfl) :
  Jx X (.Call (.Name x p) (e::es) [] cp) fun Ex σ H Q=>t σ H fun vs H1=>sp vs H1 Q fun u _ H2=>∃a,u=.ref a/\Ex a H2:=by
 intro pins s σ H Q Ex I h;obtain⟨f,fd,F,hm,hkp,hb⟩:=Cg.ex;refine As (cX I hg hm ?_ hdb);refine PySem.W.callWith_K (h₀:=X.base) I.ok.mod.kin hkp (Ak (ha cp pins s σ H _ (I.wish _) h) (fun us s1 zz=>?_) fun _ _ z=>False.elim z) he hpl;obtain⟨vs,H1,I1,r,q⟩:=zz;refine⟨I1.unwish.kIn,Ak (vk F (hr.mono hk) hb I1.unwish r q) (fun u s2 zz=>zz) fun u s2 zz=>?_⟩;obtain⟨a,H2,rfl,I2,b,w,q2⟩:=zz;cases w;exact⟨a,H2,rfl,I2,q2⟩
end VX
namespace VX
open PySem PySem.Spec PySem.W PyProof.Rows L2 VF
def wK (EE:Addr->Hp->Prop):Addr->Hp->Prop:=fun a H=>∃C dx T,T≠a/\H a=some (.ext (yφ C a dx T))/\H T=some (.ext (tφ T .none))/\∀H',F5 C a dx H H'->EE a H'
theorem wL {H:Hp} {C e T:Addr} {dx:Option Addr} {φ ψ:Heap->Prop}:dL (dL H C e dx T φ) C e dx T ψ=dL H C e dx T ψ:=by
 funext x
 unfold dL;by_cases h:x=T
 ·rw[h,aq,aq]
 ·rw[ag h,ag h];by_cases g:x=e
  ·rw[g,aq,aq]
  ·rw[ag g,ag h,ag g]
theorem tY {prog:Program} {w:World} {A:Around} {R:Result->Shared->Prop} {s:Shared} {elt target iter:Expr} {ifs:List Expr} {scope:Scope} {pos:Pos} {it acc:Value} {env:Env} (I:Nat->Shared->Prop)
  (turn:∀n s,I n s->wpAny (model prog w) A (pyNext it) (fun r s₁=>match r with
   | none=>R (.ok .next) s₁
   | some v=>wpAny (model prog w) A (letOwnedTupleGo target it v) (fun _ s₀=>wpAny (model prog w) A (assign target env v) (fun _ s₂ =>
     wpAny (model prog w) A (forIn ifs true fun c r=>if r=true then do let ok ← isTrue c env (eval c env);pure (ForInStep.yield ok) else pure (ForInStep.yield r)) (fun ok s₃ =>
      if ok=true then wpAny (model prog w) A (eval elt env) (fun x s₄ =>
       wpAny (model prog w) A (call (.builtin "list.append") [acc,x]) (fun _ s₅=>∃m,m<n/\I m s₅) (fun _ _=>False) s₄) (notedBy (model prog w) A env fun x s'=>R (.error x) s') s₃
      else ∃m,m<n/\I m s₃) (fun _ _=>False) s₂) (fun _ _=>False) s₀) (fun _ _=>False) s₁) (fun _ _=>False) s)
  (n:Nat) (h:I n s) :
  codeAny (model prog w) A (.compLoop (.ListComp elt [⟨target,iter,ifs,0⟩] scope pos) 0 it acc env) R s:=by
 refine codeAny_loop rfl I (fun n s hI=>?_) n h;show wpAny _ A ((compTurn (.ListComp elt [⟨target,iter,ifs,0⟩] scope pos) 0 it acc env).onRaise (fun x=>do noteFrame x env;theTreesLotGoes x)) _ _ s
 refine wpAny_noted ?_;rw[compTurn_list];refine Aa (AB (Aa (Ak (turn n s hI) (fun r s₁ h₁=>?_) fun _ _ h'=>False.elim h')));cases r with
 | none=>exact Ah h₁
 | some v =>
  refine Aa (Ak h₁ (fun _ s₀ h₀=>?_) fun _ _ h'=>False.elim h');refine Aa (Ak h₀ (fun _ s₂ h₂=>Aa (Ak h₂ (fun ok s₃ h₃=>?_) fun _ _ h'=>False.elim h')) fun _ _ h'=>False.elim h');cases ok with
  | false=>exact Ah ⟨rfl,h₃⟩
  | true =>
   exact Aa (Aa (Ak h₃ (fun x s₄ h₄=>Aa (Ak h₄ (fun _ s₅ h₅=>Ah (Ah ⟨rfl,h₅⟩)) fun _ _ h'=>False.elim h')) fun _ _ h'=>h'))
theorem tZ {X:Cx} {elt iter tg:Expr} {ifs:List Expr} {scope:Scope} {pos cpos:Pos} {N:List Str} {k:Nat} {caps:List Nat} {wi:TI} {g:TG} {tc:TT} {te:(Addr->Hp->Prop)->TE} {EE:Addr->Hp->Prop} {use:Option (Value->Sem Unit)} {Q':Value->Shared->Prop}
  {pins:List (Addr×Obj)} {s:Shared} {σ:L2.St} {H:Hp} {Q:VK} (S:BlkScope X N k caps scope) (hc:X.calm=true) (hi:PI X tg iter wi)
  (hg:∀C s H fp,PG (hZ X N scope C s H fp) tg g) (ht:∀C s H fp,GY (hZ X N scope C s H fp) ifs tc) (he:∀C s H fp,Jx (hZ X N scope C s H fp) elt te) (hst:X.stack=X.env::X.outer) (hfr:X.env.frame=some X.env.locals)
  (hs:∀x,foldedSetIterable iter X.env x=pure x) (I:L2.Inv X pins σ H s) (h:oS k caps wi g tc (te (wK EE)) σ H Q)
  (fin:∀(D C:Addr) (H4:Hp) (s4:Shared) (m:Str->Option Value),L2.Inv X pins σ H4 s4->s4.heap.Ns C m->xQ X pins H4 C->Q (.ref D) H4->compPost (model X.prog X.w) X.A X.xe use Q' (.ref D) C (.ok .next) s4)
  (bad:∀(H8:Hp) (C0 a:Addr) (dx:Option Addr) (T1:Addr) (s':Shared),L2.Inv X pins σ (dL H8 C0 a dx T1 (tψ T1)) s'->H8 T1=none->T1≠a->(∀H',F5 C0 a dx H8 H'->EE a H')->X.xe (.ref a) s') :
  wpAny (model X.prog X.w) X.A (comprehension (.ListComp elt [⟨tg,iter,ifs,0⟩] scope pos) scope X.env cpos (newList []) false (eval iter X.env) use) Q' X.xe s:=by
 refine wpAny_comprehension_free rfl hs (fW (S.cells I.ok)) S.kind S.loc ?_;refine b7 (hi pins s σ H _ I h) fun v s1 h1=>b7 h1 fun itv s2 h2=>?_;obtain⟨it,fp,tn,J,H2,e,I2,T,st2,f2,n0,W,w0,wstop,turn⟩:=h2;subst e;refine Aw (wpAny_newFunctionEnv S.nocell (by intro y hy;simp at hy) (fun h₁ hns₁ hsb₁=>?_) S.kind)
 dsimp only at hns₁ hsb₁ ⊢;generalize hG:s2.heap.push { cls:=.type "list",dict:=none,data:=.seq ([]:List Value).toArray }=G at hns₁ hsb₁ ⊢;have hCG:G.objs.size=s2.heap.objs.size+1:=by rw[← hG,A8]
 have hDC:s2.heap.objs.size≠G.objs.size:=by lia
 have below:∀b,b<s2.heap.objs.size->b≠G.objs.size/\b≠s2.heap.objs.size:=fun b hb=>⟨by lia,by lia⟩
 have old:∀b o,s2.heap.get? b=some o->h₁.get? b=some o:=fun b o e=>hsb₁.extBut b o (below b (Ac e)).1 (Ab _ (hG ▸ Ab _ e));have hacc:h₁.get? s2.heap.objs.size=some (bR [] 0):=hsb₁.extBut _ _ hDC (Ab _ (hG ▸ Aj _ rfl));have hlt:∀b∈fp,b<s2.heap.objs.size:=fun b hb=>by obtain⟨o,ho,_⟩:=T.obj 0 _ st2 b hb;exact Ac ho
 have hDf:s2.heap.objs.size∉fp:=fun z=>Ye _ (hlt _ z);have hle:s2.heap.objs.size<=G.objs.size:=by lia
 have hDcell:∀x c,(bE X.env scope.names []).lookup x=some c->c≠s2.heap.objs.size:=fun x c e z=>by
  obtain⟨v,q⟩:=I2.cell x c (S.sub I2.ok e);exact absurd q.lt (by rw[z];exact Ye _)
 have hDfs:s2.heap.objs.size∉fA X.stack:=fun z=>by
  obtain⟨_,o,ho,_⟩:=I2.stack.mem z;exact absurd (Ac ho) (Ye _)
 have nfs:∀b∈fp,b∉fA X.stack:=fun b hb z=>by
  rcases Vc.mp (I2.stkSub b z) with e|e
  ·exact(f2 b hb).2.1 e
  ·exact(f2 b hb).2.2.1 e
 have fpk:∀{H':Hp} {its:List Value} {n:Nat},(∀b∈fp,H' b=none)->∀b∈fp,mZ (hZ X N scope G.objs.size s2 H2 fp) [(s2.heap.objs.size,bR its n)] H' b:=fun {H' its n} hn b hb =>
  ⟨hn b hb,(below b (hlt b hb)).1,nfs b hb,.inl hb,fun x c e=>(f2 b hb).2.2.2.2.1 x c (S.sub I2.ok e),fun p hp=>by
   have e:p=(s2.heap.objs.size,bR its n):=by simpa using hp
   rw[e];exact Al (below b (hlt b hb)).2⟩
 have pinD:∀{H':Hp} {s':Shared} {σ':L2.St} {its:List Value} {n:Nat},L2.Inv (hZ X N scope G.objs.size s2 H2 fp) [] σ' H' s'->s'.heap.get? s2.heap.objs.size=some (bR its n)->H' s2.heap.objs.size=none->L2.Inv (hZ X N scope G.objs.size s2 H2 fp) [(s2.heap.objs.size,bR its n)] σ' H' s':=fun {H' s' σ' its n} J e hn =>
  J.pins_of fun p hp=>by
   have q:p=(s2.heap.objs.size,bR its n):=by simpa using hp
   rw[q];exact⟨e,hn,hDC,hDfs,fun v z=>by cases z⟩
 have I3:L2.Inv (hZ X N scope G.objs.size s2 H2 fp) [] (ia k caps σ) H2 { s2 with heap:=h₁,toks:=s2.toks+([]:List (Str×Value)).length }:=uO S I2 f2 hlt hle rfl rfl old hns₁ (Va I2.tk (Qm _ _));have away:∀{pl:List (Addr×Obj)} {σ8:L2.St} {uy:Value} (s8:Shared),(∃a H8,uy=.ref a/\L2.Inv (hZ X N scope G.objs.size s2 H2 fp) pl σ8 H8 s8/\wK EE a H8)->notedBy (model X.prog X.w) X.A (compEnvC scope (bE X.env scope.names []) G.objs.size X.env) (fun x s'=>compPost (model X.prog X.w) X.A X.xe use Q' (.ref s2.heap.objs.size) G.objs.size (.error x) s') uy s8:=by
  rintro pl σ8 uy s8 ⟨a,H8,rfl,J8,C0,dx,T,ne,ea,eT,q⟩;have fr:=J8.ok.frames;have sk:=J8.stack;have sf:=J8.stkFree;have fr':X.A.frames=some (X.env::X.outer):=by rw[← hst];exact fr
  have sk':s8.heap.FunFrames X.base (X.env::X.outer):=by rw[← hst];exact sk
  show wpAny _ X.A (noteFrame (.ref a) X.env) _ _ s8;refine yM fr' sk' hfr ⟨(J8.hok a _ ea).1,ne,(J8.hok T _ eT).1⟩ (fun m=>by rw[← hst]at m;rw[sf T m]at eT;cases eT) fun h1 T1 k1 z1 x1 old=>?_
  rw[← hst]at k1;have J1:=qu (φT:=tψ T1) J8 k1 ⟨_,ea⟩ (.inr z1) (fun b m=>?_) x1.ex x1.ne (let ⟨o,ts,w1,w2,w3⟩:=x1.tb;⟨o,ts,_,w1,w2,w3⟩) (let ⟨o,_,z,_⟩:=x1.tb;⟨o,z⟩) D2
  ·have nT1:H8 T1=none:=J8.hok.fresh z1;obtain⟨m1,hm1,_⟩:=id J1.loc;refine⟨m1,hm1,fun h' hs' cenv _=>?_⟩;have I9:L2.Inv X pins σ (dL H8 C0 a dx T1 (tψ T1)) { s8 with heap:=h1 }:=I2.call' (ch:=fp) J1.os J1.base J1.hok J1.bare (fun b hb=>⟨(f2 b hb).2.2.2.1,(f2 b hb).2.1,(f2 b hb).2.2.2.2.1,(f2 b hb).2.2.2.2.2⟩) J1.tk
   have I10:=I9.aside (C:=G.objs.size) ⟨J1.free,Qj (Va I2.lt hle),.inr (Qb I2.sz hle),fun x c e z=>(by
    obtain⟨v,q⟩:=I2.cell x c e
    exact absurd (Va q.lt (by rw[z];exact hle)) (Ye _)),fun p hp z=>absurd (Va (Ac (I2.pin p hp).1) (by rw[z];exact hle)) (Ye _)⟩ hs'
   have eA:dL H8 C0 a dx T1 (tψ T1) a=some (.ext (yφ C0 a dx T1)):=by unfold dL;rw[ag (Al x1.ne),aq]
   have eT1:dL H8 C0 a dx T1 (tψ T1) T1=some (.ext (tψ T1)):=by unfold dL;rw[aq]
   obtain⟨o,ts,v,t1,t2,t3⟩:=(I10.hok T1 _ eT1).1;obtain⟨vs,sl,e1,v1⟩:=(I10.hok a _ eA).1;unfold PySem.passOn;refine Aa (At e1 rfl v1 ?_);rw[Ag (show ¬ (Value.ref T1 == Value.none)=true by simp)]
   refine Aa (JY (fs:=fA X.stack) ⟨⟨vs,sl,e1,v1⟩,x1.ne,o,ts,t1,t2,t3⟩ fun h2 fl' k2 x2=>?_);have I11:=qu (φT:=tψ T1) I10 k2 ⟨_,eA⟩ (.inl ⟨_,eT1⟩) (fun b m=>.inr (.inl (Wb.mp m))) x2.ex x2.ne (let ⟨o,ts,w1,w2,w3⟩:=x2.tb;⟨o,ts,_,w1,w2,w3⟩) (let ⟨o,_,z,_⟩:=x2.tb;⟨o,z⟩) D2;rw[wL]at I11;exact wpAny_throw (bad H8 C0 a dx T1 _ I11 nT1 x1.ne q)
  ·rcases Vd.mp m with m|m
   ·rw[Wb.mp m];exact .inr (.inr ⟨_,eT,old,let ⟨o,_,z,_⟩:=old;⟨o,z⟩⟩)
   ·exact .inl (Wb.mp m)
 have loop:codeAny (model X.prog X.w) X.A (.compLoop (.ListComp elt [⟨tg,iter,ifs,0⟩] scope pos) 0 (.ref it) (.ref s2.heap.objs.size) (compEnvC scope (bE X.env scope.names []) G.objs.size X.env))
   (compPost (model X.prog X.w) X.A X.xe use Q' (.ref s2.heap.objs.size) G.objs.size) { s2 with heap:=h₁,toks:=s2.toks+([]:List (Str×Value)).length }:=by
  refine tY (CI (hZ X N scope G.objs.size s2 H2 fp) s2.heap.objs.size (ia k caps σ) tn fp n0 W) ?_ n0
   ⟨0,[],[],0,H2,pinD I3 hacc (I2.hok.fresh (Wa _)),T.keep _ _ _ st2 fun b _ o e=>old b o e,fun b hb=>(f2 b hb).1,.nil,Vj _,rfl,Vj _,w0⟩
  rintro n s3 ⟨i,xs,its,nn,H3,J3,st3,fr3,vs3,hz3,hn3,hi3,w3⟩;by_cases hin:i<n0
  rotate_left
  ·have ein:i=n0:=by lia
   subst ein;obtain⟨stop,qn⟩:=wstop xs H3 w3;refine b7 (T.done (hZ X N scope G.objs.size s2 H2 fp) rfl rfl rfl hc i _ s3 _ H3 _ J3 (fpk fr3) st3 stop) fun r s4 zz9=>?_;obtain⟨hr,J4⟩:=zz9;subst hr;obtain⟨eD,nD,_⟩:=J4.pin (s2.heap.objs.size,bR its nn) (by simp)
   have eD:s4.heap.get? s2.heap.objs.size=some (bR its nn):=eD;have nD:H3 s2.heap.objs.size=none:=nD;obtain⟨m4,hm4,_⟩:=J4.loc;have U:Un (fA X.stack) fp H2 H3 s2.heap s4.heap:=J4.base;have neC:∀b o,s2.heap.get? b=some o->b≠G.objs.size:=fun b o e=>(below b (Ac e)).1;have neD:∀b o,s2.heap.get? b=some o->b≠s2.heap.objs.size:=fun b o e=>(below b (Ac e)).2;have H2D:H2 s2.heap.objs.size=none:=I2.hok.fresh (Wa _);have HC:H3 G.objs.size=none:=J4.free;refine fin s2.heap.objs.size G.objs.size (upd H3 s2.heap.objs.size (.lst xs)) s4 m4 (I2.call' (s':=s4) (ch:=fp) J4.os ?_ ?_ J4.bare ?_ J4.tk) hm4 ?_ (qn _ nD)
   ·refine⟨fun b o e n hb hx=>U.keep b o e n hb hx,fun b o e n hb hx=>U.slot b o e n hb hx,fun b o e n hx=>?_,fun b o e hx=>U.there b o e hx,fun b ys e=>?_,fun b o u e=>?_,fun b ps e=>?_⟩
    ·rw[ag (neD b o e)];exact U.free b o e n hx
    ·rw[ag (aN e H2D)];exact U.tups b ys e
    ·rw[ag (aN e H2D)];exact U.frzs b o u e
    ·obtain⟨more,q⟩:=U.tbls b ps e;exact⟨more,by rw[ag (aN e H2D)];exact q⟩
   ·intro b u e;by_cases hb:b=s2.heap.objs.size
    ·subst hb;rw[aq]at e;cases e;exact⟨hz3,its,nn,vs3,eD⟩
    ·rw[ag hb]at e;exact(J4.hok b u e).stay (fun c v _ q=>q) (fun c q=>by rw[ag (aN q nD)];exact q) fun c ys q=>by rw[ag (aN q nD)];exact q
   ·exact fun b hb=>⟨(f2 b hb).2.2.2.1,(f2 b hb).2.1,(f2 b hb).2.2.2.2.1,(f2 b hb).2.2.2.2.2⟩
   ·refine⟨by rw[ag (Al hDC)];exact HC,Qj (Va I2.lt hle),.inr (Qb I2.sz hle),fun x c e z=>?_,fun p hp z=>?_⟩
    ·obtain⟨v,q⟩:=I2.cell x c e;exact absurd (Va q.lt (by rw[z];exact hle)) (Ye _)
    ·exact absurd (Va (Ac (I2.pin p hp).1) (by rw[z];exact hle)) (Ye _)
  ·obtain⟨go,hz,step⟩:=turn i xs H3 hin w3;refine b7 (T.item (hZ X N scope G.objs.size s2 H2 fp) rfl rfl rfl hc i _ s3 _ H3 _ J3 (fpk fr3) st3 go) fun r s4 zz9=>?_;obtain⟨u,hr,h4⟩:=zz9;subst hr;refine b7 h4 fun _ s5 zz9=>?_;obtain⟨x,H5,J5,r5,y5,st5,fr5⟩:=zz9;have J5':=J5.pinned (fpk fr5) (T.obj _ _ st5);refine b7 (hg _ _ _ _ _ s5 _ H5 x u _ J5' r5 (step x H5 y5)) fun _ s6 zz9=>?_;obtain⟨σ6,H6,J6,q6⟩:=zz9;refine b7 (ht _ _ _ _ _ s6 σ6 H6 _ J6 q6) fun ok s7 zz9=>?_;obtain⟨H7,J7,q7⟩:=zz9;have wk:∀{σ8:L2.St} {H8:Hp} {s8:Shared} {pl:List (Addr×Obj)},L2.Inv (hZ X N scope G.objs.size s2 H2 fp) pl σ8 H8 s8->σ8.drop k=(ia k caps σ).drop k->L2.Inv (hZ X N scope G.objs.size s2 H2 fp) pl (ia k caps σ) H8 s8:=fun {σ8 H8 s8 pl} J8 hd =>
    J8.weak (by rw[p7,J8.len];exact S.len.symm) fun j v e=>by
     obtain⟨j',i',rfl,hc',hv'⟩:=p8 e;have e1:((ia k caps σ).drop k)[j']?=some (some v):=by rw[Qe];exact e
     rw[← hd,Qe]at e1;exact e1
   have recs:∀{σ8:L2.St} {H8:Hp} {s8:Shared},L2.Inv (hZ X N scope G.objs.size s2 H2 fp) ([(s2.heap.objs.size,bR its nn)]++kK fp s5.heap) σ8 H8 s8->(∀b∈fp,∀o,s5.heap.get? b=some o->s8.heap.get? b=some o)/\(∀b∈fp,H8 b=none):=fun {σ8 H8 s8} J8 =>
    ⟨fun b hb o e=>(J8.pin (b,o) (Xd _ (Xd _ (cY hb e)))).1,fun b hb=>by
     obtain⟨o,e,d⟩:=T.obj _ _ st5 b hb
     exact(J8.pin (b,o) (Xd _ (Xd _ (cY hb e)))).2.1⟩
   cases ok with
   | false =>
    rw[Ag (by decide)]at q7 ⊢
    obtain⟨hd,w7⟩:=q7;obtain⟨k1,k2⟩:=recs J7;exact⟨n0-(i+1),by lia,i+1,xs,its,nn,H7,wk J7.unpinned hd,T.keep _ _ _ st5 k1,k2,vs3,hz3,rfl,hin,w7⟩
   | true =>
    rw[Ad rfl]at q7 ⊢;refine Ak (he _ _ _ _ _ s7 σ6 H7 _ _ J7 q7) (fun uy s8 zz9=>?_) fun uy s8 zz9=>?_
    rotate_left
    ·exact away s8 zz9
    obtain⟨y,H8,J8,r8,hd,w8⟩:=zz9;obtain⟨k1,k2⟩:=recs J8;obtain⟨eD,nD,_⟩:=J8.pin (s2.heap.objs.size,bR its nn) (by simp)
    have eD:s8.heap.get? s2.heap.objs.size=some (bR its nn):=eD;have nD:H8 s2.heap.objs.size=none:=nD;have hl3:=vs3.length;refine AA F.slot_list_append ⟨_,eD,rfl⟩ F.entry_list_append (F.args_list_append_2 _ _) (PySem.list_append s2.heap.objs.size its.toArray nn uy (by rw[Vb];lia)) ⟨eD,?_⟩
    have q:=PySem.IsL.update eD (fun a:Array Value=>a.push uy);have qe:its.toArray.push uy=(its++[uy]).toArray:=by simp
    rw[qe]at q;have oth:∀b o,b≠s2.heap.objs.size->s8.heap.get? b=some o->(s8.heap.update s2.heap.objs.size (Obj.mapSeq fun a=>a.push uy)).get? b=some o:=fun b o hb e=>(Ai s8.heap _ (Al hb)).trans e;have J9:L2.Inv (hZ X N scope G.objs.size s2 H2 fp) [] σ6 H8 { s8 with heap:=s8.heap.update s2.heap.objs.size (Obj.mapSeq fun a=>a.push uy),toks:=s8.toks } :=
     (J8.pins_of (pins':=[]) fun p hp=>absurd hp (by simp)).turned oth nD hDC (.inr (Wa _)) hDcell (fun p hp=>absurd hp (by simp))
    refine⟨n0-(i+1),by lia,i+1,xs++[y],its++[uy],_,H8,wk (pinD J9 q nD) hd,T.keep _ _ _ st5 fun b hb o e=>oth b o (fun z=>hDf (z ▸ hb)) (k1 b hb o e),k2,vs3.append (.cons r8 .nil),?_,rfl,hin,w8⟩
    rw[Xa,Qg];lia
 exact codeAny_compStart_list loop (T.self _ 0 _ _ _ (T.keep _ _ _ st2 fun b _ o e=>old b o e) loop)
def qv (k:Nat) (caps:List Nat) (wi:TI) (g:TG) (tc:TT) (te:(Addr->Hp->Prop)->TE) (E:XK):TE:=oS k caps wi g tc (te (wK fun a H=>E (.ref a) none H))
section
variable {P:Program} {w:World} {K:Frag} {mg:Str->Option Value} {base:Heap} {NF:List Str} {qual:Str} {gQ:Scope} {f:Addr} {cd:Value} {A:Around} {outer:List Env} {s0:Shared} {H0:Hp} {E:XK}
theorem yW {elt iter tg:Expr} {ifs:List Expr} {scope:Scope} {pos:Pos} {N:List Str} {k:Nat} {caps:List Nat} {wi:TI} {g:TG} {tc:TT} {te:(Addr->Hp->Prop)->TE} (S:BlkScope (bw (fR P w) P w K mg base NF qual gQ f cd A outer s0 H0 E) N k caps scope) (hc:(bw (fR P w) P w K mg base NF qual gQ f cd A outer s0 H0 E).calm=true) (hi:PI (bw (fR P w) P w K mg base NF qual gQ f cd A outer s0 H0 E) tg iter wi)
  (hg:∀C s H fp,PG (hZ (bw (fR P w) P w K mg base NF qual gQ f cd A outer s0 H0 E) N scope C s H fp) tg g) (ht:∀C s H fp,GY (hZ (bw (fR P w) P w K mg base NF qual gQ f cd A outer s0 H0 E) N scope C s H fp) ifs tc) (he:∀C s H fp,Jx (hZ (bw (fR P w) P w K mg base NF qual gQ f cd A outer s0 H0 E) N scope C s H fp) elt te)
  (hs:∀x,foldedSetIterable iter (bw (fR P w) P w K mg base NF qual gQ f cd A outer s0 H0 E).env x=pure x:=by intro _;rfl):PE (bw (fR P w) P w K mg base NF qual gQ f cd A outer s0 H0 E) (.ListComp elt [⟨tg,iter,ifs,0⟩] scope pos) (qv k caps wi g tc te E):=by
 intro pins s σ H Q I h;rw[eval_ListComp];exact tZ (use:=none) S hc hi hg ht he rfl rfl hs I h (fun D C H4 s4 m I4 hm a q=>⟨m,hm,fun h' hs'=>⟨.ref D,H4,I4.aside a hs',rfl,q⟩⟩) fun H8 C0 a dx T1 s' I8 n1 n2 q=>Cu I8 n1 n2 q
end
end VX
namespace VX
open PySem PySem.Spec PySem.W PyProof.Rows L2 VF
def yX (fg:FG) (fc:FT) (R:List D->Option Rx) (g:List D->Option Rz) (fa:FA) (k:Nat):List D->En->Option Rx
 | [],_=>none
 | x::r,sb=>(fg x sb).bind fun s1=>(fc s1).bind fun c=>if c.1=true then(fa c.2).bind fun a=>(bK a.1 a.2).bind fun y=>match R y.1 with
   | some v=>some v
   | none=>(bV g fa c.2).bind fun y=>(esc y.1 y.2).bind fun w=>yX fg fc R g fa k r (kR k w.2)
  else yX fg fc R g fa k r (kR k c.2)
def jy (k:Nat) (caps:List Nat) (fi:FI) (fg:FG) (fc:FT) (R:List D->Option Rx) (g:List D->Option Rz) (fa:FA):En->Option Rx:=fun st=>(fi st).bind fun x=>if (gO caps x.2.length&&decide (x.1.length<=1000000))=true then yX fg fc R g fa k x.1 (fE k caps x.2) else none
def Jy (sp:Sp) (ta:TA):(Addr->Hp->Prop)->TE:=fun Ex σ H Q=>ta σ H fun vs H1=>sp vs H1 Q fun u _ H2=>∃a,u=.ref a/\Ex a H2
def kl (k:Nat) (caps:List Nat) (fi:FI) (fg:FG) (fc:FT) (R:List D->Option Rx) (g:List D->Option Rz) (fa:FA) (kF:FE->FS):FY:=fun st=>match jy k caps fi fg fc R g fa st with
 | some v=>some (.x v)
 | none=>(kF (eQ k caps fi fg fc (bV g fa)) st).bind fun o=>some (.o o)
section
variable {K:Frag} {C:Addr} {n:Str} {E:XK}
theorem Ig {H:Hp} {v:Rx} (h:Flies K E H v):Flies K (fun u _ H2=>∃a,u=.ref a/\wK (fun a H=>E (.ref a) none H) a H2) H v:=fun C hC e H' z=>by
 obtain⟨dx,T,a1,a2,a3,a4,a5⟩:=z.obj;refine⟨e,rfl,C,dx,T,a1,a3,a5,fun H2 g=>h C hC e H2 ?_⟩;obtain⟨T2,b1,b2,b3,b4,b5⟩:=g;have same:∀b o,H b=some o->b≠e:=fun b o w q=>by rw[q,z.new]at w;cases w
 refine⟨z.new,⟨dx,T2,b1,?_,b3,?_,b4⟩,fun b o w=>b5 b o (same b o w) (z.old b o w)⟩
 ·cases w:H T2 with
  | none=>rfl
  | some o=>rw[z.old _ _ w]at b2;cases b2
 ·rcases a4 with a4|⟨d,w1,w2,w3⟩
  ·exact .inl a4
  ·exact .inr ⟨d,w1,w2,b5 d _ (fun q=>by rw[q,a3]at w3;cases w3) w3⟩
theorem yY {k:Nat} {caps:List Nat} {wi:TI} {fi:FI} {g:TG} {fg:FG} {tg:List Nat} {tc:TT} {fc:FT} {ta:TA} {fa:FA} {R:List D->Option Rx} {gg:List D->Option Rz} (hi:Fb K caps wi fi) (hg:DG K g fg tg) (ht:∀j∈tg,j<k) (hc:oU K tc fc) (ha:oq K ta fa)
  {st:En} {σ:L2.St} {H:Hp} {O Z:AS} {Q:VK} (E0:ER K st σ H O Z) {v:Rx} (h:jy k caps fi fg fc R gg fa st=some v) (q:∀H1 O1,Ext O H O1 H1->Flies K E H1 v):qv k caps wi g tc (Jy (rm K R gg) ta) E σ H Q:=by
 have E:=E0;refine cx h fun items st1 e1 h=>?_;by_cases hok:(gO caps st1.length&&decide (items.length<=1000000))=true
 rotate_left
 ·simp only[Ag hok]at h;cases h
 simp only[Ad hok]at h;have hok1:caps.Nodup/\(∀i∈caps,i<st1.length)/\items.length<=1000000:=by
  rw[We,decide_eq_true_eq]at hok;unfold gO at hok;rw[We,decide_eq_true_eq,Xg]at hok;exact⟨hok.1.1,fun i hi=>Ap (hok.1.2 i hi),hok.2⟩
 obtain⟨nd,lt,hfew⟩:=hok1;refine hi st σ H O Z _ E items st1 e1 fun J H1 O1 x1 k1 E1 it=>?_;have bl:(ia k caps σ).length=k+caps.length:=by simp[ia]
 have el:(fE k caps st1).length=k+caps.length:=by simp[fE]
 refine⟨items.length,fun i xs H'=>∃sb Oi ds,Ext (Ob caps st1 σ) H1 Oi H'/\ER K sb (ia k caps σ) H' Oi (Zb caps st1 σ O1 Z)/\El K (U Oi (Zb caps st1 σ O1 Z)) H' xs ds/\yX fg fc R gg fa k (items.drop i) sb=some v/\Kp (fE k caps st1) sb/\xs.length<=i,
  ⟨fE k caps st1,Ob caps st1 σ,[],Ext.refl _ _,x8 E1 nd,El.nil,h,Kp.refl _,Wa _⟩,?_,?_⟩
 ·rintro xs H' ⟨sb,Oi,ds,x2,B,exs,e3,kb,_⟩;rw[Vl (Wa _)]at e3;cases e3
 ·rintro i xs H' hlt ⟨sb,Oi,ds,x2,B,exs,e3,kb,hxl⟩;have hd:items.drop i=items[i]::items.drop (i+1):=Yk hlt;rw[hd]at e3;refine bx e3 fun s1 e4 e3=>?_;refine cx e3 fun c s2 e5 e3=>?_;obtain⟨_,go⟩:=it H' Oi x2 (uT E1 nd lt (kb.len.trans el) x2 B).liv;obtain⟨g1,g2⟩:=go i _ (Zc hlt);refine⟨g1,Xn hxl (Va hlt (lL hfew)),fun x H'' hy=>?_⟩;obtain⟨sm,da⟩:=g2 x H'' hy;have xm:Ext Oi H' Oi H'':=Same.ext sm;have da':DA K (U Oi (Zb caps st1 σ O1 Z)) H'' x items[i]:=da.less fun b z=>by
   rcases z with z|z|z
   ·exact .inl (.inl z)
   ·exact .inr z
   ·exact .inl (.inr z)
  refine hg sb _ H'' Oi _ x _ _ (B.same sm) da' s1 e4 fun τ kt kq3 E4=>?_;have sl:sb.length=k+caps.length:=kb.len.trans el;have tl:τ.length=(ia k caps σ).length:=by rw[← E4.len,kq3.len,sl,bl]
  have tk:∀j,k<=j->(ia k caps σ)[j]?=τ[j]?:=fun j hj=>((kt j fun z=>absurd (ht j z) (by lia)).1).symm
  have drop:τ.drop k=(ia k caps σ).drop k:=by
   refine Bo fun j=>?_;rw[Qe,Qe];exact(tk _ (by lia)).symm
  have kp1:Kp (fE k caps st1) s1:=by
   refine⟨kq3.len.trans kb.len,fun j s e g=>?_,fun j d e=>?_⟩
   ·by_cases hj:j<k
    ·have:=ix j s e hj;subst this;exact absurd rfl g
    ·obtain⟨s',e',g'⟩:=kb.has j s e g;exact⟨s',by rw[(kt j fun z=>absurd (ht j z) (by lia)).2];exact e',g'⟩
   ·by_cases hj:j<k
    ·have:=ix j _ e hj;cases this
    ·obtain⟨d',e'⟩:=kb.io j d e;exact⟨d',by rw[(kt j fun z=>absurd (ht j z) (by lia)).2];exact e'⟩
  refine hc s1 τ H'' Oi _ _ E4 c s2 e5 fun H3 O3 x3 k3 E5=>?_;have kp2:=kp1.trans k3;cases c with
  | false =>
   simp only[Ve,if_false]at e3 ⊢;have hs2:k<=s2.length:=by rw[kp2.len,el];lia
   exact⟨drop,kR k s2,O3,ds,(x2.trans xm).trans x3,qb E5 tl.symm hs2 tk,exs.ext (xm.trans x3),e3,qd ix kp2 hs2,by lia⟩
  | true =>
   rw[Ad rfl]at e3 ⊢;refine cx e3 fun rs s3 e6 e3=>?_;refine cx e3 fun es s4 e7 e3=>?_;dsimp only at e3;cases w:R es with
   | some v' =>
    rw[w]at e3;cases e3;refine ha s2 τ H3 O3 _ _ E5 rs s3 e6 fun vs H4 O4 x4 k4 E6 rvs=>?_;obtain⟨O5,x5,k5,E7,el'⟩:=rvs.esc E6 e7;exact .inr ⟨_,es,v,el',E7.liv,w,Ig (q H4 _ (x1.trans (qc E1 ((((x2.trans xm).trans x3).trans x4).trans x5))))⟩
   | none =>
    rw[w]at e3;refine cx e3 fun ry s5 e8 e3=>?_;refine cx e3 fun dy s6 e9 e3=>?_;refine iD (R:=R) (E':=fun _ u _ H2=>∃a,u=.ref a/\wK _ a H2) ha s2 τ H3 O3 _ _ E5 ry s5 e8 fun y H4 O4 x4 k4 E6 rv w=>?_;obtain⟨O5,x5,k5,E7,day⟩:=rv.esc E6 e9;have kp3:=(kp2.trans k4).trans k5;have hs4:k<=s6.length:=by rw[kp3.len,el];lia
    exact⟨drop,kR k s6,O5,ds++[dy],(((x2.trans xm).trans x3).trans x4).trans x5,qb E7 tl.symm hs4 tk,(exs.ext (((xm.trans x3).trans x4).trans x5)).app (El.one day),e3,qd ix kp3 hs4,by simp;lia⟩
theorem Cv {k:Nat} {caps:List Nat} {wi:TI} {fi:FI} {g:TG} {fg:FG} {tg:List Nat} {tc:TT} {fc:FT} {ta:TA} {fa:FA} {R:List D->Option Rx} {gg:List D->Option Rz} {kk:Ends->L2.St->VK} {kF:FE->FS} (hk:∀te fe,cT K te fe->lM K (Ja kk te) (kF fe)) (hi:RdI K wi fi) (hg:DG K g fg tg) (ht:∀j∈tg,j<k) (hc:oU K tc fc) (ha:oq K ta fa) :
  pp K E (Ja kk (qv k caps wi g tc (Jy (rm K R gg) ta) E)) (kl k caps fi fg fc R gg fa kF):=by
 intro st σ H O Z D E0 r h q;unfold kl at h;cases w:jy k caps fi fg fc R gg fa st with
 | some v =>
  rw[w]at h;cases h;exact yY hi.ic hg ht hc ha E0 w q
 | none =>
  rw[w]at h;refine bx h fun o e3 h=>?_;cases h;exact hk _ _ (rN hi.ic hg ht hc (iD (R:=R) (E':=fun _ u _ H2=>∃a,u=.ref a/\wK _ a H2) ha)) st σ H O Z D E0 o e3 q
end
end VX
namespace VX
open PySem PySem.Spec PySem.W PyProof.Rows L2 VF
structure CalJ0 (P:Program) (w:World) (K:Frag) (mg:Str->Option Value) (base:Heap) (C f:Addr) (k:Nat):Prop where
 ex:∃fd ps,FnOk P w K mg base mD k f fd ps (FQ C)/\L2.Binds K fd ps []
structure Xb (K:Frag) (mg:Str->Option Value) (x sx:Str) (C S f:Addr):Prop where
 xc:XC K C S f xN "ValueError.__init__" "object.__setattr__" "object" "ValueError" mVE
 xh:XH K C "ValueError"
 aC:nsIn K mainGlobals x=some (some (.ref C))
 mC:mg x=some (.ref C)
 mS:mg sx=some (.ref S)
 hx:exmOne K (.ref C) (.ref S)=some true
def D4 (C:Addr):TS:=uw (yL C (dM (mV 0) kN))
section
variable {P:Program} {w:World} {K:Frag} {mg:Str->Option Value} {base h:Heap} {N:List Str} {qual:Str} {scope:Scope} {g:Addr} {cd:Value} {A:Around} {outer:List Env} {s0:Shared} {H0:Hp} {E:XK} {C S f:Addr} {x n sx:Str}
theorem t5 {k k':Nat} {p cp pos:Pos} (Y:Xb K mg x sx C S f) (i:CalJ0 P w K mg base C f k) (hr:Room k' (A.deeper (envOfC qual scope s0.heap.objs.size g cd))) (hg:Gl (bw (fR P w) P w K mg base N qual scope g cd A outer s0 H0 E) x) (hk:k+1<=k':=by decide) (hdb:(x == ("__debug__":Str))=false:=by decide) :
  PS (bw (fR P w) P w K mg base N qual scope g cd A outer s0 H0 E) (.Raise (some (.Call (.Name x p) [] [] cp)) none pos) (Js C E):=by
 obtain⟨fd,ps,F,hb⟩:=i.ex;exact wI Y.xc sv F (hr.mono hk) hb hg Y.mC hdb
theorem yZ {x qual:Str} {st:Stmt} {N ps:List Str} {k:Nat} {fd:FuncData} (F:Fun K x qual st f fd) (S:FnScope N ps (ak st)) (h2:ps.length=1)
  (hB:∀{cdv:Value} {A:Around} {outer:List Env} {s:Shared} {H:Hp} {E:XK},Room k (A.deeper (envOfC qual (ak st) s.heap.objs.size f cdv))->PSs (bw mD P w K mg base N qual (ak st) f cdv A outer s H E).nox (cz st) (D4 C)):FnOk P w K mg base mD (k+1) f fd ps (FQ C):=by
 refine F.ok S (fun vs H Q E h=>?_) fun cdv A outer s H vs Q E hr h=>⟨_,hB hr,?_⟩
 ·obtain⟨e,rfl,_⟩:=h;exact h2.symm
 ·obtain⟨e,rfl,he,q⟩:=h;exact⟨.ref e,rfl,e,[],rfl,A3 rfl,he,q⟩
theorem Ih (X:K.In h) (G:h.Ns mainGlobals mg) (xc:XC K C S f xN "ValueError.__init__" "object.__setattr__" "object" "ValueError" mVE) (aC:nsIn K mainGlobals x=some (some (.ref C))) (aS:nsIn K mainGlobals sx=some (some (.ref S)))
  (ga:findIn K (.ref C) "__getattribute__"=some (some (.builtin "BaseException.__getattribute__"))) (gt:findIn K (.ref C) "__getattr__"=some none) (hd:hasDictIn K C=true) (ca:findIn K (.ref C) "__class__"=some (some (.builtin "object.__class__")))
  (cn:specialIn K (.builtin "object.__class__") "__get__"=some (some (.builtin "getset_descriptor.__get__"))) (ck:takesIn K (.builtin "object.__class__")=some true) (cm:mroIn K C (.type "object")=some true) (hx:exmOne K (.ref C) (.ref S)=some true):Xb K mg x sx C S f :=
 ⟨xc,⟨PySem.F.attr_ValueError,ga,gt,hd,ca,cn,ck,cm⟩,aC,mg_of X G aC,mg_of X G aS,hx⟩
end
def sw (K:Frag) (C:Addr):List V->Hp->VK->Prop:=fun vs H Q=>∃a dx T b n,vs=[.ref a,.ty n]/\H a=some (.ext (yφ C a dx T))/\Dx H dx/\kitOne K (.ref C) (.type n)=some b/\Q (.bl b) H
theorem px {X:Cx} {K:Frag} {C T f:Addr} {id ii sa ow B:String} {mB:List Value} (h:X.K=K) (xc:XC K C T f id ii sa ow B mB) (hbe:mB.contains (.type "BaseException")=true) (xh:XH K C B):CallR X (.builtin "isinstance") (sw K C):=by
 intro pins s σ H vs us Q I r q;subst h;obtain⟨a,dx,T',b,n,rfl,ea,ex,hc,q⟩:=q;obtain⟨o,od,J⟩:=DZ I ea ex;cases r with
 | cons r1 r2 =>
  cases r2 with
  | cons r2 r3 =>
   cases r3;cases (show _=Value.ref a from r1);cases (show _=Value.type n from r2);refine bu ?_;exact kia_one (tX xc hbe xh) I.kIn J hc nofun fun tk hle=>⟨.bl b,H,I.tok tk (I.tkl' hle),rfl,q⟩
theorem F7 {K:Frag} {te:TE} {fe:FE} {tab:List (Str×Bool)} {n:String} {r:List V->Hp->VK->Prop} (hr:∀c b,tab.lookup c=some b->∀C,nsIn K mainGlobals c=some (some (.ref C))->kitOne K (.ref C) (.type n)=some b/\∀vs H Q,sw K C vs H Q->r vs H Q) (h:cT K te fe):cT K (z9 r (dM te (dM (tC (.ty n)) kN))) (le tab fe):=by
 intro st σ H O Z Q E r st' e q;refine cx e fun r1 st1 e1 e=>h st σ H O Z _ E r1 st1 e1 fun v H1 O1 x1 k1 E1 rv fs=>?_;dsimp only at e;split at e
 ·rename_i c' n' y' e2
  refine bx e fun b e3 e=>?_;cases e;obtain⟨a,rfl,C',dx,T,h1,h2,h3,h4,h5,h6⟩:=rv.ba E1 e2;obtain⟨hk,hv⟩:=hr _ _ e3 C' h1;exact hv _ _ _ ⟨a,dx,T,b,n,rfl,h4,D1 h5,hk,q _ H1 O1 x1 k1 E1 (.bl b) trivial⟩
 ·cases e
end VX
namespace VF22
open PySem PySem.Spec PyProof.Rows L2 VF
section
variable {X:Cx} {K:PySem.W.Frag}
def mo {α:Type} (xs:List α) (k:Nat) (y:α):List α:=xs.take k++y::xs.drop k
def vw:V->List V->Hp->VK->Prop:=fun x vs H Q=>∃l xs i y,x=.ref l/\vs=[.int i,y]/\H l=some (.lst xs)/\0<=i/\i<=(xs.length:Int)/\xs.length<1000000/\Q .non (upd H l (.lst (mo xs i.toNat y)))
theorem wM:GX X "list.insert" vw:=by
 intro pins s σ H x vs v us Q I rx rv h;obtain⟨l,xs,i,y,rfl,rfl,hH,h0,h1,h2,q⟩:=h;cases rx;obtain⟨z,its,n,r,hl,e⟩:=I.lstM hH;cases rv with
 | cons r1 r2 =>
  cases r2 with
  | cons r2 r3 =>
   cases r3;obtain⟨t,rfl⟩:=r1
   rename_i uy
   have big:(1000000:Nat)<=sizeLine:=by rw[AF];decide
   refine AA F.slot_list_insert ⟨_,e,rfl⟩ F.entry_list_insert (F.args_list_insert_3 _ _ _)
    (PySem.AutoSeq1.list_insert_list_int_val_1 l its.toArray n i t uy (by have:=fitsIndex_both (k:=i) (by lia) (by lia);simpa using this) (by rw[Vb];lia)) ⟨e,?_⟩
   refine⟨.non,_,I.lset (its':=mo its i.toNat uy) (ys:=mo xs i.toNat y) hH e ?_ ?_ ?_,rfl,q⟩
   ·have hk:(if i<0 then(i+((its.toArray.size:Nat):Int)).toNat else min i.toNat its.toArray.size)=i.toNat:=by rw[Ag (by lia),Vb];lia
    show(Array.push (its.toArray.extract 0 (if i<0 then(i+((its.toArray.size:Nat):Int)).toNat else min i.toNat its.toArray.size)) uy++its.toArray.extract (if i<0 then(i+((its.toArray.size:Nat):Int)).toNat else min i.toNat its.toArray.size))=_;rw[hk];apply Array.ext';simp[mo];exact Ql (by rw[Xj];exact Wa _)
   ·exact(r.take _).append (.cons r2 (r.drop _))
   ·unfold mo;rw[Xa,Yc,Vm,Xj];lia
def mI:D->List D->Option (D×D)
 | .lst xs,[.int i,y]=>if 0<=i/\i<=(xs.length:Int)/\xs.length<1000000 then some (.non,.lst (mo xs i.toNat y)) else none
 | _,_=>none
theorem wN:RdM K "list" vw mH mI:=⟨fun Y H p x h e=>IY h e,fun Y H p x vs ds y x' Q hp ho el e q=>by
 cases x with
 | lst xs =>
  cases ds with
  | nil=>cases e
  | cons d ds =>
   cases d with
   | int i =>
    cases ds with
    | nil=>cases e
    | cons d2 ds =>
     cases ds with
     | cons _ _=>cases e
     | nil =>
      obtain⟨c,e⟩:=aK e;cases e;obtain⟨ws,h1,h2⟩:=ho;obtain⟨v,r,rfl,da,el⟩:=el.uncons;obtain⟨v2,r,rfl,da2,el⟩:=el.uncons;obtain rfl:=el.unnil;obtain rfl:=(show v=V.int i from da.ba);exact⟨p,ws,i,v2,rfl,rfl,h1,c.1,by rw[h2.1];exact c.2.1,by rw[h2.1];exact c.2.2,q .non _ .non ⟨_,aq,((h2.take i.toNat).app (El.cons da2 (h2.drop i.toNat))).upd hp⟩⟩
   | _=>cases ds<;>cases e
 | _=>cases e⟩
def Ii (k x k2 x2:Str):FE:=fun st=>if k=k2 then none else some (.f (.dk [(.inr k,.str x),(.inr k2,.str x2)]),st)
theorem sy (k x k2 x2:Str):cT K (Dw [(tC (.str k),tC (.str x)),(tC (.str k2),tC (.str x2))]) (Ii k x k2 x2):=by
 intro st σ H O Z Q E r st' h q;unfold Ii at h;by_cases c:k=k2
 ·rw[Ad c]at h;cases h
 rw[Ag c]at h;cases h;intro p hp;refine⟨aq,[(.inr k,.str x),(.inr k2,.str x2)],rfl,by show 2<=15;decide,?_⟩
 have e:upd (upd H p (.dK [])) p (.dK (kO [] [((.inr k:Key),V.str x),(.inr k2,.str x2)]))=upd H p (.dK [(.inr k,.str x),(.inr k2,.str x2)]):=by
  rw[zX];congr 2;show putK (putK [] (Sum.inr k:Key) (V.str x)) (Sum.inr k2) (V.str x2)=_;have n:¬ (Sum.inr k:Key)=Sum.inr k2:=fun z=>c (Sum.inr.inj z);simp[putK,n]
 rw[e]
 have hres:RES K (U O Z) H (upd H p (.dK [(.inr k,.str x),(.inr k2,.str x2)])) (.ref p) (.dk [(.inr k,.str x),(.inr k2,.str x2)],true):=⟨p,rfl,hp,_,aq,rfl,fun i v d a b=>by
  cases i with
  | zero=>cases a;cases b;exact .str _
  | succ i =>
   cases i with
   | zero=>cases a;cases b;exact .str _
   | succ i=>simp at a⟩
 obtain⟨E3,rv⟩:=hres.rv E (be hp _);exact q _ _ O (Same.ext (be hp _)) (Kp.refl _) E3 rv fun p' e=>by cases e;exact hp
end
end VF22
namespace VX
open PySem PySem.Spec PySem.W PyProof.Rows L2 VF
section
variable {K:Frag} {E:XK}
theorem Cw {i:Nat} {r:List V->Hp->VK->Prop} {b:List D->Option Rz} {k:Nat} {caps:List Nat} {wi:TI} {fi:FI} {g:TG} {fg:FG} {tg:List Nat} {tc:TT} {fc:FT} {ta:TA} {fa:FA} {R:List D->Option Rx} {gg:List D->Option Rz} (hb:RdCB K r b) (hi:RdI K wi fi) (hg:DG K g fg tg) (ht:∀j∈tg,j<k) (hc:oU K tc fc) (ha:oq K ta fa) :
  pp K E (v4 (z9 r (dM (qv k caps wi g tc (Jy (rm K R gg) ta) E) kN)) (jR i)) (kl k caps fi fg fc R gg fa fun fe=>aY (d6 b (ab fe aj)) i) :=
 Cv (kk:=fun D σ x H1=>kN σ H1 fun vs H2=>r (x::vs) H2 fun y H3=>jR i y σ H3 D.nx) (fun _ _ h=>aG (bv hb (aa h ae))) hi hg ht hc ha
theorem lj {C1 C2:Addr} {c1 c2:Str} {b1 b2:Bool} {cv:Addr} (a1:nsIn K mainGlobals c1=some (some (.ref C1))) (a2:nsIn K mainGlobals c2=some (some (.ref C2))) (k1:kitOne K (.ref C1) (.ref cv)=some b1) (k2:kitOne K (.ref C2) (.ref cv)=some b2) :
  ∀c b,[(c1,b1),(c2,b2)].lookup c=some b->∀C,nsIn K mainGlobals c=some (some (.ref C))->kitOne K (.ref C) (.ref cv)=some b/\∀vs H Q,sh K C vs H Q->(sh K C1 vs H Q∨sh K C2 vs H Q):=fun c b e C h=>by
 by_cases e1:c=c1
 ·subst e1;rw[a1]at h;cases h;rw[Yi]at e;cases e;exact⟨k1,fun _ _ _=>.inl⟩
 ·rw[Vk,show(c == c1)=false by simpa using e1]at e
  by_cases e2:c=c2
  ·subst e2;rw[a2]at h;cases h;rw[Yi]at e;cases e;exact⟨k2,fun _ _ _=>.inr⟩
  ·rw[Vk,show(c == c2)=false by simpa using e2]at e
   cases e
theorem Cy {C1 C2:Addr} {c1 c2:Str} {b1 b2:Bool} {n:String} (a1:nsIn K mainGlobals c1=some (some (.ref C1))) (a2:nsIn K mainGlobals c2=some (some (.ref C2))) (k1:kitOne K (.ref C1) (.type n)=some b1) (k2:kitOne K (.ref C2) (.type n)=some b2) :
  ∀c b,[(c1,b1),(c2,b2)].lookup c=some b->∀C,nsIn K mainGlobals c=some (some (.ref C))->kitOne K (.ref C) (.type n)=some b/\∀vs H Q,sw K C vs H Q->(sw K C1 vs H Q∨sw K C2 vs H Q):=fun c b e C h=>by
 by_cases e1:c=c1
 ·subst e1;rw[a1]at h;cases h;rw[Yi]at e;cases e;exact⟨k1,fun _ _ _=>.inl⟩
 ·rw[Vk,show(c == c1)=false by simpa using e1]at e
  by_cases e2:c=c2
  ·subst e2;rw[a2]at h;cases h;rw[Yi]at e;cases e;exact⟨k2,fun _ _ _=>.inr⟩
  ·rw[Vk,show(c == c2)=false by simpa using e2]at e
   cases e
theorem Cz:bootBuiltins "ValueError"=some (.type "ValueError"):=by decide +kernel
end
end VX
namespace VX
open PySem L2 VF
section
variable {F G:FY} {P:FS} {f:FT} {st s s1 s2:En} {a:Option Oy} {v:Rx} {o:Ot} {R:List D->Option Rx} {g:List D->Option Rz} {fa:FA} {rs:List Rs} {ds:List D}
theorem iE (h:P st=some o):qr P st=some (.o o):=by simp only[qr,h,Za]
theorem bt (h:F st=some (.o (.nx s))) (h2:G s=a):gA F G st=a:=by simp only[gA,h,Za];exact h2
theorem eJ (h:F st=some (.x v)):gA F G st=some (.x v):=by simp only[gA,h,Za]
theorem CA {r:Rs} (h:F st=some (.o (.rt r s))):gA F G st=some (.o (.rt r s)):=by simp only[gA,h,Za]
theorem lR (h:f st=some (true,s)) (h2:F s=a):yP f F G st=a:=by simp only[yP,h,Za,if_true];exact h2
theorem nF (h:f st=some (false,s)) (h2:G s=a):yP f F G st=a:=by
 simp only[yP,h,Za];exact h2
theorem dX {n m:Nat} (hm:ds.length=m) (h:F (gk n ds)=some (.x v)):eS F n m ds=some v:=by
 simp only[eS,Ad hm,h,Za]
theorem gR {n m:Nat} (h:F (gk n ds)=some (.o o)):eS F n m ds=none:=by
 unfold eS;split
 ·rw[h];rfl
 ·rfl
theorem wO {c n:Str} {fe:FE} {r:Rs} {d:D} {y:Option Str} (h1:fe st=some (r,s)) (h2:cont s r=some d) (h3:Jw d=some y):qt c n fe st=some (.x (c,n,y)):=by simp only[qt,h1,h2,h3,Za]
theorem nG (h:F st=some (.o o)):xa F st=some o:=by simp only[xa,h,Za]
theorem vx (h1:fa st=some (rs,s1)) (h2:bK rs s1=some (ds,s2)) (h3:R ds=none) (h4:cJ (bV g fa) st=some o):nC R g fa st=some (.o o):=by
 simp only[nC,h1,h2,h3,h4,Za]
theorem vy (h1:fa st=some (rs,s1)) (h2:bK rs s1=some (ds,s2)) (h3:R ds=some v):nC R g fa st=some (.x v):=by
 simp only[nC,h1,h2,h3,Za]
theorem km {k:FE->FS} (h1:fa st=some (rs,s1)) (h2:bK rs s1=some (ds,s2)) (h3:R ds=none) (h4:k (bV g fa) st=some o):hY R g fa k st=some (.o o):=by
 simp only[hY,h1,h2,h3,h4,Za]
theorem mJ {k:FE->FS} (h1:fa st=some (rs,s1)) (h2:bK rs s1=some (ds,s2)) (h3:R ds=some v):hY R g fa k st=some (.x v):=by
 simp only[hY,h1,h2,h3,Za]
theorem CB {fi:FI} {fg:FG} {B:FY} (h1:fi st=some (ds,s1)) (h2:kj fg B ds s1=a):Ct fi fg B st=a:=by
 simp only[Ct,h1,Za];exact h2
theorem CC {k:Nat} {caps:List Nat} {fi:FI} {fg:FG} {fc:FT} {kF:FE->FS} (h1:jy k caps fi fg fc R g fa st=none) (h2:kF (eQ k caps fi fg fc (bV g fa)) st=some o):kl k caps fi fg fc R g fa kF st=some (.o o):=by
 simp only[kl,h1,h2,Za]
theorem CD {k:Nat} {caps:List Nat} {fi:FI} {fg:FG} {fc:FT} {kF:FE->FS} (h1:jy k caps fi fg fc R g fa st=some v):kl k caps fi fg fc R g fa kF st=some (.x v):=by
 simp only[kl,h1]
theorem pA {k:Nat} {caps:List Nat} {fi:FI} {fg:FG} {fc:FT} {z:Option Rx} (h1:fi st=some (ds,s1)) (h2:(gO caps s1.length&&decide (ds.length<=1000000))=true) (h3:yX fg fc R g fa k ds (fE k caps s1)=z):jy k caps fi fg fc R g fa st=z:=by
 simp only[jy,h1,Za,Ad h2];exact h3
theorem F8 {i:Nat} {cs:List Str} {Fh:FS} (h1:fa st=some (rs,s1)) (h2:bK rs s1=some (ds,s2)) (h3:R ds=none) (h4:cJ (bV g fa) st=some o):pr R g fa i cs Fh st=some o:=by
 simp only[pr,h1,h2,h3,h4,Za]
theorem y0 {i:Nat} {cs:List Str} {Fh:FS} {s3:En} {d:D} (h1:fa st=some (rs,s1)) (h2:bK rs s1=some (ds,s2)) (h3:R ds=some v) (h4:s2[i]?=some .e) (h5:v.1∈cs) (h6:Fh (s2.set i (.v (.xc v.1 v.2.1 v.2.2)))=some (.nx s3)) (h7:s3[i]?=some (.v d)):pr R g fa i cs Fh st=some (.nx (s3.set i .e)):=by
 simp only[pr,h1,h2,h3,h4,Ad h5,h6,h7,Za]
theorem y1 {tab:List (Str×Bool)} {fe:FE} {r:Rs} {c n:Str} {y:Option Str} {b:Bool} (h1:fe st=some (r,s)) (h2:cont s r=some (.xc c n y)) (h3:tab.lookup c=some b):le tab fe st=some (.d (.bl b),s):=by
 simp only[le,h1,h2,h3,Za]
theorem F9 {c n:Str} {fe:FE} {r:Rs} {y:Str} (h1:fe st=some (r,s)) (h2:cont s r=some (.xc c n (some y))) (hn:n≠""):Cr n c fe st=some (.d (.str y),s):=by
 simp only[Cr,h1,h2,Za];simp[hn]
theorem y2 {α:Type} {fg:FG} {k:Nat} (f h:α->D) (sb:En):∀(xs:List α) (r:List D),(∀x∈xs,∃s1 s2 rs s3 ds s4 z s5 s6,fg (f x) sb=some s1/\fD s1=some (true,s2)/\fa s2=some (rs,s3)/\bK rs s3=some (ds,s4)/\R ds=none/\bV g fa s2=some (z,s5)/\esc z s5=some (h x,s6)/\kR k s6=sb)->yX fg fD R g fa k (xs.map f++r) sb=yX fg fD R g fa k r sb
 | [],r,_=>rfl
 | x::xs,r,H=>by
  obtain⟨s1,s2,rs,s3,ds,s4,z,s5,s6,e1,e2,e3,e4,e5,e6,e7,e8⟩:=H x (Qa ..);have ih:=y2 f h sb xs r fun y hy=>H y (Yb _ hy);rw[Qc,Wj];simp only[yX,e1,e2,e3,e4,e5,e6,e7,e8,Za,if_true];exact ih
theorem Ij {fg:FG} {k:Nat} {x:D} {r:List D} {sb s1 s2 s3 s4:En} (e1:fg x sb=some s1) (e2:fD s1=some (true,s2)) (e3:fa s2=some (rs,s3)) (e4:bK rs s3=some (ds,s4)) (e5:R ds=some v):yX fg fD R g fa k (x::r) sb=some v:=by
 simp only[yX,e1,e2,e3,e4,e5,Za,if_true]
end
end VX
namespace VT
open PySem PySem.Spec PyProof.Rows L2 VF
section
variable {X:Cx} {o:Expr} {to:TE} {y z:Str} {k1 k2:Nat} {p1 p2 apos cpos:Pos}
def D5 (y z:Str) (to:TE):TE:=fun σ H Q=>to σ H fun x H1=>∃a:Str,x=.str a/\a.length<=1048576/\z.length<=14/\Q (.str (Txt.replace a y z)) H1
theorem pe_repl (hyz:(y == z)=false) (ho:PE X o to) (hbase:attributeBase o "replace" X.env (eval o X.env)=eval o X.env:=by rfl)
  (hfew:((backTo cpos (starEach [.Constant (.str y) k1 p1,.Constant (.str z) k2 p2] X.env)).all (fun x=>!x.1)&&(backToKw cpos (keywordEach [] X.env)).all (fun x=>x.1.isSome)
   && decide (([.Constant (.str y) k1 p1,.Constant (.str z) k2 p2]:List Expr).length+([]:List Keyword).length+(if ([]:List Keyword).isEmpty then 0 else 1)<30))=true:=by rfl)
  (hline:(apos.endLine == cpos.line)=true:=by rfl) (hplain:(backTo cpos (starEach [.Constant (.str z) k2 p2] X.env)).any (·.1)=false:=by rfl) :
  PE X (.Call (.Attribute o "replace" apos) [.Constant (.str y) k1 p1,.Constant (.str z) k2 p2] [] cpos) (D5 y z to):=by
 intro pins s σ H Q I h;refine A1 hbase hfew hline rfl (b7 (ho pins s σ H _ I h) fun v s1 zz9=>?_);obtain⟨x,H1,I1,r1,a,rfl,ha,hz,q⟩:=zz9;obtain⟨t,rfl⟩:=r1;refine⟨"str","str.replace",PySem.F.plainAttrs_str,PySem.F.slot_str_replace,PySem.F.type_str_replace,AJ _ _ _,(fun _ e=>nomatch e),?_⟩;refine AH (by show(false||(backTo cpos (starEach [.Constant (.str z) k2 p2] X.env)).any (·.1))=false;rw[hplain];rfl) (AO ?_)
 refine AC (AD (k:=k1) (pos:=p1) (AC (AD (k:=k2) (pos:=p2) (Bp ?_))));exact bu (SC.replaceW (Qj I1.tk) (Nat.succ_ne_zero _) (Zf (AZ _)) hyz ha hz fun t' k hle=>⟨.str _,H1,I1.tok k (Va I1.tk (Qb (Qm _ 2) hle)),⟨t',rfl⟩,q⟩)
end
end VT
namespace VT
open PySem PySem.Spec PyProof.Rows L2 VF
section
variable {X:Cx} {pins:List (Addr×Obj)} {σ:L2.St} {H:Hp} {s:Shared}
theorem qw {x:Str} {u:Value} {mm:Str->Option Value} {pos:Pos} {Q:Value->Shared->Prop} {E:Value->Shared->Prop} (I:L2.Inv X pins σ H s) {s':Shared} (hn:s'.heap.Ns X.env.locals mm) (l:Look X.env s'.heap mm x u)
  (q:Q u s') (hd:(x == ("__debug__":Str))=false:=by decide) (hcd:(x == ("__classdict__":Str))=false:=by decide):wpAny (model X.prog X.w) X.A (eval (.Name x pos) X.env) Q E s':=by
 rcases l with⟨hk,hm⟩|⟨hk,c,hc,hcell⟩
 ·exact A0 (wpAny_loadName_local I.ok.kind hk hn hm q) hd
 ·rcases hk with hk|hk
  ·exact A0 (wpAny_loadName_cell I.ok.kind hk hc hcell q) hd
  ·exact A0 (wpAny_loadName_free I.ok.kind hk hc hcell q hcd) hd
def fmt (s1 s2 c:Str):Str:=Str.empty++s1++c++s2
theorem CF {y m s1 s2 a c:Str} {ta t0:Tok} {m1 m2:Str->Option Value} {p0 p1 p2 p3 pj c1 c2 apos cpos:Pos} {k1 k2:Nat} {Q:Value->Shared->Prop} (I:L2.Inv X pins σ H s) (n1:s.heap.Ns X.env.locals m1) (ly:Look X.env s.heap m1 y (.str a ta)) (n2:s.heap.Ns X.env.locals m2) (lm:Look X.env s.heap m2 m (.str c t0))
  (h0:0<t0) (h1:t0<s.toks) (hcz:(c == fmt s1 s2 c)=false) (ha:a.length<=1048576) (hz:(fmt s1 s2 c).length<=14) (q:∀t' k,s.toks<=k->Q (.str (Txt.replace a c (fmt s1 s2 c)) t') { s with toks:=k })
  (dy:(y == ("__debug__":Str))=false) (dm:(m == ("__debug__":Str))=false) (ey:(y == ("__classdict__":Str))=false) (em:(m == ("__classdict__":Str))=false)
  (hbase:attributeBase (.Name y p0) "replace" X.env (eval (.Name y p0) X.env)=eval (.Name y p0) X.env)
  (hfew:((backTo cpos (starEach [.Name m p1,.JoinedStr [.Constant (.str s1) k1 c1,.FormattedValue (.Name m p2) (-1) none p3,.Constant (.str s2) k2 c2] pj] X.env)).all (fun x=>!x.1)&&(backToKw cpos (keywordEach [] X.env)).all (fun x=>x.1.isSome)
   && decide (([.Name m p1,.JoinedStr [.Constant (.str s1) k1 c1,.FormattedValue (.Name m p2) (-1) none p3,.Constant (.str s2) k2 c2] pj]:List Expr).length+([]:List Keyword).length+(if ([]:List Keyword).isEmpty then 0 else 1)<30))=true)
  (hline:(apos.endLine == cpos.line)=true) :
  wpAny (model X.prog X.w) X.A (eval (.Call (.Attribute (.Name y p0) "replace" apos) [.Name m p1,.JoinedStr [.Constant (.str s1) k1 c1,.FormattedValue (.Name m p2) (-1) none p3,.Constant (.str s2) k2 c2] pj] [] cpos) X.env) Q X.xe s:=by
 have lz:(fmt s1 s2 c).length<=sizeLine:=Qb hz (by rw[AF];decide)
 have l1:(Str.empty++s1).length<=sizeLine:=by
  refine Qb ?_ lz;unfold fmt;simp only[An];lia
 have l2:(Str.empty++s1++c).length<=sizeLine:=by
  refine Qb ?_ lz;unfold fmt;simp only[An];lia
 have lc:c.length<=sizeLine:=by
  refine Qb ?_ lz;unfold fmt;simp only[An];lia
 have end_:∀v k,s.toks<=v->s.toks<=k->wpAny (model X.prog X.w) X.A (call (.builtin "str.replace") [.str a ta,.str c t0,.str (fmt s1 s2 c) v]) Q X.xe { s with toks:=k }:=fun v k hv hk =>
  bu (SC.replaceW (Qj h0) (Qj (Va I.tk hv)) (Zf (Va h1 hv)) hcz ha hz fun t' k' hle=>q t' k' (Qb hk hle))
 refine A1 hbase hfew hline rfl (qw I n1 ly ?_ dy ey);refine⟨"str","str.replace",PySem.F.plainAttrs_str,PySem.F.slot_str_replace,PySem.F.type_str_replace,AJ _ _ _,(fun _ e=>nomatch e),?_⟩;refine AH rfl (AO ?_);refine AC (qw I n2 lm (AC ?_) dm em);refine wpAny_JoinedStr (pos:=pj) ?_;rw[Bh];refine AD (k:=k1) (pos:=c1) ⟨s1,_,rfl,l1,?_⟩;rw[Bh];have rest:∀(v:Tok) (k:Nat),s.toks<=k->Joins (model X.prog X.w) X.A X.xe (evalEach [.Constant (.str s2) k2 c2] X.env) (Str.empty++s1++c) (fun out s₁=>out.length<=sizeLine/\wpAny (model X.prog X.w) X.A (spliced []) (fun vs s₂=>wpAny (model X.prog X.w) X.A (call (.builtin "str.replace") ([.str a ta]++(Value.str c t0::Value.str out s₁.toks::vs)) []) Q X.xe s₂) X.xe { s₁ with toks:=s₁.toks+1 }) { s with toks:=k }:=fun v k hk=>by
  rw[Bh];refine AD (k:=k2) (pos:=c2) ⟨s2,_,rfl,lz,?_⟩;exact⟨lz,Bp (end_ _ _ (Ym hk) (Ym (Ym hk)))⟩
 refine wpAny_FormattedValue_plain (qw (s':={ s with toks:=s.toks+1 }) I n2 lm ?_ dm em);exact wpAny_formatField_str ⟨c,_,rfl,l2,rest t0 _ (A5 _)⟩ ⟨c,_,rfl,l2,rest t0 _ (Ym (A5 _))⟩ lc
end
end VT
namespace VT
open PySem PySem.Spec PyProof.Rows L2 VF
def cE (s1 s2:Str):List Nat->Str->Str
 | [],a=>a
 | c::cs,a=>cE s1 s2 cs (Txt.replace a ⟨#[c]⟩ (fmt s1 s2 ⟨#[c]⟩))
theorem lS (s1 s2:Str):∀(cs:List Nat) (c:Nat) (a:Str),cE s1 s2 (cs++[c]) a=Txt.replace (cE s1 s2 cs a) ⟨#[c]⟩ (fmt s1 s2 ⟨#[c]⟩)
 | [],_,_=>rfl
 | _::cs,c,a=>lS s1 s2 cs c _
def D6 (im iy:Nat) (s1 s2:Str) (tl:TE):TS:=fun D σ H=>tl σ H fun x H1=>∃z a:Str,x=.str z/\σ[iy]?=some (some (.str a))/\(∀i,i<z.cps.size->(cE s1 s2 (z.cps.toList.take i) a).length<=1048576) /\
 ∀σ':L2.St,σ'.length=σ.length->(∀j,j≠im->j≠iy->σ'[j]?=σ[j]?)->σ'[iy]?=some (some (.str (cE s1 s2 z.cps.toList a)))->D.nx σ' H1
section
variable {X:Cx}
theorem CG {P:Program} {w:World} {A:Around} {E:Value->Shared->Prop} {s:Shared} {n:String} {it:Addr} {x:Str} {t:Tok} {i c:Nat} {tg:Expr} {Q:Option Value->Shared->Prop} (hn:n="str_ascii_iterator"∨n="str_iterator") (hit:s.heap.IsStrIter it n x t i) (hx:x.cps[i]?=some c)
  (hQ:∀h',h'.IsStrIter it n x t (i+1)->Heap.SameBut it s.heap h'->Q (some (.str ⟨#[c]⟩ s.toks)) { s with heap:=h',toks:=s.toks+1 }):wpAny (model P w) A (pyNext (.ref it)) Q E s:=by
 rcases hn with rfl|rfl
 ·exact wpAny_pyNext_ascii_item hit hx hQ
 ·exact wpAny_pyNext_wide_item hit hx hQ
theorem next_end {P:Program} {w:World} {A:Around} {E:Value->Shared->Prop} {s:Shared} {n:String} {it:Addr} {x:Str} {t:Tok} {i:Nat} {Q:Option Value->Shared->Prop} (hn:n="str_ascii_iterator"∨n="str_iterator") (hh:A.handled=none) (hit:s.heap.IsStrIter it n x t i) (hx:x.cps[i]?=none)
  (hQ:∀h',Heap.ExtBut it s.heap h'->Q none { s with heap:=h' }):wpAny (model P w) A (pyNext (.ref it)) Q E s:=by
 rcases hn with rfl|rfl
 ·exact wpAny_pyNext_ascii_end hh hit hx hQ
 ·exact wpAny_pyNext_wide_end hh hit hx hQ
theorem y4 {P:Program} {w:World} {A:Around} {E:Value->Shared->Prop} {s:Shared} {x:Str} {t:Tok} {Q:Value->Shared->Prop}
  (hQ:∀n,(n="str_ascii_iterator"∨n="str_iterator")->Q (.ref s.heap.objs.size) { s with heap:=s.heap.push { cls:=.type n,data:=.fields #[.str x t,.int 0 0] } }):wpAny (model P w) A (pyIter (.str x t)) Q E s:=by
 cases ha:x.cps.all (·<128)
 ·exact wpAny_pyIter_wide ha (hQ _ (.inr rfl))
 ·exact wpAny_pyIter_ascii ha (hQ _ (.inl rfl))
theorem ps_frep {iter : Expr} {tl : TE} {im iy : Nat} {y m s1 s2 : Str} {p0 p1 p2 p3 pj c1 c2 apos cpos pm py pa pos : Pos} {k1 k2 : Nat} (hp : PassesOwn (model X.prog X.w) X.A X.env X.xe) (hc : X.calm = true) (hi : PE X iter tl)
    (hN : X.N.Nodup) (im_ : X.N[im]? = some m) (iy_ : X.N[iy]? = some y) (lm : Loc X.env.scope m) (ly : Loc X.env.scope y) (hmy : im ≠ iy)
    (hcz : ∀ c : Nat, ((⟨#[c]⟩ : Str) == fmt s1 s2 ⟨#[c]⟩) = false) (hz : ∀ c : Nat, (fmt s1 s2 ⟨#[c]⟩).length ≤ 14)
    (dy : (y == ("__debug__" : Str)) = false := by decide) (dm : (m == ("__debug__" : Str)) = false := by decide) (ey : (y == ("__classdict__" : Str)) = false := by decide) (em : (m == ("__classdict__" : Str)) = false := by decide)
    (hbase : attributeBase (.Name y p0) "replace" X.env (eval (.Name y p0) X.env) = eval (.Name y p0) X.env := by rfl)
    (hfew : ((backTo cpos (starEach [.Name m p1, .JoinedStr [.Constant (.str s1) k1 c1, .FormattedValue (.Name m p2) (-1) none p3, .Constant (.str s2) k2 c2] pj] X.env)).all (fun x => !x.1) && (backToKw cpos (keywordEach [] X.env)).all (fun x => x.1.isSome)
      && decide (([.Name m p1, .JoinedStr [.Constant (.str s1) k1 c1, .FormattedValue (.Name m p2) (-1) none p3, .Constant (.str s2) k2 c2] pj] : List Expr).length + ([] : List Keyword).length + (if ([] : List Keyword).isEmpty then 0 else 1) < 30)) = true := by rfl)
    (hline : (apos.endLine == cpos.line) = true := by rfl)
    (hsw : swapsWith (.Call (.Attribute (.Name y p0) "replace" apos) [.Name m p1, .JoinedStr [.Constant (.str s1) k1 c1, .FormattedValue (.Name m p2) (-1) none p3, .Constant (.str s2) k2 c2] pj] [] cpos) (some (.Name y py)) pa.line X.env = pure false := by rfl)
    (fm : X.fn m = true ∨ X.env.scope.names.lookup m = some .local := by first | exact .inl rfl | exact .inr rfl | assumption) (fy : X.fn y = true ∨ X.env.scope.names.lookup y = some .local := by first | exact .inl rfl | exact .inr rfl | assumption)
    (hs : ∀ x, foldedSetIterable iter X.env x = pure x := by intro _; rfl) :
    PS X (.For (.Name m pm) iter [.Assign [.Name y py] (.Call (.Attribute (.Name y p0) "replace" apos) [.Name m p1, .JoinedStr [.Constant (.str s1) k1 c1, .FormattedValue (.Name m p2) (-1) none p3, .Constant (.str s2) k2 c2] pj] [] cpos) pa] [] pos) (D6 im iy s1 s2 tl) := by
  intro pins s σ H D I h;refine wpAny_For (b7 (hi pins s σ H _ I h) fun v s1' zz9 => ?_) hs;obtain ⟨x, H1, I1, r1, z, a, rfl, ha, hl, q⟩ := zz9;obtain ⟨t, rfl⟩ := r1;refine y4 fun n hn => ?_;have lσ : ∀ {σ' : L2.St}, σ'.length = σ.length → im < σ'.length ∧ iy < σ'.length := fun {σ'} e => by
    rw [e, I.len];exact ⟨(List.getElem?_eq_some_iff.mp im_).1, (List.getElem?_eq_some_iff.mp iy_).1⟩
  have fok := I1.fpOk (b := s1'.heap.objs.size) (Nat.le_refl _) (I1.hok.fresh (Nat.le_refl _));have I2 : Inv X pins σ H1 { s1' with heap := s1'.heap.push { cls := .type n, data := .fields #[.str z t, .int 0 0] } } := I1.kept (t' := s1'.toks) fun b o e => Ab _ e;have st2 : Heap.IsStrIter (Shared.heap { s1' with heap := s1'.heap.push { cls := .type n, data := .fields #[.str z t, .int 0 0] } }) s1'.heap.objs.size n z t 0 := ⟨_, Aj _ rfl, rfl, rfl⟩;revert st2 I2;generalize ({ s1' with heap := s1'.heap.push { cls := .type n, data := .fields #[.str z t, .int 0 0] } } : Shared) = s2';intro I2 st2;generalize s1'.heap.objs.size = it at fok st2 ⊢;obtain ⟨f0, f1, f2, f3, f4, f5⟩ := id fok;refine codeAny_forLoop_any (fun k s' => ∃ i σ', Inv X pins σ' H1 s' ∧ s'.heap.IsStrIter it n z t i ∧ i ≤ z.cps.size ∧ k = z.cps.size - i ∧ σ'.length = σ.length ∧ (∀ j, j ≠ im → j ≠ iy → σ'[j]? = σ[j]?) ∧ σ'[iy]? = some (some (.str (cE s1 s2 (z.cps.toList.take i) a)))) ?_ z.cps.size
    ⟨0, σ, I2, st2, Nat.zero_le _, rfl, rfl, fun _ _ _ => rfl, ha⟩
  rintro k s3 ⟨i, σ3, I3, st3, li, rfl, len3, oth3, y3⟩;by_cases hlt : i < z.cps.size
  · have hx : z.cps[i]? = some z.cps[i] := by simp [hlt]
    generalize hcc : z.cps[i] = c at hx;refine Ao hp (CG (tg := .Name m pm) hn st3 hx fun h' st4 sb => ?_);have I4 : Inv X pins σ3 H1 { s3 with heap := h', toks := s3.toks + 1 } := I3.turned (fun b o hb e => sb.extBut b o hb e) f0 f1 f3 f4 f5;have st4' : Heap.IsStrIter (Shared.heap { s3 with heap := h', toks := s3.toks + 1 }) it n z t (i + 1) := st4;obtain ⟨o, e, oc, od⟩ := id st4;refine Ao hp (oG (s := { s3 with heap := h', toks := s3.toks + 1 }) e oc od (by rcases hn with rfl | rfl <;> decide) ?_)
    have tk4 : s3.toks < Shared.toks { s3 with heap := h', toks := s3.toks + 1 } := AZ _;have t0 : 0 < s3.toks := I3.tk;revert I4 st4' tk4;generalize s3.toks = tc at t0;generalize ({ s3 with heap := h', toks := tc + 1 } : Shared) = s4;intro I4 st4 tk4
    have I4' := I4.pinned (fp := [it]) (fun b hb => by have e : b = it := by simpa using hb
                                                       subst e; exact fok) (fun b hb => by have e : b = it := by simpa using hb
                                                                                           subst e; obtain ⟨o, e, c, d⟩ := st4; exact ⟨o, e, fun v z => by rw [d] at z; cases z⟩)
    refine Ao hp (wpAny_assign_Name (bu (oF I4' hN im_ lm (v := .str ⟨#[c]⟩) ⟨tc, rfl⟩ (fun s5 I5 _ lk up => ?_) fm)));obtain ⟨m2, n2, lk2⟩ := lk;have tk5 : tc < s5.toks := Be tk4 up;obtain ⟨m1, n1, hl1⟩ := id I5.loc;have len5 : (σ3.set im (some (V.str ⟨#[c]⟩))).length = σ.length := by simp [len3]
    obtain ⟨u, ⟨ta, rfl⟩, lk1⟩ := hl1 iy y (.str (cE s1 s2 (z.cps.toList.take i) a)) iy_ (by rw [AM hmy]; exact y3) (ly.elim .inl fun z => .inr (.inl z))
    refine Ao hp (AX (wpAny_Assign_Name (CF I5 n1 lk1 n2 lk2 t0 tk5 (hcz c) (hl i hlt) (hz c) (fun t' k' hk => ?_) dy dm ey em hbase hfew hline) hsw));refine mU (I5.tok k' (Be I5.tk hk)) hN iy_ ly (v := .str (Txt.replace (cE s1 s2 (z.cps.toList.take i) a) ⟨#[c]⟩ (fmt s1 s2 ⟨#[c]⟩))) ⟨t', rfl⟩ (fun s6 I6 => ?_) fy;refine Av ⟨z.cps.size - (i + 1), by lia, i + 1, _, I6.unpinned, ?_, hlt, rfl, by simp [len3], fun j h1 h2 => ?_, ?_⟩
    · obtain ⟨o, e, oc, od⟩ := st4
      exact ⟨o, (I6.pin (it, o) (A4 _ (A4 _ (cY (by simp) e)))).1, oc, od⟩
    · rw [AM (Al h2), AM (Al h1)]
      exact oth3 j h1 h2
    · rw [BO (by simp [(lσ len3).2])]
      have : z.cps.toList.take (i + 1) = z.cps.toList.take i ++ [c] := by
        rw [List.take_succ]; simp [hx]
      rw [this, lS]
  · have e : i = z.cps.size := by lia
    subst e;refine Ao hp (next_end hn (I3.ok.hd hc) st3 (by simp) fun h' eb => ?_)
    refine Av ⟨σ3, H1, I3.turned (t' := s3.toks) (fun b o hb e => eb b o hb e) f0 f1 f3 f4 f5, q σ3 len3 oth3 ?_⟩;have : z.cps.toList.take z.cps.size = z.cps.toList := by rw [← Array.length_toList, List.take_length]
    rw [this] at y3;exact y3
end
end VT
namespace VT
open PySem PySem.Spec PyProof.Rows L2 VF
section
variable {K:PySem.W.Frag}
def fRepl (y z:Str) (fe:FE):FE:=fun st=>(fe st).bind fun x=>match cont x.2 x.1 with
 | some (.str a)=>if a.length<=1048576/\z.length<=14 then some (.d (.str (Txt.replace a y z)),x.2) else none
 | _=>none
theorem rd_repl {y z:Str} {te:TE} {fe:FE} (h:cT K te fe):cT K (D5 y z te) (fRepl y z fe):=by
 intro st σ H O Z Q E r st' e q;refine cx e fun r1 st1 e1 e=>?_;refine h st σ H O Z _ E r1 st1 e1 fun v H1 O1 x1 k1 E1 rv w1=>?_;cases hc:cont st1 r1 with
 | none=>rw[hc]at e;cases e
 | some d =>
  rw[hc]at e;have b:=rv.ba E1 hc;cases d with
  | str a =>
   have e':(if a.length<=1048576/\z.length<=14 then some (Rs.d (.str (Txt.replace a y z)),st1) else none)=some (r,st'):=e;by_cases c:a.length<=1048576/\z.length<=14
   ·rw[Ad c]at e';cases e';exact⟨a,b,c.1,c.2,q _ H1 O1 x1 k1 E1 (show DA K (U O1 Z) H1 _ _ from .str _) trivial⟩
   ·rw[Ag c]at e';cases e'
  | _=>cases e
def jd (s1 s2:Str):List Nat->Str->Bool
 | [],_=>true
 | c::cs,a=>decide (a.length<=1048576)&&jd s1 s2 cs (Txt.replace a ⟨#[c]⟩ (fmt s1 s2 ⟨#[c]⟩))
theorem sA {s1 s2:Str}:∀{cs:List Nat} {a:Str},jd s1 s2 cs a=true->∀i,i<cs.length->(cE s1 s2 (cs.take i) a).length<=1048576
 | [],_,_,i,hi=>absurd hi (Nat.not_lt_zero _)
 | c::cs,a,h,0,_=>by
  have h':(decide (a.length<=1048576)&&jd s1 s2 cs (Txt.replace a ⟨#[c]⟩ (fmt s1 s2 ⟨#[c]⟩)))=true:=h;simp only[We,decide_eq_true_eq]at h';exact h'.1
 | c::cs,a,h,i+1,hi=>by
  have h':(decide (a.length<=1048576)&&jd s1 s2 cs (Txt.replace a ⟨#[c]⟩ (fmt s1 s2 ⟨#[c]⟩)))=true:=h;simp only[We,decide_eq_true_eq]at h';exact sA h'.2 i (BL hi)
def sFRep (im iy:Nat) (s1 s2:Str) (fe:FE):FS:=fun st=>(fe st).bind fun x=>match cont x.2 x.1,x.2[iy]?,x.2[im]? with
 | some (.str z),some (.v (.str a)),some .e=>if jd s1 s2 z.cps.toList a=true then some (.nx (x.2.set iy (.v (.str (cE s1 s2 z.cps.toList a))))) else none
 | _,_,_=>none
theorem y6 {im iy:Nat} {s1 s2:Str} {fe:FE} {st:En} {o:Ot} (h:sFRep im iy s1 s2 fe st=some o):∃r st1 z a,fe st=some (r,st1)/\cont st1 r=some (.str z)/\st1[iy]?=some (.v (.str a))/\st1[im]?=some .e/\jd s1 s2 z.cps.toList a=true/\o=.nx (st1.set iy (.v (.str (cE s1 s2 z.cps.toList a)))):=by
 refine cx h fun r st1 e1 e=>?_;simp only at e;split at e
 ·rename_i z a h1 h2 h3
  split at e
  ·rename_i hk
   cases e;exact⟨r,st1,z,a,e1,h1,h2,h3,hk,rfl⟩
  ·cases e
 ·cases e
theorem rs_frep {im iy:Nat} {s1 s2:Str} {te:TE} {fe:FE} (h:cT K te fe):lM K (D6 im iy s1 s2 te) (sFRep im iy s1 s2 fe):=by
 intro st σ H O Z Dn E o e q;obtain⟨r,st1,z,a,e1,hc,hy,hm,hk,rfl⟩:=y6 e;refine h st σ H O Z _ E r st1 e1 fun v H1 O1 x1 k1 E1 rv w1=>?_;have hmy:im≠iy:=fun e=>by rw[e,hy]at hm;cases hm
 obtain⟨u,hu,hd⟩:=E1.val iy _ hy;have hu':u=.str a:=hd.ba;subst hu';refine⟨z,a,rv.ba E1 hc,hu,fun i hi=>sA hk i (by simpa using hi),fun σ' l1 l2 l3=>?_⟩
 have io:∀(i:Nat) d,st1[i]?=some (.io d)->i≠im/\i≠iy:=fun i d h=>⟨(fun e=>by rw[e,hm]at h;cases h),(fun e=>by rw[e,hy]at h;cases h)⟩
 refine q σ' H1 O1 x1 (k1.kq.trans ⟨by simp,fun i d h=>?_⟩) ?_
 ·obtain⟨n1,n2⟩:=io i d h;exact⟨l2 i n1 n2,d,by rw[aw (Al n2)];exact h⟩
 have ne:∀(j:Nat) s x,(st1.set iy (.v (.str (cE s1 s2 z.cps.toList a))))[j]?=some s->s.ow=some x->st1[j]?=some s/\σ'[j]?=σ[j]?:=fun j s x h1 h2=>by
  by_cases q:iy=j
  ·subst q;rw[aU hy]at h1;cases h1;cases h2
  ·rw[aw q]at h1;exact⟨h1,l2 j (fun e=>by rw[e,hm]at h1;cases h1;cases h2) (Al q)⟩
 refine⟨by simp[E1.len,l1],fun j x hj=>?_,fun j s x h1 h2=>?_,fun j k s t x x' r h1 h2 h3 h4 h5 h6=>?_,E1.dis,E1.liv⟩
 ·by_cases q:iy=j
  ·subst q;rw[aU hy]at hj;cases hj;exact⟨_,l3,.str _⟩
  ·rw[aw q]at hj;obtain⟨w,g1,g2⟩:=E1.val j x hj;exact⟨w,by rw[l2 j (fun e=>by rw[e,hm]at hj;cases hj) (Al q)];exact g1,g2⟩
 ·obtain⟨a1,a2⟩:=ne j s x h1 h2;obtain⟨p,g1,g2,g3⟩:=E1.own j s x a1 h2;exact⟨p,by rw[a2];exact g1,g2,g3⟩
 ·obtain⟨a1,a2⟩:=ne j s x h1 h2;obtain⟨b1,b2⟩:=ne k t x' h3 h4;rw[a2]at h5;rw[b2]at h6;exact E1.uni j k s t x x' r a1 h2 b1 h4 h5 h6
end
end VT
namespace VF22
open PySem PySem.Spec PyProof.Rows L2 VF
section
variable {X:Cx} {K:PySem.W.Frag} {P:Program} {w:World} {rows:List (Str×Str)}
def dC (rows:List (Str×Str)) (a:Str):Option Str:=(rows.find? fun r=>decide (r.1=a)).map (·.2)
def Ga (rows:List (Str×Str)):List (Key×V):=rows.map fun r=>(Sum.inr r.1,V.str r.2)
theorem nI (a:Str):∀rows,ig (Ga rows) (Sum.inr a)=(dC rows a).map V.str
 | []=>rfl
 | r::rows=>by
  have ih:=nI a rows;by_cases e:r.1=a
  ·have b:dC (r::rows) a=some r.2:=by simp[dC,Yh,e]
   rw[b];exact ij (show(Sum.inr r.1:Key)=Sum.inr a by rw[e])
  ·have b:dC (r::rows) a=dC rows a:=by simp[dC,Yh,e]
   rw[b,← ih];exact ik (show ¬ (Sum.inr r.1:Key)=Sum.inr a from fun z=>e (Sum.inr.inj z))
def GD (P:Program) (w:World) (K:PySem.W.Frag) (C:Addr) (rows:List (Str×Str)):Prop :=
 (C == sysModules)=false/\∃o es ep,K.lookup C=some o/\o.ExactDict/\o.data=.dict es ep/\KeysOf (bO P w) es/\∃vs,Pairs (bO P w) es.toList vs/\(vs.map (·.1)).Nodup/\KV (Ga rows) vs
theorem GD.of {pins:List (Addr×Obj)} {σ:L2.St} {H:Hp} {s:Shared} {C:Addr} (g:GD X.prog X.w K C rows) (I:Inv X pins σ H s) (hK:X.K=K):(C == sysModules)=false/\∃vs,KV (Ga rows) vs/\s.heap.DictOf (bO X.prog X.w) C vs:=by
 subst hK;obtain⟨h0,o,es,ep,h1,h2,h3,h4,vs,h5,h6,h7⟩:=g;exact⟨h0,vs,h7,o,es,ep,I.kIn _ _ h1,h2,h3,h4,h5,h6⟩
def Jb (P:Program) (w:World) (K:PySem.W.Frag) (mg:Str->Option Value) (x:Str) (rows:List (Str×Str)):Prop:=∃C,mg x=some (.ref C)/\GD P w K C rows
def JU (P:Program) (w:World) (K:PySem.W.Frag) (rows:List (Str×Str)):TE:=fun _ H Q=>∀C,GD P w K C rows->Q (.ref C) H
theorem Ik {x:Str} {pos:Pos} (hg:Gl X x) (hm:Jb P w K X.mg x rows) (hd:(x == ("__debug__":Str))=false:=by decide):PE X (.Name x pos) (JU P w K rows):=by
 obtain⟨a,e,g⟩:=hm;exact fun _ _ _ H _ I q=>cX I hg e ⟨.ref a,H,I,rfl,q a g⟩ hd
def D7 (P:Program) (w:World) (K:PySem.W.Frag) (neg:Bool) (rows:List (Str×Str)):R2:=fun x y H Q=>∃(a:Str) (C:Addr),x=.str a/\y=.ref C/\GD P w K C rows/\Q (.bl (if neg then !(dC rows a).isSome else(dC rows a).isSome)) H
theorem t6 (hK:X.K=K):OpR X (compareOp .NotIn) (D7 X.prog X.w K true rows):=by
 intro pins s σ H x y v u Q I rx ry ⟨a,C,ex,ey,g,q⟩;subst ex;subst ey;cases ry;obtain⟨hd,vs,rel,dd⟩:=g.of I hK;refine wpAny_notIn_of (m3 (k:=Sum.inr a) rx) hd dd.mapOf ?_;rw[← (rel.val (Sum.inr a)).isSome_eq,nI,Xm];exact⟨.bl _,H,I.tok _,rfl,q⟩
def vz (neg:Bool) (rows:List (Str×Str)) (fe:FE):FE:=fun st=>(fe st).bind fun x=>(cont x.2 x.1).bind fun d=>match d with
 | .str a=>some (.d (.bl (if neg then !(dC rows a).isSome else(dC rows a).isSome)),x.2)
 | _=>none
theorem CH {te:TE} {fe:FE} {neg:Bool} (h:cT K te fe):cT K (w5 (D7 P w K neg rows) te (JU P w K rows)) (vz neg rows fe):=by
 intro st σ H O Z Q E r' st' h' q;refine cx h' fun r1 st1 e1 h'=>?_;refine bx h' fun d1 e3 h'=>?_;refine h st σ H O Z _ E r1 st1 e1 fun v1 H1 O1 x1 k1 E1 rv1 w1=>fun C g=>?_;have b:=rv1.ba E1 e3;cases d1 with
 | str a =>
  cases h';exact⟨a,C,b,rfl,g,q _ H1 O1 x1 k1 E1 (.bl _) True.intro⟩
 | _=>cases h'
def Il (rows:List (Str×Str)) (ti:TE):TE:=fun σ H Q=>ti σ H fun y H1=>∃a b:Str,y=.str a/\dC rows a=some b/\Q (.str b) H1
theorem sB {x:Str} {i:Expr} {ti:TE} {p pos:Pos} (hK:X.K=K) (hg:Gl X x) (hm:Jb X.prog X.w K X.mg x rows) (hi:PE X i ti) (hs:BS i) (hd:(x == ("__debug__":Str))=false:=by decide):PE X (.Subscript (.Name x p) i pos) (Il rows ti):=by
 obtain⟨C,e,g⟩:=hm;intro pins s σ H Q I h;refine uG PySem.F.slot_dict_getitem.lookup hs (cX I hg e (b7 (hi pins s σ H _ I h) fun iv s2 zz9=>?_) hd);obtain⟨y,H2,I2,ry,a,b,ey,l,q2⟩:=zz9;subst ey;obtain⟨hd,vs,rel,dd⟩:=g.of I2 hK;obtain⟨w',hw,rw'⟩:=RelO.some_of (v:=V.str b) (o:=valueAt vs (Sum.inr a)) (by have:=rel.val (Sum.inr a);rw[nI,l]at this;exact this)
 exact⟨dd.typeIs,wpAny_getItem_of (m3 (k:=Sum.inr a) ry) dd.mapOf hw ⟨.str b,H2,I2.tok _,rw',q2⟩⟩
def y7 (rows:List (Str×Str)) (fe:FE):FE:=fun st=>(fe st).bind fun x=>(cont x.2 x.1).bind fun d=>match d with
 | .str a=>(dC rows a).bind fun b=>some (.d (.str b),x.2)
 | _=>none
theorem y8 {te:TE} {fe:FE} (h:cT K te fe):cT K (Il rows te) (y7 rows fe):=by
 intro st σ H O Z Q E r' st' h' q;refine cx h' fun r1 st1 e1 h'=>?_;refine bx h' fun d1 e3 h'=>?_;refine h st σ H O Z _ E r1 st1 e1 fun v1 H1 O1 x1 k1 E1 rv1 w1=>?_;have b:=rv1.ba E1 e3;cases d1 with
 | str a =>
  obtain⟨c,hc,h'⟩:=Yl.mp h';cases h';exact⟨a,c,b,hc,q _ H1 O1 x1 k1 E1 (.str _) True.intro⟩
 | _=>cases h'
end
end VF22
namespace VT
open PySem PySem.Spec PyProof.Rows L2 VF
theorem vA (s1 s2:Str) (c:Nat):(fmt s1 s2 ⟨#[c]⟩).length=s1.length+1+s2.length:=by
 unfold fmt;simp only[An];show 0+s1.length+1+s2.length=_;lia
theorem cz_b (c:Nat):((⟨#[c]⟩:Str) == fmt " " " " ⟨#[c]⟩)=false:=by
 rw[beq_eq_false_iff_ne];intro e;have:=congrArg Str.length e;rw[vA]at this;have h1:Str.length " "=1:=by decide +kernel
 have h2:Str.length ⟨#[c]⟩=1:=rfl;lia
theorem hz_b (c:Nat):(fmt " " " " ⟨#[c]⟩).length<=14:=by
 rw[vA];have h1:Str.length " "=1:=by decide +kernel
 lia
end VT
namespace VF22
open PySem PySem.Spec PyProof.Rows L2 VF
theorem gd_mk2 {P:Program} {w:World} {K:PySem.W.Frag} {C:Addr} {n:Nat} {a1 b1 a2 b2:Str} {t1 t2 t3 t4:Tok}
  (h:K.lookup C=some ⟨.type "dict",none,.dict #[⟨PyData.keyHash w.params a1,.str a1 t1,.str b1 t2⟩,⟨PyData.keyHash w.params a2,.str a2 t3,.str b2 t4⟩] n,#[]⟩) (hC:(C == sysModules)=false) (ne:a1≠a2):GD P w K C [(a1,b1),(a2,b2)]:=by
 refine⟨hC,_,_,n,h,⟨rfl,rfl,rfl⟩,rfl,fun e he=>?_,[(Sum.inr a1,.str b1 t2),(Sum.inr a2,.str b2 t4)],.cons (d5 P w a1 t1) rfl (.cons (d5 P w a2 t3) rfl .nil),?_,.cons ⟨rfl,t2,rfl⟩ (.cons ⟨rfl,t4,rfl⟩ .nil)⟩
 ·have he:e∈[(⟨PyData.keyHash w.params a1,.str a1 t1,.str b1 t2⟩:DictEntry),⟨PyData.keyHash w.params a2,.str a2 t3,.str b2 t4⟩]:=by simpa using he
  rcases Vc.mp he with rfl|he
  ·exact⟨Sum.inr a1,d5 P w a1 t1,rfl⟩
  ·rcases Vc.mp he with rfl|he
   ·exact⟨Sum.inr a2,d5 P w a2 t3,rfl⟩
   ·exact nomatch he
 ·show([Sum.inr a1,Sum.inr a2]:List Key).Nodup;simp[ne]
end VF22
namespace VT
open PySem PySem.Spec PyProof.Rows L2 VF
def rp (c:Nat) (z:List Nat) (k:Nat):List Nat:=if k=c then z else [k]
theorem qx (c:Nat) (z:List Nat):∀l:List Nat,c∉l->l.flatMap (rp c z)=l
 | [],_=>rfl
 | k::r,h=>by
  have h1:¬ k=c:=fun e=>h (e ▸ Qa ..);rw[Qd,qx c z r fun m=>h (Yb _ m),rp,Ag h1];rfl
theorem vB (c:Nat) (z:Str):∀parts:List Str,(∀p∈parts,c∉p.cps.toList)->(Str.join ⟨#[c]⟩ parts).cps.toList.flatMap (rp c z.cps.toList)=(Str.join z parts).cps.toList
 | [],_=>rfl
 | [p],h=>qx c _ _ (h p (Wb.mpr rfl))
 | p::q::r,h=>by
  have ih:=vB c z (q::r) fun a ha=>h a (Yb _ ha);show(p++⟨#[c]⟩++Str.join ⟨#[c]⟩ (q::r)).cps.toList.flatMap (rp c z.cps.toList)=(p++z++Str.join z (q::r)).cps.toList;simp only[Au,Zg,Qh];rw[ih,qx c _ _ (h p (Qa ..))];show p.cps.toList++(rp c z.cps.toList c++[])++_=_;rw[rp,Ad rfl,Xc]
theorem nJ (x z:Str) (c:Nat):(Txt.replace x ⟨#[c]⟩ z).cps.toList=x.cps.toList.flatMap (rp c z.cps.toList):=by
 rw[StrLaws.replace_one,← vB c z _ (StrLaws.split_free x c),StrLaws.join_split]
def D8 (cs:List Nat) (k:Nat):List Nat:=if k∈cs then [32,k,32] else [k]
theorem kn {α β:Type} {f g:α->List β}:∀{l:List α},(∀a∈l,f a=g a)->l.flatMap f=l.flatMap g
 | [],_=>rfl
 | a::l,h=>by rw[Qd,Qd,h a (Qa ..),kn fun b hb=>h b (Yb _ hb)]
theorem vC (c:Nat):(fmt " " " " ⟨#[c]⟩).cps.toList=[32,c,32]:=by
 unfold fmt;simp only[Au,Zg];rfl
theorem nK:∀(cs:List Nat) (a:Str),32∉cs->cs.Nodup->(cE " " " " cs a).cps.toList=a.cps.toList.flatMap (D8 cs)
 | [],a,_,_=>by
  show a.cps.toList=_;have:a.cps.toList.flatMap (D8 [])=a.cps.toList.flatMap fun k=>[k]:=kn fun k _=>by simp[D8]
  rw[this];simp
 | c::cs,a,h,n=>by
  have nc:c∉cs:=(Zh.mp n).1;have hb:32∉cs:=fun m=>h (Yb _ m);show(cE " " " " cs (Txt.replace a ⟨#[c]⟩ (fmt " " " " ⟨#[c]⟩))).cps.toList=_;rw[nK cs _ hb (Zh.mp n).2,nJ,List.flatMap_assoc,vC];refine kn fun k _=>?_;by_cases e:k=c
  ·subst e;simp[rp,D8,nc,hb]
  ·simp[rp,D8,e]
theorem nL:∀(cs:List Nat) (a:Str),(cE " " " " cs a).cps.toList.length<=3 ^ cs.length*a.cps.toList.length
 | [],a=>by show a.cps.toList.length<=_;simp
 | c::cs,a=>by
  have ih:=nL cs (Txt.replace a ⟨#[c]⟩ (fmt " " " " ⟨#[c]⟩));have h1:(Txt.replace a ⟨#[c]⟩ (fmt " " " " ⟨#[c]⟩)).cps.toList.length<=3*a.cps.toList.length:=by
   rw[nJ,vC];generalize a.cps.toList=l;induction l with
   | nil=>simp
   | cons k r ih =>
    rw[Qd,Xa,Yc];have:(rp c [32,c,32] k).length<=3:=by unfold rp;split<;>simp
    lia
  show(cE " " " " cs (Txt.replace a ⟨#[c]⟩ (fmt " " " " ⟨#[c]⟩))).cps.toList.length<=_;refine Qb ih ?_;rw[Yc,Nat.pow_succ,Nat.mul_assoc];exact Nat.mul_le_mul_left _ h1
theorem sC:∀(cs:List Nat) (a:Str),3 ^ cs.length*a.cps.toList.length<=1048576->jd " " " " cs a=true
 | [],_,_=>rfl
 | c::cs,a,h=>by
  have h1:(Txt.replace a ⟨#[c]⟩ (fmt " " " " ⟨#[c]⟩)).cps.toList.length<=3*a.cps.toList.length:=by
   have:=nL [c] a;simpa[cE]using this
  have hp:1<=3 ^ cs.length:=Nat.one_le_pow _ _ (by decide)
  rw[Yc,Nat.pow_succ,Nat.mul_assoc]at h;have h2:3*a.cps.toList.length<=3 ^ cs.length*(3*a.cps.toList.length):=Nat.le_mul_of_pos_left _ hp;have e:jd " " " " (c::cs) a=(decide (a.length<=1048576)&&jd " " " " cs (Txt.replace a ⟨#[c]⟩ (fmt " " " " ⟨#[c]⟩))):=rfl;rw[e,sC cs _ (Qb (Nat.mul_le_mul_left _ h1) h),Bool.and_true];have:a.length=a.cps.toList.length:=by simp[Str.length]
  simp only[decide_eq_true_eq];lia
def em (acc:List Nat):List (List Nat):=if acc=[] then [] else [acc]
def wd:List Nat->List Nat->List (List Nat)
 | acc,[]=>em acc
 | acc,k::r=>if k=32 then em acc++wd [] r else wd (acc++[k]) r
theorem qy:∀(p acc r:List Nat),32∉p->wd acc (p++r)=wd (acc++p) r
 | [],acc,r,_=>by simp
 | k::p,acc,r,h=>by
  have h1:¬ k=32:=fun e=>h (e ▸ Qa ..);show(if k=32 then em acc++wd [] (p++r) else wd (acc++[k]) (p++r))=_;rw[Ag h1,qy p (acc++[k]) r fun m=>h (Yb _ m),Wd];rfl
theorem vD:∀(ps:List Str),(∀p∈ps,32∉p.cps.toList)->wd [] (Str.join ⟨#[32]⟩ ps).cps.toList=(ps.map fun p=>p.cps.toList).filter (fun p=>!p.isEmpty)
 | [],_=>rfl
 | [p],h=>by
  show wd [] p.cps.toList=_;have:=qy p.cps.toList [] [] (h p (Wb.mpr rfl));rw[Xc,Qi]at this;rw[this];show em p.cps.toList=_;cases e:p.cps.toList with
  | nil=>simp[em,e]
  | cons a b=>simp[em,e]
 | p::q::r,h=>by
  have ih:=vD (q::r) fun a ha=>h a (Yb _ ha);show wd [] (p++⟨#[32]⟩++Str.join ⟨#[32]⟩ (q::r)).cps.toList=_;simp only[Au,Zg];rw[Wd,qy _ _ _ (h p (Qa ..)),Qi];show(if 32=32 then em p.cps.toList++wd [] (Str.join ⟨#[32]⟩ (q::r)).cps.toList else _)=_;rw[Ad rfl,ih];show _=((p.cps.toList)::((q::r).map fun p=>p.cps.toList)).filter (fun p=>!p.isEmpty);rw[Bt];generalize ((q::r).map fun p=>p.cps.toList).filter (fun p=>!p.isEmpty)=z;cases e:p.cps.toList with
  | nil=>simp[em]
  | cons a b=>simp[em]
theorem y9 (x:Str):((Txt.split x ⟨#[32]⟩).map fun p=>p.cps.toList).filter (fun p=>!p.isEmpty)=wd [] x.cps.toList:=by
 rw[← vD _ (StrLaws.split_free x 32),StrLaws.join_split]
def ft (ms:List Nat) (k:Nat):List Nat:=if k=10 then [32] else if k∈ms then [32,k,32] else [k]
def wt (ms acc l:List Nat):List (List Nat):=wd acc (l.flatMap (ft ms))
theorem Im {ms:List Nat} (h1:32∉ms) (h2:10∉ms) (l:List Nat):(l.flatMap (rp 10 [32])).flatMap (D8 ms)=l.flatMap (ft ms):=by
 rw[List.flatMap_assoc];refine kn fun k _=>?_;by_cases e:k=10
 ·subst e;simp[rp,D8,ft,h1]
 ·simp[rp,D8,ft,e]
theorem Gb (acc r:List Nat):wd acc (32::r)=em acc++wd [] r:=by
 show(if 32=32 then em acc++wd [] r else _)=_;rw[Ad rfl]
theorem qz:em []=[]:=rfl
def za (k:Nat):Prop:=k=32∨k=10
theorem Io {ms acc r:List Nat} {k:Nat} (hk:za k) (h:32∉ms):wt ms acc (k::r)=em acc++wt ms [] r:=by
 unfold wt;rw[Qd];have:ft ms k=[32]:=by
  rcases hk with rfl|rfl
  ·simp[ft,h]
  ·simp[ft]
 rw[this];exact Gb acc _
theorem zb {ms:List Nat} (h:32∉ms):∀{g:List Nat} (_:∀k∈g,za k) (r:List Nat),wt ms [] (g++r)=wt ms [] r
 | [],_,_=>rfl
 | k::g,hg,r=>by
  rw[Wj,Io (hg k (Qa ..)) h,qz,Qi];exact zb h (fun j hj=>hg j (Yb _ hj)) r
theorem CJ {ms acc g:List Nat} (h:32∉ms) (hg:∀k∈g,za k) (hn:g≠[]) (r:List Nat):wt ms acc (g++r)=em acc++wt ms [] r:=by
 cases g with
 | nil=>exact absurd rfl hn
 | cons k g =>
  rw[Wj,Io (hg k (Qa ..)) h];rw[zb h (fun j hj=>hg j (Yb _ hj)) r]
theorem CK {ms acc r:List Nat} {c:Nat} (hc:c∈ms) (h:32∉ms) (h2:10∉ms):wt ms acc (c::r)=em acc++[c]::wt ms [] r:=by
 unfold wt;rw[Qd];have e:¬ c=10:=fun e=>h2 (e ▸ hc);have e2:¬ c=32:=fun e=>h (e ▸ hc);have:ft ms c=[32,c,32]:=by simp[ft,e,hc]
 rw[this];show wd acc (32::c::32::_)=_;rw[Gb];show _++(if c=32 then _ else wd ([]++[c]) (32::_))=_;rw[Ag e2,Gb];rfl
def Gc (ms:List Nat) (k:Nat):Prop:=k≠32/\k≠10/\k∉ms
theorem vE {ms:List Nat}:∀{u:List Nat} (_:∀k∈u,Gc ms k) (acc r:List Nat),wt ms acc (u++r)=wt ms (acc++u) r
 | [],_,acc,r=>by simp
 | k::u,hu,acc,r=>by
  obtain⟨h1,h2,h3⟩:=hu k (Qa ..);have ih:=vE (ms:=ms) (fun j hj=>hu j (Yb _ hj)) (acc++[k]) r;rw[Wd]at ih;rw[show acc++k::u=acc++([k]++u) from rfl,← ih];unfold wt;rw[Wj,Qd];have:ft ms k=[k]:=by simp[ft,h2,h3]
  rw[this];show(if k=32 then _ else wd (acc++[k]) _)=_;rw[Ag h1];rfl
theorem Ge {ms acc:List Nat}:wt ms acc []=em acc:=rfl
end VT
namespace VL
open PySem L2 VF
def Lw (x:Str):Prop:=∀c∈x.cps.toList,97<=c/\c<=122
abbrev letS:Str:=Str.ofString "abcdefghijklmnopqrstuvwxyz"
theorem nM:letS.cps.toList=List.range' 97 26:=by decide +kernel
def Nm (x:Str):Prop:=1<=x.length/\x.length<=6/\Lw x
theorem zc {ys:List Str} (h:∀y∈ys,∃c,y=⟨#[c]⟩/\97<=c/\c<=122):Lw (Txt.join (Str.ofString "") ys):=by
 intro c hc;have e:Txt.join (Str.ofString "") ys=Str.join (Str.ofString "") ys:=StrLaws.glued_eq_join _ _;rw[e]at hc;rcases(PyProof.Rows.mem_join _ _ _).mp hc with⟨t,ht,hct⟩|⟨_,z⟩
 ·obtain⟨c',rfl,h1⟩:=h t ht;have:c=c':=by simpa using hct
  rw[this];exact h1
 ·have hE:(Str.ofString "").cps.toList=[]:=by decide +kernel
  rw[hE]at z;cases z
theorem join_ones {ys:List Str} (h:∀y∈ys,∃c,y=(⟨#[c]⟩:Str)):(Txt.join (Str.ofString "") ys).length=ys.length :=
 PySem.W.KT.join_ones ys fun a ha=>by obtain⟨c,rfl⟩:=h a ha;rfl
theorem zd {ys:List Str} (h:∀y∈ys,∃c,y=(⟨#[c]⟩:Str)):(ys.map (·.length)).sum=ys.length:=by
 induction ys with
 | nil=>rfl
 | cons y r ih =>
  obtain⟨c,rfl⟩:=h y Qa;rw[Qc,List.sum_cons,ih fun z hz=>h z (Yb _ hz)];show 1+r.length=r.length+1;lia
theorem Lw.app {x y:Str} (a:Lw x) (b:Lw y):Lw (x++y):=fun c hc=>by
 rw[Au,Zg]at hc;rcases Vd.mp hc with z|z
 ·exact a c z
 ·exact b c z
theorem ze:Lw (Str.ofString ""):=fun c hc=>by
 have hE:(Str.ofString "").cps.toList=[]:=by decide +kernel
 rw[hE]at hc;cases hc
def word (s:Nat):Str:=Txt.mul ⟨#[97+s % 26]⟩ (1+((s:Nat):Int) / 26)
theorem iZ (s:Nat):(word s).cps.toList=List.replicate (1+s / 26) (97+s % 26):=by
 unfold word;rw[PyProof.Rows.mul_one_list];have e:(1+((s:Nat):Int) / 26).toNat=1+s / 26:=by lia
 rw[e]
theorem sD (s:Nat):(word s).length=1+s / 26:=by
 have:=congrArg List.length (iZ s);rw[Xh,Qf]at this;exact this
theorem zf {a b:Nat} (h:word a=word b):a=b:=by
 have h1:(word a).cps.toList=(word b).cps.toList:=by rw[h]
 rw[iZ,iZ]at h1;have h2:=congrArg List.length h1;rw[Xh,Xh]at h2;have h3:=congrArg (fun l=>l[0]?) h1;simp only[Zj]at h3;rw[Ad (by lia),Ad (by lia)]at h3
 have h4:=Option.some.inj h3;lia
theorem CL {s:Nat} (h:s<=120):Nm (word s):=by
 refine⟨by rw[sD];lia,by rw[sD];lia,fun c hc=>?_⟩
 rw[iZ]at hc;have:=BI hc;lia
theorem wP {xs:List Str} {s:Nat} (h:∀j,j<s->word j∈xs):s<=xs.length:=by
 have:=rK ((List.range s).map word) xs (by
  show List.Pairwise _ _;rw[List.pairwise_map];exact List.nodup_range.imp fun hne e=>hne (zf e)) (fun x hx=>by
  obtain⟨j,hj,rfl⟩:=Wc.mp hx
  exact h j (List.mem_range.mp hj))
 rw[Ya,Bl]at this;exact this
theorem Gf (s:Nat):i8 letS.cps.toList (((s:Nat):Int) % 26)=some (97+s % 26):=by
 have e:((s:Nat):Int) % 26=(((s % 26:Nat)):Int):=by lia
 rw[e];refine mz ?_;rw[nM,List.getElem?_range' (by lia)]
 congr 1;lia
theorem nN {α:Type}:∀{l:List α} {i:Nat} (h:i<l.length),(l[i]::l.eraseIdx i).Perm l
 | _::_,0,_=>List.Perm.refl _
 | x::r,i+1,h=>(List.Perm.swap x _ _).trans (List.Perm.cons x (nN (l:=r) (i:=i) (BL h)))
abbrev minus:Str:=Str.ofString "-"
def bd (p:Bool×Str):Str:=if p.1 then minus++p.2 else p.2
theorem dQ:minus.cps.toList=[45]:=by decide +kernel
theorem ll {p:Bool×Str} (h:Nm p.2):1<=(bd p).length/\(bd p).length<=7:=by
 have e:minus.length=1:=by decide +kernel
 unfold bd;split
 ·rw[An,e];have:=h.1;have:=h.2.1;lia
 ·have:=h.1;have:=h.2.1;lia
theorem vF {x y:Str} (h:x.cps.toList=y.cps.toList):x=y:=by
 cases x;cases y;have:_=_:=Array.toList_inj.mp h;exact congrArg Str.mk this
theorem zg {n:Str}:Txt.slice (minus++n) (some 1) none=n:=by
 have e:minus.length=1:=by decide +kernel
 rw[PyProof.Rows.slice_from_eq (i:=1) (b:=((minus++n).length:Int)) (by decide) (by rw[An,e];lia) rfl]
 refine vF ?_;show((List.drop 1 (minus++n).cps.toList).take _).toArray.toList=_;rw[Au,Zg,dQ,An,e];show List.take _ n.cps.toList=_;refine Ql ?_;rw[Qf];show n.length<=_;lia
theorem zh {p:Bool×Str} (h:Nm p.2):∃c,i8 (bd p).cps.toList 0=some c/\(V.str ⟨#[c]⟩=V.str minus↔p.1=true):=by
 obtain⟨t,n⟩:=p;have em:(⟨#[45]⟩:Str)=minus:=by decide +kernel
 cases t with
 | true =>
  refine⟨45,?_,fun _=>rfl,fun _=>by rw[em]⟩
  show i8 (minus++n).cps.toList 0=_;rw[Au,Zg,dQ];exact Ht
 | false =>
  have h1:1<=n.length:=h.1;cases e:n.cps.toList with
  | nil =>
   have:=congrArg List.length e;rw[Qf]at this;have h2:n.cps.size=n.length:=rfl;rw[h2]at this;simp at this;lia
  | cons c r =>
   refine⟨c,?_,fun z=>?_,fun z=>by cases z⟩
   ·show i8 n.cps.toList 0=_;rw[e];exact Ht
   ·have hc:=h.2.2 c (by show c∈n.cps.toList;rw[e];exact Qa)
    have z1:(⟨#[c]⟩:Str)=minus:=V.str.inj z;rw[← em]at z1;have z2:c=45:=by simpa using z1
    lia
theorem wQ {d:Int} {n:Str} (d0:0<=d) (d1:d<2):Txt.mul minus d++n=bd (decide (d=1),n):=by
 have h:d=0∨d=1:=by lia
 rcases h with rfl|rfl
 ·show(if (0:Int)<1 then Str.empty else _)++n=_;rw[Ad (by decide)]
  exact Str.empty_append n
 ·rfl
theorem CM {n:Str} (h:Nm n):∃c r,n.cps.toList=c::r/\c≠45:=by
 cases e:n.cps.toList with
 | nil =>
  have h1:1<=n.length:=h.1;have:=congrArg List.length e;rw[Qf]at this;have h2:n.cps.size=n.length:=rfl;rw[h2]at this;simp at this;lia
 | cons c r =>
  refine⟨c,r,rfl,fun z=>?_⟩;have hc:=h.2.2 c (by rw[e];exact Qa)
  lia
theorem wR {t:Bool} {n:Str} (h:Nm n):Txt.startswith (bd (t,n)) minus=t:=by
 have e1:minus.length=1:=by decide +kernel
 have hl:=(ll (p:=(t,n)) h).1;unfold Txt.startswith
 rw[Af (show 0+minus.length<=(bd (t,n)).length by lia),Bool.true_and,StrLaws.subAt_eq,dQ,e1]
 cases t with
 | true =>
  show((((minus++n).cps.toList).drop 0).take 1 == [45])=true;rw[Au,Zg,dQ];rfl
 | false =>
  obtain⟨c,r,e,hc⟩:=CM h;show(((n.cps.toList).drop 0).take 1 == [45])=false;rw[e];show([c] == [45])=false;simp[hc]
end VL
namespace VF22
open PySem L2 VF
theorem Gg {X:Cx} {e:Expr} {t:TE} (h:FL X e t):PE X e t:=by
 unfold FL at h;exact h
end VF22
namespace K06
open PySem L2 VF VF22 VX
noncomputable section
abbrev az:FE:=aJ 0
abbrev aW:FE:=aJ 1
abbrev bg:FE:=aJ 2
abbrev bF:FE:=aJ 3
abbrev jz:FE:=aJ 4
abbrev jA:FE:=aJ 5
abbrev iF:FE:=aJ 6
abbrev Gh:FE:=aJ 7
abbrev zi:FE:=aJ 8
abbrev Gi:FE:=aJ 9
abbrev CN:FE:=aJ 10
abbrev bT:FE:=fC (.int 0)
abbrev aZ:FE:=fC (.int 1)
abbrev dD:FE:=fC (.int 2)
abbrev fj:FE:=fC (.int 3)
abbrev gc:FE:=fC (.int 4)
abbrev qC:FE:=fC (.int 6)
abbrev vG:FE:=fC (.int 7)
abbrev CO:FE:=fC (.int 8)
abbrev zj:FE:=fC (.int 10)
abbrev zk:FE:=fC (.int 18)
abbrev zl:FE:=fC (.int 23)
abbrev nO:FE:=fC (.int 26)
abbrev t7:FE:=fC (.int 7919)
abbrev sE:FE:=fC (.int 40013)
abbrev sF:FE:=fC (.int 48271)
abbrev lU:FE:=fC (.int 65521)
abbrev je:FE:=fC (.int 1000003)
abbrev nP:FE:=fC (.int 12820163)
abbrev gC:FE:=fC (.int 2147483647)
def sG:FE :=
  (aL wx az (fC (.str "abcdefghijklmnopqrstuvwxyz")))
def pB:FS :=
  (aH (gM (jU (fY (aE (d6 b8 (ab az (ab (fC (.ty "str")) aj))))) (fY (aE (p9 Fe Fe aZ (d6 fT (ab az aj)) qC)))) (bG (fC (.bl false))) bn)
  (bG (d6 tM (ab (eQ 1 [] (ml az) (gN 0) fD sG) aj))))
def ln:List D->Option Rz:=bN pB 1 1
def lV:FS :=
  (bG (yi "str" uY az (ab (fC (.str "-")) aj)))
def eh:List D->Option Rz:=bN lV 1 1
def pC:FS :=
  (bG (G0 (aE (cU eh (ab az aj))) (w9 zV az (gw aZ) Fp) az))
def fz:List D->Option Rz:=bN pC 1 1
def pD:FS :=
  (bG (jV (d6 b8 (ab az (ab (fC (.ty "str")) aj))) (cU ln (ab (cU fz (ab az aj)) aj))))
def lA:List D->Option Rz:=bN pD 1 1
def qD:FS :=
  (gM (aE (d6 b8 (ab bg (ab (fC (.ty "str")) aj)))) (cJ (fM mH cj 1 (ab bg aj))) (cJ (fM mH qo 1 (ab (aL cM bg aZ) aj))))
def gS:FS :=
  (aH (aY (bU aj) 1)
  (aH (jY (ml az) (gN 2) qD)
  (bG aW)))
def db:List D->Option Rz:=bN gS 3 1
def kr:FT :=
  (aE (aL o7 az (fC (.str ""))))
def ku:FE :=
  az
def jB:FS :=
  (aH (gM (fY (aE (d6 b8 (ab az (ab (fC (.ty "str")) aj))))) yz bn)
  (aH (aY (VT.fRepl "\n" " " az) 2)
  (aH (VT.sFRep 3 2 " " " " aW)
  (bG (eQ 1 [] (ml (yi "str" tV bg (ab (fC (.str " ")) aj))) (gN 0) kr ku)))))
def bo:List D->Option Rz:=bN jB 4 2
def gT:FE :=
  (cU lA (ab az aj))
def gU:FY :=
  (gA (yP (fY (aE (d6 tM (ab (eQ 1 [] (ml az) (gN 0) fD gT) aj)))) (kh "BadText") (qr bn))
  (qr (bG (d6 iW (ab az aj)))))
def dR:List D->Option Rx:=eS gU 1 1
def fJ:List D->Option Rz:=bN (xa gU) 1 1
def dY:FY :=
  (gA (hY dR fJ (ab (w9 zV az (gw aZ) (gw (uR j4 aZ))) aj) fun fe=>aY fe 1)
  (gA (yP (jU (aE (vz true [("[","open"),("(","ring")] (aL cM az bT))) (jU (aE (aL o7 (aL cM az (uR j4 aZ)) (y7 [("[","]"),("(",")")] (aL cM az bT)))) (aE (aL rj (d6 fT (ab aW aj)) bT)))) (kh "BadText") (qr bn))
  (qr (bG (jW (ab (y7 [("[","open"),("(","ring")] (aL cM az bT)) (ab aW aj)))))))
def bP:List D->Option Rx:=eS dY 2 1
def bQ:List D->Option Rz:=bN (xa dY) 2 1
def cQ:FS :=
  (aH (cJ (fM mH cj 2 (ab bF aj)))
  (gM (aE (aL wx bF (jW (ab (fC (.str "]")) (ab (fC (.str ")")) aj))))) (aH (cJ (fM mH cj 1 (ab bg aj)))
  (aY (bU aj) 2)) bn))
def iG:FS :=
  (aH (aY (bU aj) 1)
  (aH (aY (bU aj) 2)
  (aH (jY (ml az) (gN 3) cQ)
  (aH (gM (aE (aL o7 bg (bU aj))) (cJ (fM mH cj 1 (ab bg aj))) bn)
  (bG aW)))))
def dE:List D->Option Rz:=bN iG 4 1
def cR:FY :=
  (gA (qr (aY (cU fz (ab bg aj)) 3))
  (gA (yP (aE (aL (FF false) bF aW)) (qt "Twice" "name" bF) (qr bn))
  (qr (oB DV (fC (.bl true)) 1 bF))))
def dF:FY :=
  (gA (qr (aY (DW (.dk [])) 1))
  (Ct (ml (bV db (ab az aj))) (gN 2) cR))
def cN:List D->Option Rx:=eS dF 4 1
def dG:List D->Option Rz:=bN (xa dF) 4 1
def gW:FY :=
  (gA (kl 1 [] (ml (bV dE (ab (bV bo (ab az (ab (fC (.str "[]()")) aj))) aj))) (gN 0) fD bP bQ (ab az aj) fun fe=>aY (d6 iW (ab fe aj)) 1)
  (gA (nC cN dG (ab aW aj))
  (qr (bG aW))))
def de:List D->Option Rx:=eS gW 2 1
def gX:List D->Option Rz:=bN (xa gW) 2 1
def gd:FY :=
  (gA (qr (aY (bV bo (ab az (ab (fC (.str "|")) aj))) 1))
  (gA (yP (jU (aE (aL G5 (d6 fT (ab aW aj)) dD)) (jU (aE (aL o7 (aL cM aW bT) (fC (.str "|")))) (aE (aL o7 (aL cM aW (uR j4 aZ)) (fC (.str "|")))))) (kh "BadText") (qr bn))
  (gA (hY dR fJ (ab (w9 zV aW (gw aZ) (gw (uR j4 aZ))) aj) fun fe=>aY fe 2)
  (gA (nC cN dG (ab bg aj))
  (qr (bG bg))))))
def cO:List D->Option Rx:=eS gd 3 1
def ge:List D->Option Rz:=bN (xa gd) 3 1
def nQ:FS :=
  (bG (bU (ab (d6 iB (ab az aj)) (ab bT (ab bT (ab aZ (ab bT aj)))))))
def jC:List D->Option Rz:=bN nQ 1 1
def jD:FS :=
  (aH (gM (hX (aE (aL rj (aL cM az dD) bT)) (aE (aL G5 (aL cM az aZ) (d6 fT (ab (aL cM az bT) aj))))) (aH (aY (aL cM (aL cM az bT) (aL cM az aZ)) 2)
  (aH (oB nk (aL cP (aL cM az aZ) aZ) 0 aZ)
  (gM (aE (aL JK bg (aL Hz zj zk))) (oB nk bg 0 dD) (oB nk (aL nj (aL cP (aL cP (aL mi (aL cM az fj) sE) (aL nj bg je)) aZ) gC) 0 fj)))) bn)
  (aH (gM (aE (aL JJ (aL cM az dD) bT)) (aH (aY (aL nj (aL cM az dD) aW) 3)
  (aH (oB nk (aL tJ (aL cM az dD) aW) 0 dD)
  (bG bF))) bn)
  (aH (oB nk (aL cP (aL cM az gc) aZ) 0 gc)
  (aH (oB nk (aL nj (aL cP (aL cP (aL mi (aL cM az fj) sF) nP) (aL cM az gc)) gC) 0 fj)
  (bG (aL nj (aL tJ (aL nj (aL mi (aL cP (aL nj (aL cM az fj) lU) aZ) (aL cP (aL tJ (aL cM az fj) lU) t7)) je) vG) aW))))))
def ax:D->List D->Option (Rz×D):=cL jD 4 2
def jf:FS :=
  (bG (yi "str" yj (fC (.str "")) (ab (eQ 1 [0] (qa (ab aW aj)) (gN 0) fD (aL cM (fC (.str "abcdefghijklmnopqrstuvwxyz")) (d7 ax 1 (ab nO aj)))) aj)))
def cW:D->List D->Option (Rz×D):=cL jf 2 2
def nR:FS :=
  (aH (gM (aE (aL o7 aW (fC (.str "")))) (bG (aL cP aW (d7 cW 0 (ab (aL cP aZ (d7 ax 0 (ab dD aj))) aj)))) bn)
  (aH (gM (aE (aL rj (d7 ax 0 (ab vG aj)) bT)) (aH (aY (bU (fF ["to","turn","turns","ring","rings","odd","ours","row","rows","cuts","knots","cover"])) 2)
  (aH (aY (aL cP bg (bU (fF ["change","joins","theirs","one","two","home","none","open","keep","tox","onex"]))) 2)
  (bG (aL cM bg (d7 ax 0 (ab zl aj)))))) bn)
  (bG (d7 cW 0 (ab (aL cP aZ (d7 ax 0 (ab qC aj))) aj)))))
def jE:D->List D->Option (Rz×D):=cL nR 3 2
def iH:FS :=
  (aH (aY (fC (.str "")) 2)
  (aH (gM (aE (aL rj (d7 ax 0 (ab fj aj)) bT)) (aY (d7 cW 0 (ab (aL cP aZ (d7 ax 0 (ab gc aj))) aj)) 2) bn)
  (aH (aY (bU aj) 3)
  (aH (jY (qa (ab aW aj)) (gN 4) (aH (aY (d7 jE 0 (ab bg aj)) 5)
  (aH (aY bT 6)
  (aH (zU (aE (aL wx jA bF)) (aH (aY (aL mi (aL cM (fC (.str "abcdefghijklmnopqrstuvwxyz")) (aL nj iF nO)) (aL cP aZ (aL tJ iF nO))) 5)
  (aY (aL cP iF aZ) 6)) 200)
  (cJ (fM mH cj 3 (ab jA aj)))))))
  (bG bF)))))
def iI:D->List D->Option (Rz×D):=cL iH 7 2
def iJ:FS :=
  (aH (aY (d6 iB (ab aW aj)) 2)
  (aH (aY (bU aj) 3)
  (aH (zU (aE (aL o7 bg (bU aj))) (cJ (fM mH cj 3 (ab (fM mH qi 2 (ab (d7 ax 0 (ab (d6 fT (ab bg aj)) aj)) aj)) aj))) 300)
  (bG bF))))
def fK:D->List D->Option (Rz×D):=cL iJ 4 2
def iK:FS :=
  (aH (gM (aE (aL rj (aL cM az bT) (fC (.str "-")))) (bG (w9 zV az (gw aZ) Fp)) bn)
  (bG (aL cP (fC (.str "-")) az)))
def fL:List D->Option Rz:=bN iK 1 1
def nS:FS :=
  (bG (d6 iW (ab (eQ 1 [0] (ml (d7 fK 0 (ab aW aj))) (gN 0) fD (aL cP (aL mi (fC (.str "-")) (d7 ax 1 (ab dD aj))) az)) aj)))
def jF:D->List D->Option (Rz×D):=cL nS 2 2
def lX (gs:List D->Option Rz):FS :=
  (aH (gM (aE (aL (Fj false) aW (fC .non))) (bG (aL (Fj false) az (fC .non))) bn)
  (aH (gM (jU (aE (d6 b8 (ab aW (ab (fC (.ty "bool")) aj)))) (aE (d6 b8 (ab az (ab (fC (.ty "bool")) aj))))) (bG (jV (d6 b8 (ab aW (ab (fC (.ty "bool")) aj))) (jV (d6 b8 (ab az (ab (fC (.ty "bool")) aj))) (aL rj az aW)))) bn)
  (aH (gM (aE (d6 b8 (ab aW (ab (fC (.ty "int")) aj)))) (bG (jV (d6 b8 (ab az (ab (fC (.ty "int")) aj))) (aL rj az aW))) bn)
  (aH (gM (aE (d6 b8 (ab aW (ab (fC (.ty "str")) aj)))) (bG (jV (d6 b8 (ab az (ab (fC (.ty "str")) aj))) (aL rj az aW))) bn)
  (aH (gM (jU (aE (aL o7 (d6 b8 (ab aW (ab (fC (.ty "tuple")) aj))) (d6 b8 (ab az (ab (fC (.ty "tuple")) aj))))) (aE (aL o7 (d6 b8 (ab aW (ab (fC (.ty "list")) aj))) (d6 b8 (ab az (ab (fC (.ty "list")) aj)))))) (bG (fC (.bl false))) bn)
  (bG (jV (aL rj (d6 fT (ab az aj)) (d6 fT (ab aW aj))) (d6 tM (ab (eQ 1 [0,1] (qa (ab (d6 fT (ab aW aj)) aj)) (gN 0) fD (cU gs (ab (aL cM aW az) (ab (aL cM bg az) aj)))) aj)))))))))
def fN:FS :=
  (aH (aY (bU (fF [""," ","\n","  "," \n","\n     "])) 5)
  (aH (gM (hX (aE bF) (aE (aL jt jz (bU (fF ["[","]","(",")","|"]))))) (aY (bU (fF [" ","\n","  ","\n "," ","     "])) 5) bn)
  (aH (aY (aL cP (aL cP bg (aL cM jA (d7 ax 0 (ab qC aj)))) jz) 2)
  (aY (aL jt jz (bU (fF ["[","]","(",")","|"]))) 3))))
def kx:FS :=
  (aH (aY (fC (.str "")) 2)
  (aH (aY (fC (.bl false)) 3)
  (aH (jY (ml aW) (gN 4) fN)
  (bG (aL cP bg (aL cM (bU (fF [""," ","\n"," \n"])) (d7 ax 0 (ab gc aj))))))))
def bB:D->List D->Option (Rz×D):=cL kx 6 2
def eK:FS :=
  (aH (aY (aL cM bg (d7 ax 0 (ab (d6 fT (ab bg aj)) aj))) 4)
  (aH (gM (aE (aL rj (d7 ax 0 (ab dD aj)) bT)) (aY (cU fL (ab jz aj)) 4) bn)
  (cJ (fM mH mI 2 (ab (d7 ax 0 (ab (aL cP (d6 fT (ab bg aj)) aZ) aj)) (ab jz aj))))))
def jg:FS :=
  (aH (aY (d6 iB (ab aW aj)) 2)
  (aH (jY (qa (ab (aL cP aZ (d7 ax 0 (ab gc aj))) aj)) (gN 3) eK)
  (bG bg)))
def gn:D->List D->Option (Rz×D):=cL jg 5 2
def cr:FS :=
  (aH (gM (aE (aL wx (yi "str" jx bg (ab (fC (.str "-")) aj)) aW)) (bG (yi "str" jx bg (ab (fC (.str "-")) aj))) bn)
  (cJ (fM mH cj 1 (ab (yi "str" jx bg (ab (fC (.str "-")) aj)) aj))))
def gf:FS :=
  (aH (aY (bU aj) 1)
  (aH (jY (ml az) (gN 2) cr)
  (bG (fC (.str "")))))
def dH:List D->Option Rz:=bN gf 3 1
def eM:FS :=
  (aH (gM (aE (aL rj bF (fC (.str "")))) (aH (aY (aL cM (fC (.str "[(")) (d7 ax 0 (ab dD aj))) 3)
  (cJ (fM mH cj 2 (ab bF aj)))) bn)
  (aH (cJ (fM mH cj 2 (ab jz aj)))
  (gM (aE (aL rj (d7 ax 0 (ab fj aj)) bT)) (aH (cJ (fM mH cj 2 (ab (aL vc (Ii "[" "]" "(" ")") bF) aj)))
  (aY (fC (.str "")) 3)) bn)))
def jh:FS :=
  (aH (aY (bU aj) 2)
  (aH (aY (fC (.str "")) 3)
  (aH (jY (ml aW) (gN 4) eM)
  (aH (gM (aE (aL o7 bF (fC (.str "")))) (cJ (fM mH cj 2 (ab (aL vc (Ii "[" "]" "(" ")") bF) aj))) bn)
  (bG bg)))))
def dZ:D->List D->Option (Rz×D):=cL jh 5 2
def fO:FY :=
  (gA (yP (aE az) (hY cO ge (ab aW aj) bG) (qr bn))
  (hY de gX (ab aW aj) bG))
def df:List D->Option Rx:=eS fO 2 2
def gY:List D->Option Rz:=bN (xa fO) 2 2
def nU:FS :=
  (aH (aY (jW (ab (fC (.str "read")) (ab (fC (.str "")) aj))) 2)
  (aH (pr df gY (ab az (ab aW aj)) 3 ["Twice","BadText"] (aH (aY (jW (ab (fC (.str "else")) (ab (fC (.str "")) aj))) 2)
  (gM (hX (aE (le [("Twice",true),("BadText",true)] bF)) (hX (fY (aE (le [("Twice",false),("BadText",false)] bF))) (fY (aE (le [("Twice",false),("BadText",false)] bF))))) (aH (gM (hX (aE (le [("Twice",true),("BadText",false)] bF)) (fY (aE (le [("Twice",false),("BadText",true)] bF)))) (aY (jW (ab (fC (.str "twice")) (ab (Cr "name" "Twice" bF) aj))) 2) bn)
  (gM (hX (aE (le [("Twice",false),("BadText",true)] bF)) (fY (aE (le [("Twice",true),("BadText",false)] bF)))) (aY (jW (ab (fC (.str "bad")) (ab (fC (.str "")) aj))) 2) bn)) bn)))
  (bG bg)))
def bM:List D->Option Rz:=bN nU 4 2
def qE:FS :=
  (aH (aY (aL dA (aL dA (bU (ab (fC (.str "|")) aj)) (d6 iB (ab bF aj))) (bU (ab (fC (.str "|")) aj))) 6)
  (aH (aY (aL dA (aL dA (bU (ab (fC (.str "|")) aj)) (d6 iB (ab bg aj))) (bU (ab (fC (.str "|")) aj))) 7)
  (aH (gM (fY (aE jA)) (aH (aY (d7 dZ 1 (ab bF aj)) 6)
  (aY (d7 dZ 1 (ab bg aj)) 7)) bn)
  (aH (gM (fY (aE (cU (du 4) (ab (bV bM (ab jA (ab (d7 bB 1 (ab iF aj)) aj))) (ab jz aj))))) (bG (fC (.bl false))) bn)
  (aH (aY (aL cM (bU (fF ["]","[","(",")"])) (d7 ax 1 (ab gc aj))) 8)
  (aH (aY (aL cM (bU (fF ["A","-","a-","--a"])) (d7 ax 1 (ab gc aj))) 9)
  (aH (aY (aL cM (bU (ab (aL dA (bU (ab zi aj)) iF) (ab (aL dA iF (bU (ab zi aj))) (ab (aL dA (aL dA (w9 tS iF Fp (gw (uR j4 aZ))) (bU (ab Gi aj))) (w9 tS iF (gw (uR j4 aZ)) Fp)) aj)))) (d7 ax 1 (ab fj aj))) 10)
  (aH (gM (aE (aL rY (bV bM (ab jA (ab (d7 bB 1 (ab CN aj)) aj))) (jW (ab (fC (.str "bad")) (ab (fC (.str "")) aj))))) (bG (fC (.bl false))) bn)
  (gM (aE (aL rY (bV bM (ab jA (ab (d7 bB 1 (ab Gh aj)) aj))) (jW (ab (fC (.str "read")) (ab (fC (.str "")) aj))))) (bG (fC (.bl false))) bn)))))))))
def D9:FS :=
  (aH (aY (bV jC (ab az aj)) 1)
  (aH (aY (d7 jF 1 (ab (d7 iI 1 (ab (aL dA aZ (d7 ax 1 (ab CO aj))) aj)) aj)) 2)
  (aH (aY (d7 gn 1 (ab bg aj)) 3)
  (aH (aY (jW (ab (fC (.str "twice")) (ab (cU dH (ab bF aj)) aj))) 4)
  (aH (jY (ml (bU (ab (fC (.bl false)) (ab (fC (.bl true)) aj)))) (gN 5) qE)
  (bG (fC (.bl true))))))))
end
end K06
namespace K06
open PySem L2 VF VF22 VX
abbrev wS:List Str:=["thing"]
abbrev CP:List Str:=["words"]
abbrev CQ:List Str:=["_law_flow_here","_law_many"]
abbrev Ea:List Str:=["bead"]
abbrev G7:List Str:=["_law_script"]
abbrev G8:List Str:=["_law_found","_law_due"]
abbrev G9:List Str:=["_law_lined","_law_text"]
abbrev Ip:List Str:=["_law_flow_here","_law_names_here"]
abbrev Jc:List Str:=["_law_flow_here","_law_beads"]
abbrev Jd:List Str:=["self","name"]
abbrev Gj:List Str:=["text","marks","spaced","mark"]
abbrev Iq:List Str:=["_law_flow_here","_law_many","_law_cell","_law_digit"]
abbrev Ir:List Str:=["_law_flow_here","_law_stem","_law_words"]
abbrev Iu:List Str:=["_law_flow_here","_law_many","_law_stem","_law_names_here","_law_k","_law_name_here","_law_spare"]
abbrev Iv:List Str:=["_law_flow_here","_law_things","_law_left","_law_told"]
abbrev Iw:List Str:=["_law_flow_here","_law_tokens","_law_text","_law_word_here","_law_token","_law_gaps"]
abbrev Ix:List Str:=["_law_flow_here","_law_beads","_law_more","_law_k","_law_bead"]
abbrev Iy:List Str:=["_law_beads","_law_seen","_law_bead"]
abbrev Iz:List Str:=["_law_flow_here","_law_beads","_law_tokens","_law_opened","_law_bead"]
abbrev IA:List Str:=["_law_lined","_law_text","_law_told","e"]
abbrev IB:List Str:=["_law_script","_law_flow_here","_law_beads","_law_more","_law_due","_law_lined","_law_tokens","_law_good","_law_mark","_law_none","_law_spoilt"]
def top (i:Nat):Stmt:=PySem.Challenge.pw_strandwright_k06_a_name_twice.main.body.getD i (.Pass ⟨0,0,0,0⟩)
abbrev mK:Stmt:=top 3
abbrev lB:Stmt:=top 4
abbrev qF:Stmt:=top 5
abbrev qG:Stmt:=top 6
abbrev nV:Stmt:=top 7
abbrev ky:Stmt:=top 17
abbrev kz:Stmt:=top 18
abbrev iL:Stmt:=top 19
abbrev gZ:Stmt:=top 20
abbrev g7:Stmt:=top 21
abbrev kA:Stmt:=top 22
abbrev lC:Stmt:=top 23
abbrev t8:Stmt:=top 25
abbrev t9:Stmt:=top 26
abbrev i3:Stmt:=top 27
abbrev ua:Stmt:=top 28
abbrev qH:Stmt:=top 29
abbrev jG:Stmt:=top 30
abbrev jH:Stmt:=top 31
abbrev qI:Stmt:=top 32
abbrev mL:Stmt:=top 33
abbrev nW:Stmt:=top 34
abbrev lD:Stmt:=top 35
abbrev g8:Stmt:=top 36
abbrev lE:Stmt:=top 37
abbrev ub:Stmt:=top 38
abbrev uc:Stmt:=top 39
abbrev Gk:Stmt:=top 40
theorem ud:FnScope wS wS (ak mK):=gQ (by decide +kernel)
theorem qJ:FnScope Ea Ea (ak lB):=gQ (by decide +kernel)
theorem ue:FnScope Ea Ea (ak qF):=gQ (by decide +kernel)
theorem uf:FnScope wS wS (ak qG):=gQ (by decide +kernel)
theorem sc_sbeadsin:FnScope ["thing","beads","part"] wS (ak nV):=gQ (by decide +kernel)
theorem sc_swordsof:FnScope Gj ["text","marks"] (ak ky):=gQ (by decide +kernel)
theorem sH:FnScope CP CP (ak kz):=gQ (by decide +kernel)
theorem sc_sreadstrand:FnScope ["words","beads"] CP (ak iL):=gQ (by decide +kernel)
theorem sc_sstrandwords:FnScope ["words","groups","group","word"] CP (ak gZ):=gQ (by decide +kernel)
theorem sc_srefusetwice:FnScope ["thing","seen","bead","name"] wS (ak g7):=gQ (by decide +kernel)
theorem sc_sreadset:FnScope ["text","some"] ["text"] (ak kA):=gQ (by decide +kernel)
theorem sc_sreadline:FnScope ["text","words","line"] ["text"] (ak lC):=gQ (by decide +kernel)
theorem wT:FnScope G7 G7 (ak t8):=gQ (by decide +kernel)
theorem sc_sLpick:FnScope Iq CQ (ak t9):=gQ (by decide +kernel)
theorem qK:FnScope CQ CQ (ak i3):=gQ (by decide +kernel)
theorem sc_sLname:FnScope Ir ["_law_flow_here","_law_stem"] (ak ua):=gQ (by decide +kernel)
theorem sc_sLnames:FnScope Iu CQ (ak qH):=gQ (by decide +kernel)
theorem sc_sLshuffled:FnScope Iv ["_law_flow_here","_law_things"] (ak jG):=gQ (by decide +kernel)
theorem oC:FnScope ["_law_bead"] ["_law_bead"] (ak jH):=gQ (by decide +kernel)
theorem wU:FnScope Ip Ip (ak qI):=gQ (by decide +kernel)
theorem ug:FnScope G8 G8 (ak mL):=gQ (by decide +kernel)
theorem sc_sLspaced:FnScope Iw ["_law_flow_here","_law_tokens"] (ak nW):=gQ (by decide +kernel)
theorem sc_sLdoubled:FnScope Ix Jc (ak lD):=gQ (by decide +kernel)
theorem sc_sLfirsttwice:FnScope Iy ["_law_beads"] (ak g8):=gQ (by decide +kernel)
theorem sc_sLstrands:FnScope Iz Jc (ak lE):=gQ (by decide +kernel)
theorem wV:FnScope G9 G9 (ak ub):=gQ (by decide +kernel)
theorem sc_sLword:FnScope IA G9 (ak uc):=gQ (by decide +kernel)
theorem sc_slaw:FnScope IB G7 (ak Gk):=gQ (by decide +kernel)
structure Md (P:Program) (w:World) (K:PySem.W.Frag) (mg:Str->Option Value):Prop where
 n_ValueError:mg "ValueError"=none
 n_all:mg "all"=none
 n_bool:mg "bool"=none
 n_int:mg "int"=none
 n_isinstance:mg "isinstance"=none
 n_len:mg "len"=none
 n_list:mg "list"=none
 n_range:mg "range"=none
 n_str:mg "str"=none
 n_tuple:mg "tuple"=none
 c_LETTERS:∃t,mg "LETTERS"=some (.str "abcdefghijklmnopqrstuvwxyz" t)
 c_LONGEST_NAME:∃t,mg "LONGEST_NAME"=some (.int 6 t)
 c_KIND_OF:Jb P w K mg "KIND_OF" [("[","open"),("(","ring")]
 c_CLOSE_OF:Jb P w K mg "CLOSE_OF" [("[","]"),("(",")")]
abbrev pE:Stmt:=D0 (top 11) 0
theorem CS:FnScope Jd Jd (ak pE):=gQ (by decide +kernel)
abbrev lY:Stmt:=D0 (top 10) 0
theorem CT:FnScope ["self"] ["self"] (ak lY):=gQ (by decide +kernel)
structure Zs (K:PySem.W.Frag) (mg:Str->Option Value) (cC cB c_Lacks c_NoName:Addr):Prop where
 m_Lacks:mg "Lacks"=some (.ref c_Lacks)
 m_NoName:mg "NoName"=some (.ref c_NoName)
 k_Twice:PySem.W.kitOne K (.ref cC) (.ref cC)=some true
 j_Twice:PySem.W.kitOne K (.ref cB) (.ref cC)=some false
 k_BadText:PySem.W.kitOne K (.ref cC) (.ref cB)=some false
 j_BadText:PySem.W.kitOne K (.ref cB) (.ref cB)=some true
 k_Lacks:PySem.W.kitOne K (.ref cC) (.ref c_Lacks)=some false
 j_Lacks:PySem.W.kitOne K (.ref cB) (.ref c_Lacks)=some false
 k_NoName:PySem.W.kitOne K (.ref cC) (.ref c_NoName)=some false
 j_NoName:PySem.W.kitOne K (.ref cB) (.ref c_NoName)=some false
 k_VE:PySem.W.kitOne K (.ref cC) (.type "ValueError")=some true
 j_VE:PySem.W.kitOne K (.ref cB) (.type "ValueError")=some true
def Z2 (a b:Addr):Addr->Prop:=fun c=>c=a∨c=b
theorem IC {K:PySem.W.Frag} {a b s:Addr} (h:PySem.W.exmOne K (.ref a) (.ref s)=some true) (h2:PySem.W.exmOne K (.ref b) (.ref s)=some true):∀c,Z2 a b c->PySem.W.exmOne K (.ref c) (.ref s)=some true:=fun c z=>by
 rcases z with rfl|rfl
 ·exact h
 ·exact h2
theorem ID {K:PySem.W.Frag} {a b:Addr} (h:PySem.W.nsIn K mainGlobals "Twice"=some (some (.ref a))) (h2:PySem.W.nsIn K mainGlobals "BadText"=some (some (.ref b))):∀c∈(["Twice","BadText"]:List Str),∀C,PySem.W.nsIn K mainGlobals c=some (some (.ref C))->Z2 a b C:=fun c hc C z=>by
 rcases Vc.mp hc with rfl|hc
 ·rw[h]at z;cases z;exact .inl rfl
 ·obtain rfl:=Wb.mp hc;rw[h2]at z;cases z;exact .inr rfl
end K06
namespace VF
open PySem L2
theorem uh {i j:Int} (h:CMul i j):mi (.int i) (.int j)=some (.int (i*j),false):=by
 have:uW (.int i) (.int j)=some (.int (i*j),false):=by
  show(if CMul i j then some (D.int (i*j),false) else none)=_;rw[Ad h]
 unfold mi lN;rw[this]
theorem zm {i j:Int} (h:0<j):nj (.int i) (.int j)=some (.int (i % j),false):=by
 show(if 0<j then some (D.int (i % j),false) else none)=_;rw[Ad h]
theorem Gm {i j:Int} (h:tj i j):tJ (.int i) (.int j)=some (.int (i / j),false):=by
 show(if tj i j then some (D.int (i / j),false) else none)=_;rw[Ad h]
theorem dI {ds:List D} {i:Int} {d:D} (h:i8 ds i=some d):cM (.lst ds) (.int i)=some (d,false):=by
 have:yc (.lst ds) (.int i)=some (d,false):=by
  show(i8 ds i).bind (fun d=>some (d,false))=_;rw[h];rfl
 unfold cM lN;rw[this]
theorem ix_tup {ds:List D} {i:Int} {d:D} (h:i8 ds i=some d):cM (.tup ds) (.int i)=some (d,false):=by
 have e1:yc (.tup ds) (.int i)=none:=rfl;have:B9 (.tup ds) (.int i)=some (d,false):=by
  show(i8 ds i).bind (fun d=>some (d,false))=_;rw[h];rfl
 unfold cM lN;rw[e1,this]
theorem cH {f:FT} {st s:En} {b c:Bool} (h:f st=some (b,s)) (e:b=c):f st=some (c,s):=e ▸ h
theorem qL {mm:D->D->D->Option D} {fe fi:FE} {i:Nat} {st s1 s2 s3:En} {r rk:Rs} {dv dk z z':D} {t t0:Sl} {x0:D} (h1:fe st=some (r,s1)) (h2:esc r s1=some (dv,s2)) (h0:s2[i]?=some t0) (h00:t0.ow=some x0) (h3:fi s2=some (rk,s3)) (h4:cont s3 rk=some dk) (h5:s3[i]?=some t) (h6:t.ow=some z) (h7:mm z dk dv=some z') {s4:En} (h8:s3.set i (t.put z')=s4:=by rfl):oB mm fe i fi st=some (.nx s4):=by
 simp only[oB,h1,h2,h0,h00,h3,h4,h5,h6,h7,h8,Za]
end VF
namespace K06
open PySem L2 VF
def Fl (ns:List Int) (i m sd c:Int):D:=.lst [.lst (ns.map D.int),.int i,.int m,.int sd,.int c]
def bH (φ:D):Prop:=∃ns i m sd c,φ=Fl ns i m sd c/\0<=i/\0<=m/\0<=sd/\0<=c
theorem CU (ns:List Int):jC [.fl (ns.map D.int)]=some (Fl ns 0 0 1 0,true):=rfl
theorem bC {φ : D} {n : Int} (hφ : bH φ) (h0 : 0 < n) (h1 : n ≤ 1000) : ∃ d φ', ax φ [.int n] = some ((.int d, false), φ') ∧ 0 ≤ d ∧ d < n ∧ bH φ' := by
  obtain ⟨ns, i, m, sd, c, rfl, hi, hm, hs, hc⟩ := hφ;have sp : ∃ A B, jD = aH A B ∧
     (∃ o i' m' sd', A [.io (Fl ns i m sd c), .v (.int n), .e, .e] = some (.nx [.io (Fl ns i' m' sd' c), .v (.int n), o, .e]) ∧ 0 ≤ i' ∧ 0 ≤ m' ∧ 0 ≤ sd') ∧
     (∀ o i m sd, 0 ≤ i → 0 ≤ m → 0 ≤ sd → ∃ d φ' s3, B [.io (Fl ns i m sd c), .v (.int n), o, .e] = some (.rt (.d (.int d)) [.io φ', .v (.int n), o, s3]) ∧ 0 ≤ d ∧ d < n ∧ bH φ') := by
    refine ⟨_, _, rfl, ?_, ?_⟩
    · by_cases c1 : m = 0
      · subst c1
        by_cases c2 : i < ((ns.map D.int).length : Int)
        · obtain ⟨v, hv, hm', _⟩ := gK hi c2
          obtain ⟨z, _, rfl⟩ := List.mem_map.mp hm';have t2 : hX (aE (aL rj (aL cM (aJ 0) (fC (.int 2))) (fC (.int 0)))) (aE (aL G5 (aL cM (aJ 0) (fC (.int 1))) (d6 fT (ab (aL cM (aJ 0) (fC (.int 0))) aj)))) [.io (Fl ns i 0 sd c), .v (.int n), .e, .e] = some (true, [.io (Fl ns i 0 sd c), .v (.int n), .e, .e]) :=
            jc rfl (cH (b := decide (i < ((ns.map D.int).length : Int))) rfl (Af c2))
          by_cases c3 : (10 : Int) ^ (18 : Int).toNat ≤ z
          · have p18 : (0 : Int) ≤ 10 ^ (18 : Int).toNat := by decide
            refine ⟨.v (.int z), i + 1, z, sd, ?_, by lia, by lia, hs⟩
            refine eI t2 ?_;refine ai (bX (x := .int z) (ay rfl rfl rfl rfl (dI hv)) rfl) ?_;refine ai (s := [.io (Fl ns (i + 1) 0 sd c), .v (.int n), .v (.int z), .e]) rfl ?_;refine eI (cH (b := decide ((10 : Int) ^ (18 : Int).toNat ≤ z)) (s := [.io (Fl ns (i + 1) 0 sd c), .v (.int n), .v (.int z), .e]) rfl (Af c3)) ?_;rfl
          · refine ⟨.v (.int z), i + 1, 0, (sd * 40013 + z % 1000003 + 1) % 2147483647, ?_, by lia, by lia, AQ _ (by decide)⟩
            refine eI t2 ?_;refine ai (bX (x := .int z) (ay rfl rfl rfl rfl (dI hv)) rfl) ?_;refine ai (s := [.io (Fl ns (i + 1) 0 sd c), .v (.int n), .v (.int z), .e]) rfl ?_;refine eX (cH (b := decide ((10 : Int) ^ (18 : Int).toNat ≤ z)) (s := [.io (Fl ns (i + 1) 0 sd c), .v (.int n), .v (.int z), .e]) rfl (Ae c3)) ?_;exact qL (ay (ay (ay (ay rfl rfl rfl rfl (uh (j := 40013) (.inr ⟨by decide, by decide⟩))) rfl rfl rfl rfl) rfl rfl rfl rfl) rfl rfl rfl rfl) rfl rfl rfl rfl rfl rfl rfl rfl
        · refine ⟨.e, i, 0, sd, ?_, hi, hm, hs⟩
          exact eX (jc (s := [.io (Fl ns i 0 sd c), .v (.int n), .e, .e]) rfl (cH (b := decide (i < ((ns.map D.int).length : Int))) rfl (Ae c2))) rfl
      · refine ⟨.e, i, m, sd, ?_, hi, hm, hs⟩
        have e : decide (V.int m = V.int 0) = false := Ae fun z => c1 (V.int.inj z);exact eX (u7 (cH (b := decide (V.int m = V.int 0)) (s := [.io (Fl ns i m sd c), .v (.int n), .e, .e]) rfl e)) rfl
    · intro o i m sd hi hm hs
      by_cases c1 : 0 < m
      · refine ⟨m % n, Fl ns i (m / n) sd c, .v (.int (m % n)), ?_, AQ _ (by lia), Bg _ h0, ⟨ns, i, m / n, sd, c, rfl, hi, Int.ediv_nonneg hm (by lia), hs, hc⟩⟩
        refine gP ?_;refine eI (cH (b := decide (0 < m)) (s := [.io (Fl ns i m sd c), .v (.int n), o, .e]) rfl (Af c1)) ?_;refine ai (s := [.io (Fl ns i m sd c), .v (.int n), o, .v (.int (m % n))]) (bX (ay rfl rfl rfl rfl (zm h0)) rfl) ?_;refine ai (s := [.io (Fl ns i (m / n) sd c), .v (.int n), o, .v (.int (m % n))]) (qL (ay rfl rfl rfl rfl (Gm ⟨h0, by lia⟩)) rfl rfl rfl rfl rfl rfl rfl rfl) ?_
        rfl
      · refine ⟨(((sd * 48271 + 12820163 + (c + 1)) % 2147483647 % 65521 + 1) * ((sd * 48271 + 12820163 + (c + 1)) % 2147483647 / 65521 + 7919) % 1000003 / 7) % n, Fl ns i m ((sd * 48271 + 12820163 + (c + 1)) % 2147483647) (c + 1), .e, ?_, ?_, ?_, ⟨ns, i, m, _, _, rfl, hi, hm, AQ _ (by decide), by lia⟩⟩
        · refine ai (eX (cH (b := decide (0 < m)) (s := [.io (Fl ns i m sd c), .v (.int n), o, .e]) rfl (Ae c1)) rfl) ?_
          refine ai (s := [.io (Fl ns i m sd (c + 1)), .v (.int n), o, .e]) rfl ?_;refine ai (s := [.io (Fl ns i m ((sd * 48271 + 12820163 + (c + 1)) % 2147483647) (c + 1)), .v (.int n), o, .e]) (qL (ay (ay (ay (ay rfl rfl rfl rfl (uh (j := 48271) (.inr ⟨by decide, by decide⟩))) rfl rfl rfl rfl) rfl rfl rfl rfl) rfl rfl rfl rfl) rfl rfl rfl rfl rfl rfl rfl rfl) ?_
          have a := AQ ((sd * 48271 + 12820163 + (c + 1)) % 2147483647) (show (65521 : Int) ≠ 0 by decide)
          have b := Bg ((sd * 48271 + 12820163 + (c + 1)) % 2147483647) (show (0 : Int) < 65521 by decide)
          exact bL (ay (ay (ay (ay rfl rfl rfl rfl (uh (.inl ⟨by lia, by lia⟩))) rfl rfl rfl rfl) rfl rfl rfl rfl) rfl rfl rfl (zm h0))
        · exact AQ _ (by lia)
        · exact Bg _ h0
  obtain ⟨A, B, eF, ⟨o, i', m', sd', eA, hi', hm', hs'⟩, hB⟩ := sp;obtain ⟨d, φ', s3, eB, h2, h3, h4⟩ := hB o i' m' sd' hi' hm' hs';refine ⟨d, φ', ?_, h2, h3, h4⟩;refine bY (o := .rt (.d (.int d)) [.io φ', .v (.int n), o, s3]) rfl ?_ rfl;rw [eF];exact ai eA eB
end K06
namespace K06
open PySem L2 VF VL
theorem jI {φ:D} {k:Int} (hφ:bH φ) (h0:0<=k) (h1:k<=100):∃x φ',cW φ [.int k]=some ((.str x,false),φ')/\(x.length:Int)=k/\Lw x/\bH φ':=by
 have hE:(Str.ofString "").length=0:=by decide +kernel
 have cl:=pe (fg:=gN 0) (fc:=fD) (k:=1) (fe:=aL cM (fC (.str "abcdefghijklmnopqrstuvwxyz")) (d7 ax 1 (ab (fC (.int 26)) aj)))
  (fun pre sb=>∃φ' ys,sb=[.e,.io φ']/\bH φ'/\pre=ys.map D.str/\∀y∈ys,∃c,y=(⟨#[c]⟩:Str)/\97<=c/\c<=122) (by
   rintro pre x sb ⟨φ',ys,rfl,hf,rfl,hy⟩;obtain⟨d,φ2,e,d0,d1,hf2⟩:=bC (n:=26) hf (by decide) (by decide)
   obtain⟨c,hc,hm,_⟩:=gK (xs:=letS.cps.toList) d0 (by rw[nM,List.length_range'];exact d1)
   refine⟨[.v x,.io φ'],[.v x,.io φ'],.d (.str ⟨#[c]⟩),[.v x,.io φ2],.str ⟨#[c]⟩,[.v x,.io φ2],rfl,rfl,ay rfl (bA rfl rfl rfl rfl rfl rfl e) rfl rfl (ix_str (by decide +kernel) hc),rfl,φ2,ys++[⟨#[c]⟩],rfl,hf2,by rw[Ze];rfl,fun y hy2=>?_⟩
   rcases Vd.mp hy2 with z|z
   ·exact hy y z
   ·have:y=⟨#[c]⟩:=by simpa using z
    rw[nM,List.mem_range'_1]at hm
    exact⟨c,this,by lia⟩)
  (rng 0 k.toNat) [] [.e,.io φ] ⟨φ,[],rfl,hφ,rfl,fun y hy=>by cases hy⟩
 obtain⟨ds,sf,e1,e2,φ',ys,rfl,hf,e3,hy⟩:=cl;rw[Qi]at e3;subst e3;rw[f7,Ya]at e2;have hy':∀y∈ys,∃c,y=(⟨#[c]⟩:Str):=fun y h=>by obtain⟨c,e,_⟩:=hy y h;exact⟨c,e⟩
 refine⟨Txt.join (Str.ofString "") ys,φ',?_,by rw[join_ones hy'];lia,zc hy,hf⟩
 have hj:yj (.str "") [.lst (ys.map D.str)]=some (.str (Txt.join (Str.ofString "") ys),false):=by
  show(kU (ys.map D.str)).bind (fun ys=>if (ys.map (·.length)).sum+ys.length*(Str.ofString "").length<=16777216 then some (D.str (Txt.join (Str.ofString "") ys),false) else none)=_;rw[nu];show(if _ then _ else _)=_;rw[Ad (by rw[zd hy',hE];lia)]
 refine bY (o:=.rt (.d (.str (Txt.join (Str.ofString "") ys))) [.io φ',.v (.int k)]) rfl ?_ rfl
 exact bL (yv rfl rfl rfl (aA (f8 (j9 rfl rfl ⟨by lia,by lia⟩) (by
  show(true&&decide ((rng 0 k.toNat).length<=1000000))=true
  rw[f7,Af (by lia)];rfl) e1) rfl) rfl rfl hj)
abbrev w1:List Str:=["to","turn","turns","ring","rings","odd","ours","row","rows","cuts","knots","cover"]
abbrev w2:List Str:=["change","joins","theirs","one","two","home","none","open","keep","tox","onex"]
abbrev wordsS:List Str:=w1++w2
def okN (x:Str):Bool:=decide (1<=x.length/\x.length<=6)&&x.cps.toList.all fun c=>decide (97<=c/\c<=122)
theorem Gn {x:Str} (h:okN x=true):Nm x:=by
 unfold okN at h;rw[We,decide_eq_true_eq,Xg]at h;exact⟨h.1.1,h.1.2,fun c hc=>Ap (h.2 c hc)⟩
theorem zn:∀v∈wordsS,okN v=true:=Xg.mp (by decide +kernel)
theorem CV {φ:D} {st:Str} (hφ:bH φ) (hst:st.length<=4) (lst:Lw st):∃x φ',jE φ [.str st]=some ((.str x,false),φ')/\Nm x/\bH φ':=by
 by_cases c0:st=""
 ·subst c0;obtain⟨d,φ1,e1,d0,d1,f1⟩:=bC (n:=7) hφ (by decide) (by decide)
  by_cases c1:d=0
  ·subst c1;obtain⟨d2,φ2,e2,d20,d21,f2⟩:=bC (n:=23) f1 (by decide) (by decide)
   obtain⟨v,hv,hm,_⟩:=gK (xs:=wordsS.map D.str) d20 (by rw[Ya];exact d21)
   obtain⟨x,hx,rfl⟩:=Wc.mp hm;refine⟨x,φ2,?_,Gn (zn x hx),f2⟩;refine bY (o:=.rt (.d (.str x)) [.io φ2,.v (.str ""),.o (.lst (wordsS.map D.str))]) rfl ?_ rfl;refine ai (s:=[.io φ,.v (.str ""),.e]) rfl ?_;refine gP ?_;refine eI (s:=[.io φ1,.v (.str ""),.e]) (aD (ay (bA rfl rfl rfl rfl rfl rfl e1) rfl rfl rfl rfl) rfl) ?_;refine ai (s:=[.io φ1,.v (.str ""),.o (.lst (w1.map D.str))]) rfl ?_;refine ai (s:=[.io φ1,.v (.str ""),.o (.lst (wordsS.map D.str))]) rfl ?_;exact bL (ay rfl (bA rfl rfl rfl rfl rfl rfl e2) rfl rfl (dI hv))
  ·obtain⟨d2,φ2,e2,d20,d21,f2⟩:=bC (n:=6) f1 (by decide) (by decide)
   obtain⟨x,φ3,e3,hx,lx,f3⟩:=jI (k:=1+d2) f2 (by lia) (by lia)
   refine⟨x,φ3,?_,⟨by lia,by lia,lx⟩,f3⟩
   refine bY (o:=.rt (.d (.str x)) [.io φ3,.v (.str ""),.e]) rfl ?_ rfl;refine ai (s:=[.io φ,.v (.str ""),.e]) rfl ?_;have t:decide (V.int d=V.int 0)=false:=Ae fun z=>c1 (V.int.inj z);refine ai (eX (s:=[.io φ1,.v (.str ""),.e]) (cH (b:=decide (V.int d=V.int 0)) (aD (ay (bA rfl rfl rfl rfl rfl rfl e1) rfl rfl rfl rfl) rfl) t) rfl) ?_;exact bL (bA rfl rfl (aA (ay rfl (bA rfl rfl rfl rfl rfl rfl e2) rfl rfl rfl) rfl) rfl rfl rfl e3)
 ·obtain⟨d,φ1,e1,d0,d1,f1⟩:=bC (n:=2) hφ (by decide) (by decide)
  obtain⟨x,φ2,e2,hx,lx,f2⟩:=jI (k:=1+d) f1 (by lia) (by lia)
  refine⟨st++x,φ2,?_,⟨by rw[An];lia,by rw[An];lia,lst.app lx⟩,f2⟩
  refine bY (o:=.rt (.d (.str (st++x))) [.io φ2,.v (.str st),.e]) rfl ?_ rfl;refine gP ?_;have t:(!decide (V.str st=V.str ""))=true:=by rw[Ae (fun z=>c0 (V.str.inj z))];rfl
  refine eI (s:=[.io φ,.v (.str st),.e]) (cH (b:=!decide (V.str st=V.str "")) rfl t) ?_;exact bL (ay rfl (bA rfl rfl (aA (ay rfl (bA rfl rfl rfl rfl rfl rfl e1) rfl rfl rfl) rfl) rfl rfl rfl e2) rfl rfl (iX (by lia)))
end K06
namespace VF
open PySem L2
theorem cb {i:Nat} {s t:Sl} {st s1:En} (h:st[i]?=some t) (n:t.isIo=false) (e:st.set i s=s1:=by rfl):ng i s st=some s1:=by
 unfold ng;rw[h];show(if t.isIo=true then none else some (st.set i s))=_;rw[Ag (by rw[n];decide),e]
theorem eN {xs:List D} {y:D} (h:xs.length<1000000):cj (.lst xs) [y]=some (.non,.lst (xs++[y])):=by
 show(if xs.length<1000000 then some (D.non,D.lst (xs++[y])) else none)=_;rw[Ad h]
theorem zo {xs:List D} {i:Int} (h0:0<=i) (h1:i<xs.length) (h2:xs.length<=1000000) (hk:i.toNat<xs.length):qi (.lst xs) [.int i]=some (xs[i.toNat],.lst (xs.eraseIdx i.toNat)):=by
 show(if -(2 ^ 63)<=i/\i<2 ^ 63 then(seqIndex? i xs.length).bind fun k=>(xs[k]?).bind fun y=>some (y,D.lst (xs.eraseIdx k)) else none)=_;rw[Ad ⟨by lia,by lia⟩,PySem.seqIndex_of h0 h1]
 show(xs[i.toNat]?).bind (fun y=>some (y,D.lst (xs.eraseIdx i.toNat)))=_;rw[Zc hk];rfl
theorem qM {α:Type} {f:α->D} {g:D->α} (hg:∀a,g (f a)=a) {ys:List D} {xs:List α} (p:ys.Perm (xs.map f)):∃zs:List α,ys=zs.map f/\zs.Perm xs:=by
 have h1:∀y∈ys,∃z,y=f z:=fun y hy=>by
  obtain⟨z,_,rfl⟩:=Wc.mp (p.mem_iff.mp hy);exact⟨z,rfl⟩
 refine⟨ys.map g,?_,?_⟩
 ·rw[Vi];refine(Bk ys).symm.trans (Zl fun y hy=>?_);obtain⟨z,rfl⟩:=h1 y hy;show f z=f (g (f z));rw[hg]
 ·have:=p.map g;rw[Vi]at this;refine this.trans (List.Perm.of_eq ?_);exact(Zl fun z _=>hg z).trans (Bk xs)
end VF
namespace K06
open PySem L2 VF VL
theorem zp {φ:D} {n:Int} (hφ:bH φ) (h0:0<=n) (h1:n<=100):∃(xs:List Str) (φ':D),iI φ [.int n]=some ((.lst (xs.map D.str),true),φ')/\(xs.length:Int)=n/\(∀x∈xs,Nm x)/\xs.Nodup/\bH φ':=by
 obtain⟨d,φ1,e1,d0,d1,f1⟩:=bC (n:=3) hφ (by decide) (by decide)
 have sp:∃A B C R,iH=aH A (aH B (aH C R)) /\
   (∃st φ2,A [.io φ,.v (.int n),.e,.e,.e,.e,.e]=some (.nx [.io φ,.v (.int n),.v (.str ""),.e,.e,.e,.e])/\B [.io φ,.v (.int n),.v (.str ""),.e,.e,.e,.e]=some (.nx [.io φ2,.v (.int n),.v (.str st),.e,.e,.e,.e]) /\
    C [.io φ2,.v (.int n),.v (.str st),.e,.e,.e,.e]=some (.nx [.io φ2,.v (.int n),.v (.str st),.o (.lst []),.e,.e,.e])/\bH φ2/\st.length<=4/\Lw st) /\
   (∀st φ2,bH φ2->st.length<=4->Lw st->∃(xs:List Str) (φ':D) (o4 o5 o6:Sl),R [.io φ2,.v (.int n),.v (.str st),.o (.lst []),.e,.e,.e]=some (.rt (.s 3) [.io φ',.v (.int n),.v (.str st),.o (.lst (xs.map D.str)),o4,o5,o6])/\(xs.length:Int)=n/\(∀x∈xs,Nm x)/\xs.Nodup/\bH φ'):=by
  refine⟨_,_,_,_,rfl,?_,?_⟩
  ·by_cases c:d=0
   ·subst c;obtain⟨d2,φ2,e2,d20,d21,f2⟩:=bC (n:=4) f1 (by decide) (by decide)
    obtain⟨x,φ3,e3,hx,lx,f3⟩:=jI (k:=1+d2) f2 (by lia) (by lia)
    refine⟨x,φ3,rfl,?_,rfl,f3,by lia,lx⟩
    refine eI (s:=[.io φ1,.v (.int n),.v (.str ""),.e,.e,.e,.e]) (aD (ay (bA rfl rfl rfl rfl rfl rfl e1) rfl rfl rfl rfl) rfl) ?_;exact bX (bA rfl rfl (aA (ay rfl (bA rfl rfl rfl rfl rfl rfl e2) rfl rfl rfl) rfl) rfl rfl rfl e3) rfl
   ·refine⟨"",φ1,rfl,?_,rfl,f1,by decide +kernel,ze⟩
    have t:decide (V.int d=V.int 0)=false:=Ae fun z=>c (V.int.inj z);exact eX (s:=[.io φ1,.v (.int n),.v (.str ""),.e,.e,.e,.e]) (cH (b:=decide (V.int d=V.int 0)) (aD (ay (bA rfl rfl rfl rfl rfl rfl e1) rfl rfl rfl rfl) rfl) t) rfl
  ·intro st φ2 f2 hst lst
   have lp:∀(fg:FG) (B:FS),fg=gN 4->(∀(φ':D) (xs:List Str) (k:D) (o5 o6:Sl),bH φ'->xs.length<=200->(∀x∈xs,Nm x)->xs.Nodup->xs.length<=110->o5.isIo=false->o6.isIo=false ->
     ∃φ2 x o6',B [.io φ',.v (.int n),.v (.str st),.o (.lst (xs.map D.str)),.v k,o5,o6]=some (.nx [.io φ2,.v (.int n),.v (.str st),.o (.lst ((xs++[x]).map D.str)),.v k,.v (.str x),.v o6'])/\bH φ2/\Nm x/\x∉xs) ->
     ∃(xs:List Str) (φ':D) (o4 o5 o6:Sl),aH (jY (qa (ab (aJ 1) aj)) fg B) (bG (aJ 3)) [.io φ2,.v (.int n),.v (.str st),.o (.lst []),.e,.e,.e]=some (.rt (.s 3) [.io φ',.v (.int n),.v (.str st),.o (.lst (xs.map D.str)),o4,o5,o6])/\(xs.length:Int)=n/\(∀x∈xs,Nm x)/\xs.Nodup/\bH φ':=by
    intro fg B hfg hB;subst hfg;obtain⟨sf,e,φ',xs,o4,o5,o6,rfl,hf,hl,hx,nd,_⟩:=ke (fg:=gN 4) (B:=B) (rng 0 n.toNat) (fun gone s=>∃(φ':D) (xs:List Str) (o4 o5 o6:Sl),s=[.io φ',.v (.int n),.v (.str st),.o (.lst (xs.map D.str)),o4,o5,o6]/\bH φ'/\xs.length=gone.length/\(∀x∈xs,Nm x)/\xs.Nodup/\o4.isIo=false/\o5.isIo=false/\o6.isIo=false)
     (fun gone x rest s ha zz8=>by
      obtain⟨φ',xs,o4,o5,o6,hs,hf,hl,hx,nd,q4,q5,q6⟩:=zz8;subst hs;have hg:=congrArg List.length ha;rw[f7,Xa,Yc]at hg;obtain⟨φ3,y,o6',eB,f3,ny,hy⟩:=hB φ' xs x o5 o6 hf (by lia) hx nd (by lia) q5 q6
      refine⟨_,_,cb rfl q4,eB,φ3,xs++[y],.v x,.v (.str y),.v o6',rfl,f3,by simp[hl],fun z hz=>?_,?_,rfl,rfl,rfl⟩
      ·rcases Vd.mp hz with w|w
       ·exact hx z w
       ·have:z=y:=by simpa using w
        rw[this];exact ny
      ·rw[List.nodup_append]
       exact⟨nd,by simp,fun a ha b hb e=>by
        have:b=y:=by simpa using hb
        subst this;subst e;exact hy ha⟩) (rng 0 n.toNat) [] [.io φ2,.v (.int n),.v (.str st),.o (.lst []),.e,.e,.e] rfl ⟨φ2,[],.e,.e,.e,rfl,f2,rfl,fun x hx=>(by cases hx),List.nodup_nil,rfl,rfl,rfl⟩
    rw[f7]at hl;exact⟨xs,φ',o4,o5,o6,ai (fI (j9 rfl rfl ⟨by lia,by lia⟩) e) rfl,by lia,hx,nd,hf⟩
   refine lp _ _ rfl ?_;intro φ' xs k o5 o6 hf _ hx nd hl q5 q6;obtain⟨x,φ3,e3,nx,f3⟩:=CV hf hst lst;obtain⟨sf,ew,s',y,rfl,ny,hy⟩:=tP (f:=aE (aL wx (aJ 5) (aJ 3))) (B:=aH (aY (aL mi (aL cM (fC (.str "abcdefghijklmnopqrstuvwxyz")) (aL nj (aJ 6) (fC (.int 26)))) (aL cP (fC (.int 1)) (aL tJ (aJ 6) (fC (.int 26))))) 5) (aY (aL cP (aJ 6) (fC (.int 1))) 6))
    (fun m s=>∃(j:Nat) (x:Str),s=[.io φ3,.v (.int n),.v (.str st),.o (.lst (xs.map D.str)),.v k,.v (.str x),.v (.int j)]/\Nm x/\m+j=xs.length+2/\j<=xs.length+1/\(∀i,i+1<j->word i∈xs)/\(j=0∨x=word (j-1)))
    (fun s=>∃(j:Nat) (x:Str),s=[.io φ3,.v (.int n),.v (.str st),.o (.lst (xs.map D.str)),.v k,.v (.str x),.v (.int j)]/\Nm x/\x∉xs)
    (by
     rintro m s ⟨j,x,rfl,nx,hm,hj,hw,hxj⟩;by_cases c:x∈xs
     ·right;have hall:∀i,i<j->word i∈xs:=fun i hi=>by
       rcases hxj with z|z
       ·lia
       ·by_cases e:i+1<j
        ·exact hw i e
        ·have:i=j-1:=by lia
         rw[this,← z];exact c
      have hle:=wP hall;obtain⟨m',rfl⟩:∃m',m=m'+1:=⟨m-1,by lia⟩
      have d0:(0:Int)<=1+(j:Int) / 26:=Int.add_nonneg (by decide) (Int.ediv_nonneg (Bf j) (by decide))
      have d1:1+(j:Int) / 26<=1000:=Int.le_trans (Int.add_le_add_left (Int.ediv_le_self 26 (Bf j)) 1) (by lia)
      refine⟨_,[.io φ3,.v (.int n),.v (.str st),.o (.lst (xs.map D.str)),.v k,.v (.str (word j)),.v (.int ((j+1:Nat):Int))],m',cH (aD (ay rfl rfl rfl rfl u9) rfl) (Af c),?_,AZ _,j+1,word j,rfl,CL (by lia),by lia,Nat.succ_le_succ hle,fun i hi=>hall i (by lia),.inr rfl⟩
      refine ai (s:=[.io φ3,.v (.int n),.v (.str st),.o (.lst (xs.map D.str)),.v k,.v (.str (word j)),.v (.int j)]) (bX (ay (ay rfl rfl rfl rfl (ix_str (by decide +kernel) (Gf j))) (ay rfl rfl rfl rfl rfl) rfl rfl (u8 ⟨d0,d1,(by show 1<=1000;decide)⟩)) rfl) ?_
      rfl
     ·left
      exact⟨_,cH (aD (ay rfl rfl rfl rfl u9) rfl) (Ae c),j,x,rfl,nx,c⟩)
    200 (xs.length+2) [.io φ3,.v (.int n),.v (.str st),.o (.lst (xs.map D.str)),.v k,.v (.str x),.v (.int 0)] (by lia) ⟨0,x,rfl,nx,rfl,Vj _,fun i hi=>absurd hi (by lia),.inl rfl⟩
   refine⟨φ3,y,.int s',?_,f3,ny,hy⟩;refine ai (bX (bA rfl rfl rfl rfl rfl rfl e3) (cb rfl q5)) ?_;refine ai (bX (x:=.int 0) rfl (cb rfl q6)) ?_;refine ai ew ?_;refine b9 (ju rfl rfl rfl rfl rfl rfl rfl (eN (by rw[Ya];lia)) ?_)
   rw[Ze];rfl
 obtain⟨A,B,C,R,eF,⟨st,φ2,eA,eB,eC,f2,hst,lst⟩,hR⟩:=sp;obtain⟨xs,φ',o4,o5,o6,eR,hl,hx,nd,hf⟩:=hR st φ2 f2 hst lst;refine⟨xs,φ',?_,hl,hx,nd,hf⟩;refine bY (o:=.rt (.s 3) [.io φ',.v (.int n),.v (.str st),.o (.lst (xs.map D.str)),o4,o5,o6]) rfl ?_ rfl;rw[eF];exact ai eA (ai eB (ai eC eR))
theorem CW {φ:D} {xs:List D} (hφ:bH φ) (hx:xs.length<=200):∃(ys:List D) (φ':D),fK φ [.lst xs]=some ((.lst ys,true),φ')/\ys.Perm xs/\bH φ':=by
 obtain⟨sf,ew,ts,φ',rfl,pm,hf⟩:=tP (f:=aE (aL o7 (aJ 2) (bU aj))) (B:=cJ (fM mH cj 3 (ab (fM mH qi 2 (ab (d7 ax 0 (ab (d6 fT (ab (aJ 2) aj)) aj)) aj)) aj)))
  (fun m s=>∃(ls ts:List D) (φ':D),s=[.io φ',.v (.lst xs),.o (.lst ls),.o (.lst ts)]/\bH φ'/\(ts++ls).Perm xs/\m=ls.length)
  (fun s=>∃(ts:List D) (φ':D),s=[.io φ',.v (.lst xs),.o (.lst []),.o (.lst ts)]/\ts.Perm xs/\bH φ')
  (by
   rintro m s ⟨ls,ts,φ',rfl,hf,pm,rfl⟩;have hlen:ts.length+ls.length=xs.length:=by have:=pm.length_eq;rw[Xa]at this;exact this
   cases ls with
   | nil =>
    rw[Xc]at pm;exact .inl ⟨_,rfl,ts,φ',rfl,pm,hf⟩
   | cons y lr =>
    right;have hl0:(y::lr).length=lr.length+1:=rfl;obtain⟨d,φ2,e,d0,d1,f2⟩:=bC (n:=((y::lr).length:Int)) hf (by lia) (by lia)
    have hk:d.toNat<(y::lr).length:=by lia
    refine⟨_,[.io φ2,.v (.lst xs),.o (.lst ((y::lr).eraseIdx d.toNat)),.o (.lst (ts++[(y::lr)[d.toNat]]))],((y::lr).eraseIdx d.toNat).length,rfl,?_,?_,_,_,φ2,rfl,f2,?_,rfl⟩
    ·exact b9 (ju rfl rfl rfl (aA (ju rfl rfl rfl (aA (bA rfl rfl rfl rfl rfl rfl e) rfl) rfl rfl rfl (zo d0 d1 (by lia) hk)) rfl) rfl rfl rfl (eN (by lia)))
    ·rw[List.length_eraseIdx_of_lt hk];lia
    ·refine List.Perm.trans ?_ pm;rw[Wd]
     exact List.Perm.append_left ts (nN hk))
  300 xs.length [.io φ,.v (.lst xs),.o (.lst xs),.o (.lst [])] (by lia) ⟨xs,[],φ,rfl,hφ,List.Perm.refl _,rfl⟩
 refine⟨ts,φ',?_,pm,hf⟩;refine bY (o:=.rt (.s 3) [.io φ',.v (.lst xs),.o (.lst []),.o (.lst ts)]) rfl ?_ rfl;refine ai (s:=[.io φ,.v (.lst xs),.o (.lst xs),.e]) rfl ?_;refine ai (s:=[.io φ,.v (.lst xs),.o (.lst xs),.o (.lst [])]) rfl ?_;exact ai ew rfl
end K06
namespace VF
open PySem L2
theorem sI (xs:List D):iW [.lst xs]=some (.tup xs,false):=rfl
theorem Gp {xs ys:List D} (h:xs.length+ys.length<=1000000):qo (.lst xs) [.tup ys]=some (.non,.lst (xs++ys)):=by
 show(if xs.length+ys.length<=1000000 then some (D.non,D.lst (xs++ys)) else none)=_;rw[Ad h]
end VF
namespace K06
open PySem L2 VF VL
abbrev aM (p:Bool×Str):D:=.str (bd p)
abbrev bj:=Bool×List (Bool×Str)
def kd (r:Bool):Str:=if r then "ring" else "open"
def kB (s:bj):D:=.tup [.str (kd s.1),.tup (s.2.map aM)]
theorem fP {p:Bool×Str} (h:Nm p.2):(bd p).length<=1000000:=by have:=(ll h).2;lia
theorem CY {φ:D} {xs:List Str} (hφ:bH φ) (hx:xs.length<=200) (nm:∀x∈xs,Nm x):∃(ps:List (Bool×Str)) (φ':D),jF φ [.lst (xs.map D.str)]=some ((.tup (ps.map aM),false),φ')/\(ps.map (·.2)).Perm xs/\bH φ':=by
 obtain⟨ys,φ1,e1,pm,f1⟩:=CW (xs:=xs.map D.str) hφ (by rw[Ya];exact hx)
 obtain⟨zs,rfl,pz⟩:=qM (g:=fun d=>match d with|.str z=>z|_=>Str.empty) (fun _=>rfl) pm
 have hzl:=pz.length_eq;have nz:∀z∈zs,Nm z:=fun z hz=>nm z (pz.mem_iff.mp hz);obtain⟨ds,sf,ec,φ2,ps,rfl,f2,e3,e4⟩:=ph (fg:=gN 0) (fc:=fD) (k:=1) (fe:=aL cP (aL mi (fC (.str "-")) (d7 ax 1 (ab (fC (.int 2)) aj))) (aJ 0)) (zs.map D.str)
  (fun gone pre sb=>∃(φ':D) (ps:List (Bool×Str)),sb=[.e,.io φ']/\bH φ'/\pre=ps.map aM/\gone=(ps.map (·.2)).map D.str)
  (by
   rintro gone x rest pre sb ha ⟨φ',ps,rfl,hf,rfl,rfl⟩;obtain⟨d,φ2,e,d0,d1,f2⟩:=bC (n:=2) hf (by decide) (by decide)
   have hxm:x∈zs.map D.str:=by rw[ha];simp
   obtain⟨z,hz,rfl⟩:=Wc.mp hxm;have hm:=wQ (d:=d) (n:=z) d0 d1;refine⟨[.v (.str z),.io φ'],[.v (.str z),.io φ'],.d (aM (decide (d=1),z)),[.v (.str z),.io φ2],aM (decide (d=1),z),[.v (.str z),.io φ2],rfl,rfl,?_,rfl,φ2,ps++[(decide (d=1),z)],rfl,f2,by rw[Ze];rfl,by rw[Ze,Ze];rfl⟩
   refine ay (ay rfl (bA rfl rfl rfl rfl rfl rfl e) rfl rfl (u8 ⟨d0,by lia,by decide +kernel⟩)) rfl rfl rfl (iX ?_) ?_
   ·have:=(ll (p:=(decide (d=1),z)) (nz z hz)).2;rw[← hm,An]at this;show(Txt.mul minus d).length+z.length<=_;lia
   ·show Rs.d (D.str (Txt.mul minus d++z))=_
    rw[hm])
  (zs.map D.str) [] [] [.e,.io φ1] rfl ⟨φ1,[],rfl,f1,rfl,rfl⟩
 rw[Qi]at e3;subst e3;have e5:zs=ps.map (·.2):=by
  have:=congrArg (List.map (fun d:D=>match d with|.str z=>z|_=>Str.empty)) e4
  rw[Vi,Vi]at this;exact((Bk zs).symm.trans this).trans (Bk _)
 refine⟨ps,φ2,?_,by rw[← e5];exact pz,f2⟩
 refine bY (o:=.rt (.d (.tup (ps.map aM))) [.io φ2,.v (.lst (xs.map D.str))]) rfl ?_ rfl;refine bL (ef (aA (f8 (kc (bA rfl rfl rfl rfl rfl rfl e1) rfl) ?_ ec) rfl) rfl rfl);show(true&&decide ((zs.map D.str).length<=1000000))=true;rw[Ya,Af (by lia)];rfl
end K06
namespace VF
open PySem L2
theorem pF {α:Type} (f:α->Bool):∀xs:List α,j5 (xs.map fun x=>D.bl (f x))=some (xs.map f)
 | []=>rfl
 | x::r=>by
  show(j5 (r.map fun x=>D.bl (f x))).bind _=_;rw[pF f r];rfl
theorem zq {α:Type} (f:α->Bool) (xs:List α):tM [.lst (xs.map fun x=>D.bl (f x))]=some (.bl (xs.all f),false):=by
 show(j5 _).bind _=_;rw[pF];show some (D.bl ((xs.map f).all id),false)=_;rw[List.all_map];rfl
end VF
namespace K06
open PySem L2 VF VL VF22
noncomputable section
def Ha (c:Nat):Bool:=!(Builtin.Str.occurrences ("abcdefghijklmnopqrstuvwxyz":Str) ⟨#[c]⟩ 0 ("abcdefghijklmnopqrstuvwxyz":Str).length 1).isEmpty
theorem CZ:∀c:Nat,c<123->97<=c->Ha c=true:=by decide +kernel
def Gq (x:Str):Bool:=(decide (1<=x.length)&&decide (x.length<=6))&&x.cps.toList.all Ha
theorem Gr {x:Str} (h:Nm x):Gq x=true:=by
 obtain⟨h1,h2,h3⟩:=h;unfold Gq;rw[Af h1,Af h2];simp only[Bool.and_self,Bool.true_and];rw[Xg];intro c hc;have:=h3 c hc;exact CZ c (by lia) this.1
theorem len_str {x:Str} (h:x.length<=1000000):fT [.str x]=some (.int (x.length:Int),false):=by
 first
  | rfl
  | (unfold fT G2;simp[ye,D.seq,yf,h])
theorem zr {x:Str} (h:x.length<=1000000):ln [.str x]=some (.bl (Gq x),false):=by
 have hc:eQ 1 [] (ml (aJ 0)) (gN 0) fD (aL wx (aJ 0) (fC (.str "abcdefghijklmnopqrstuvwxyz"))) [.v (.str x)]=some (.f (.lst (x.cps.toList.map fun c=>D.bl (Ha c))),[.v (.str x)]):=by
  refine f8 (s1:=[.v (.str x)]) (ds:=nh x) (s2:=[.e]) rfl (by
   have:(nh x).length=x.length:=by unfold nh;rw[Ya,Qf];rfl
   rw[this,Af h];rfl) ?_
  exact jw (fun c=>D.str ⟨#[c]⟩) (fun c=>D.bl (Ha c)) [.e] x.cps.toList fun c _=>⟨[.v (.str ⟨#[c]⟩)],[.v (.str ⟨#[c]⟩)],.d (.bl (Ha c)),[.v (.str ⟨#[c]⟩)],[.v (.str ⟨#[c]⟩)],rfl,rfl,ay rfl rfl rfl rfl rfl,rfl,rfl⟩
 have ch:aE (p9 Fe Fe (fC (.int 1)) (d6 fT (ab (aJ 0) aj)) (fC (.int 6))) [.v (.str x)]=some (decide (1<=x.length)&&decide (x.length<=6),[.v (.str x)]):=by
  have l1:d6 fT (ab (aJ 0) aj) [.v (.str x)]=some (.d (.int (x.length:Int)),[.v (.str x)]):=ef rfl rfl (len_str h);have b1:Fe (.int 1) (.int (x.length:Int))=some (.bl (decide (1<=x.length)),false):=by
   show some (D.bl (decide ((1:Int)<=(x.length:Int))),false)=_;congr 3;rw[AY];lia
  have b2:Fe (.int (x.length:Int)) (.int 6)=some (.bl (decide (x.length<=6)),false):=by
   show some (D.bl (decide ((x.length:Int)<=6)),false)=_;congr 3;rw[AY];lia
  refine aD (r:=.d (.bl (decide (1<=x.length)&&decide (x.length<=6)))) ?_ rfl;unfold p9;simp only[fC,l1,Za,cont,b1];cases decide (1<=x.length) with
  | false=>rfl
  | true =>
   simp only[b2,Za];rfl
 refine bh (o:=.rt (.d (.bl (Gq x))) [.v (.str x)]) rfl ?_ rfl;unfold Gq;cases e:(decide (1<=x.length)&&decide (x.length<=6)) with
 | false =>
  rw[e]at ch;exact gP (eI (s:=[.v (.str x)]) (kX (s:=[.v (.str x)]) rfl (dw ch)) rfl)
 | true =>
  rw[e]at ch;refine ai (eX (s:=[.v (.str x)]) (kX (s:=[.v (.str x)]) rfl (dw ch)) rfl) ?_;exact bL (ef (aA hc rfl) rfl (zq Ha x.cps.toList))
theorem pG {t:Bool} {n:Str} (h:Nm n):eh [aM (t,n)]=some (.bl t,false):=by
 have e:eh [aM (t,n)]=some (.bl (Txt.startswith (bd (t,n)) minus),false):=rfl;rw[e,wR h]
theorem pH {t:Bool} {n:Str} (h:Nm n):fz [aM (t,n)]=some (.str n,false):=by
 refine bh (o:=.rt (.d (.str n)) [.v (aM (t,n))]) rfl ?_ rfl;cases t with
 | true =>
  refine bL (DO (s:=[.v (aM (true,n))]) (aD (cG rfl rfl (pG h) rfl) rfl) (gy rfl rfl rfl rfl (tQ (fP h)) ?_));show Rs.d (D.str (Txt.slice (minus++n) (some 1) none))=_;rw[zg]
 | false=>exact bL (DP (s:=[.v (aM (false,n))]) (aD (cG rfl rfl (pG h) rfl) rfl) rfl)
theorem uk {ps:List (Bool×Str)} (h:ps.length<=300):db [.tup (ps.map aM)]=some (.lst (ps.map aM),true):=by
 have sp:∃B,gS=aH (aY (bU aj) 1) (aH (jY (ml (aJ 0)) (gN 2) B) (bG (aJ 1)))/\∀(t:D) (xs:List D) (b:Bool×Str),xs.length<=300->B [.v t,.o (.lst xs),.v (aM b)]=some (.nx [.v t,.o (.lst (xs++[aM b])),.v (aM b)]):=by
  refine⟨_,rfl,fun t xs b hx=>?_⟩;exact eI (s:=[.v t,.o (.lst xs),.v (aM b)]) rfl (b9 (ju rfl rfl rfl rfl rfl rfl rfl (eN (by lia))))
 obtain⟨B,eF,hB⟩:=sp;obtain⟨sf,e,o2,rfl,_⟩:=ke (fg:=gN 2) (B:=B) (ps.map aM) (fun gone s=>∃o2:Sl,s=[.v (.tup (ps.map aM)),.o (.lst gone),o2]/\o2.isIo=false)
  (by
   rintro gone x rest s ha ⟨o2,rfl,q⟩;have hxm:x∈ps.map aM:=by rw[ha];simp
   obtain⟨b,_,rfl⟩:=Wc.mp hxm;have hg:=congrArg List.length ha;rw[Ya,Xa]at hg
   exact⟨_,_,cb rfl q,hB _ gone b (by lia),.v (aM b),rfl,rfl⟩)
  (ps.map aM) [] [.v (.tup (ps.map aM)),.o (.lst []),.e] rfl ⟨.e,rfl,rfl⟩
 refine bh (o:=.rt (.s 1) [.v (.tup (ps.map aM)),.o (.lst (ps.map aM)),o2]) rfl ?_ rfl;rw[eF];exact ai rfl (ai (fI (DQ rfl rfl) e) rfl)
theorem wW {ss:List bj} (h:(ss.flatMap (·.2)).length<=300) (hs:ss.length<=300):db [.tup (ss.map kB)]=some (.lst ((ss.flatMap (·.2)).map aM),true):=by
 have sp:∃B,gS=aH (aY (bU aj) 1) (aH (jY (ml (aJ 0)) (gN 2) B) (bG (aJ 1)))/\∀(t:D) (xs:List D) (s:bj),xs.length+s.2.length<=1000->B [.v t,.o (.lst xs),.v (kB s)]=some (.nx [.v t,.o (.lst (xs++s.2.map aM)),.v (kB s)]):=by
  refine⟨_,rfl,fun t xs s hx=>?_⟩;exact eX (s:=[.v t,.o (.lst xs),.v (kB s)]) rfl (b9 (ju rfl rfl rfl rfl rfl rfl rfl (Gp (by rw[Ya];lia))))
 obtain⟨B,eF,hB⟩:=sp;obtain⟨sf,e,o2,gs,rfl,hgs,_⟩:=ke (fg:=gN 2) (B:=B) (ss.map kB) (fun gone s=>∃(o2:Sl) (gs:List bj),s=[.v (.tup (ss.map kB)),.o (.lst ((gs.flatMap (·.2)).map aM)),o2]/\(∃r,gs++r=ss)/\gone.length=gs.length/\o2.isIo=false)
  (by
   rintro gone x rest s ha ⟨o2,gs,rfl,⟨r,hr⟩,hl,q⟩;have hg:=congrArg List.length ha;rw[Ya,Xa,Yc]at hg;cases r with
   | nil =>
    rw[Xc]at hr;subst hr;lia
   | cons b r =>
    have hx:x=kB b:=by
     have h1:=congrArg (fun l=>l[gone.length]?) ha;simp only[Wg]at h1;rw[← hr,Yf (by lia),hl,BK,Yf (by lia)]at h1
     rw[hl,BK]at h1;simpa using h1.symm
    subst hx;have hfl:(gs.flatMap (·.2)).length+b.2.length<=300:=by
     have:=congrArg (fun l=>(List.flatMap (fun x:bj=>x.2) l).length) hr;simp only[Qh,Qd,Xa]at this;lia
    refine⟨_,_,cb rfl q,hB _ _ b (by rw[Ya];lia),.v (kB b),gs++[b],?_,⟨r,by rw[Wd];exact hr⟩,by simp[hl],rfl⟩
    rw[Qh,Ze]
    simp)
  (ss.map kB) [] [.v (.tup (ss.map kB)),.o (.lst []),.e] rfl ⟨.e,[],rfl,⟨ss,rfl⟩,rfl,rfl⟩
 obtain⟨⟨r,hr⟩,hl⟩:(∃r,gs++r=ss)/\(ss.map kB).length=gs.length:=by
  obtain⟨h1,h2⟩:=(show(∃r,gs++r=ss)/\(ss.map kB).length=gs.length from⟨hgs,by simp_all⟩)
  exact⟨h1,h2⟩
 have hl2:=congrArg List.length hr;rw[Xa]at hl2;rw[Ya]at hl;have:r=[]:=Zm (by lia)
 subst this;rw[Xc]at hr;subst hr;refine bh (o:=.rt (.s 1) [.v (.tup (gs.map kB)),.o (.lst ((gs.flatMap (·.2)).map aM)),o2]) rfl ?_ rfl;rw[eF];exact ai rfl (ai (fI (DQ rfl rfl) e) rfl)
end
end K06
namespace K06
open PySem L2 VF VF22 VT
theorem dJ (x:Str):x.length=x.cps.toList.length:=by simp[Str.length]
theorem IE:("\n":Str)=⟨#[10]⟩:=by rfl
theorem IF:(" ":Str)=⟨#[32]⟩:=by rfl
def tx (l:List Nat):Str:=⟨l.toArray⟩
theorem zt (x:Str):tx x.cps.toList=x:=by cases x;rfl
theorem ul {f:Nat->List Nat} (n:Nat) (h:∀k,(f k).length<=n):∀l:List Nat,(l.flatMap f).length<=n*l.length
 | []=>by simp
 | k::r=>by
  rw[Qd,Xa,Yc,Nat.mul_succ];have:=ul n h r;have:=h k;lia
theorem Gs {x ms:Str} (h1:32∉ms.cps.toList) (h2:10∉ms.cps.toList) (hn:ms.cps.toList.Nodup) (hl:ms.cps.toList.length<=4) (hx:x.cps.toList.length<=10000) :
  bo [.str x,.str ms]=some (.lst ((wt ms.cps.toList [] x.cps.toList).map fun l=>D.str (tx l)),true):=by
 have e1:(Txt.replace x "\n" " ").cps.toList=x.cps.toList.flatMap (rp 10 [32]):=by rw[IE,nJ];rfl
 have l1:(Txt.replace x "\n" " ").cps.toList.length<=10000:=by
  rw[e1];exact Qb (ul 1 (fun k=>by unfold rp;split<;>simp) _) (by lia)
 have p4:3 ^ ms.cps.toList.length<=81:=Qb (Nat.pow_le_pow_right (by decide) hl) (by decide)
 have l2:3 ^ ms.cps.toList.length*(Txt.replace x "\n" " ").cps.toList.length<=1048576:=Qb (Nat.mul_le_mul p4 l1) (by decide)
 have rk:=sC ms.cps.toList (Txt.replace x "\n" " ") l2;have e2:=nK ms.cps.toList (Txt.replace x "\n" " ") h1 hn;rw[e1,Im h1 h2]at e2;generalize hy:cE " " " " ms.cps.toList (Txt.replace x "\n" " ")=y at e2;have l3:y.length<=100000:=by
  rw[dJ,e2];exact Qb (ul 3 (fun k=>by unfold ft;by_cases a:k=10<;>by_cases b:k∈ms.cps.toList<;>simp[a,b]) _) (by lia)
 have l4:(Txt.split y " ").length<=1000000:=by
  unfold Txt.split;split
  ·simp
  ·split
   ·simp
   ·rw[length_partsBetween];have:=StrLaws.occ_length_le y " " 0 y.length (y.length+1);lia
 have hs:tV (.str y) [.str " "]=some (.lst ((Txt.split y " ").map D.str),true):=Ad ⟨rfl,l3⟩;have hw:((Txt.split y " ").filter fun p=>!p.cps.toList.isEmpty).map D.str=(wt ms.cps.toList [] x.cps.toList).map fun l=>D.str (tx l):=by
  have e:=y9 y;rw[e2]at e;show _=(wd [] (x.cps.toList.flatMap (ft ms.cps.toList))).map _;rw[← e,IF,List.filter_map,Vi];refine Zl fun p _=>?_;show D.str p=D.str (tx p.cps.toList);rw[zt]
 refine bh rfl (o:=.rt (.f (.lst ((wt ms.cps.toList [] x.cps.toList).map fun l=>D.str (tx l)))) [.v (.str x),.v (.str ms),.v (.str y),.e]) ?_ rfl;show jB [.v (.str x),.v (.str ms),.e,.e]=_;refine ai (eX (dw (c:=true) rfl) rfl) ?_;refine ai (s:=[.v (.str x),.v (.str ms),.v (.str (Txt.replace x "\n" " ")),.e]) (bX (s:=[.v (.str x),.v (.str ms),.e,.e]) (x:=.str (Txt.replace x "\n" " ")) ?_ rfl) ?_
 ·show(if x.length<=1048576/\Str.length " "<=14 then _ else _)=_;rw[Ad ⟨by rw[dJ];lia,by decide +kernel⟩]
 refine ai (s:=[.v (.str x),.v (.str ms),.v (.str y),.e]) ?_ ?_
 ·show(if jd " " " " ms.cps.toList (Txt.replace x "\n" " ")=true then some (Ot.nx [.v (.str x),.v (.str ms),.v (.str (cE " " " " ms.cps.toList (Txt.replace x "\n" " "))),.e]) else none)=_;rw[Ad rk,hy]
 refine bL (f8 (kc (yv rfl rfl rfl (aA rfl rfl) rfl rfl hs) rfl) (by rw[Ya];exact We _ _ |>.mpr ⟨rfl,Af l4⟩) (s2:=[.e]) ?_)
 rw[← hw];refine jv (fg:=gN 0) (fc:=kr) (fe:=ku) (k:=1) D.str D.str (fun p=>!p.cps.toList.isEmpty) [.e] (Txt.split y " ") fun p _=>⟨[.v (.str p)],[.v (.str p)],rfl,?_,fun _=>rfl,fun _=>⟨.d (.str p),[.v (.str p)],[.v (.str p)],rfl,rfl,rfl⟩⟩;refine cH (aD (r:=.d (.bl (!decide (V.str p=V.str "")))) (ay rfl rfl rfl rfl rfl) rfl) ?_;show(!decide (V.str p=V.str ""))=!p.cps.toList.isEmpty;congr 1;rw[Vf,decide_eq_true_eq,List.isEmpty_iff];constructor
 ·intro e;cases e;rfl
 ·intro e;have:p="":=by rw[← zt p,e];rfl
  rw[this]
end K06
namespace K06
open PySem L2 VF VL
theorem vH (c:Nat):minus.cps.contains c=true↔c=45:=by
 rw[Array.contains_iff_mem,← Array.mem_toList_iff,dQ];simp
theorem C3 {c:Nat} (h:97<=c/\c<=122):minus.cps.contains c=false:=by
 cases e:minus.cps.contains c with
 | false=>rfl
 | true=>have:=(vH c).mp e;lia
theorem mM {l:List Nat} (h:∀c∈l,97<=c/\c<=122):l.takeWhile (fun c=>minus.cps.contains c)=[]:=by
 cases l with
 | nil=>rfl
 | cons c r=>rw[List.takeWhile_cons,C3 (h c Qa)];rfl
theorem zu {p:Bool×Str} (h:Nm p.2):Txt.stripChars (bd p) minus=p.2:=by
 obtain⟨t,n⟩:=p;have hl:∀c∈n.cps.toList,97<=c/\c<=122:=h.2.2;have hr:∀c∈n.cps.toList.reverse,97<=c/\c<=122:=fun c hc=>hl c (List.mem_reverse.mp hc);unfold Txt.stripChars;rw[PySem.W.stripBy_eq];refine vF ?_;unfold PySem.W.stripped;dsimp only;rw[Ad rfl,Ad rfl,StrLaws.strSub_toList];have g:(fun c=>minus.cps.contains c)=minus.cps.contains:=rfl;cases t with
 | false =>
  have e:(bd (false,n)).cps.toList=n.cps.toList:=rfl;rw[e,← g,mM hl,Xl,BC,mM hr,Xl];show List.take (n.length-0-0) n.cps.toList=n.cps.toList;exact Ql (by show n.cps.toList.length<=n.cps.size-0-0;rw[Qf];lia)
 | true =>
  have e:(bd (true,n)).cps.toList=45::n.cps.toList:=by
   show(minus++n).cps.toList=_;rw[Au,Zg,dQ];rfl
  have tk:(45::n.cps.toList).takeWhile (fun c=>minus.cps.contains c)=[45]:=by
   rw[List.takeWhile_cons,(vH 45).mpr rfl,Ad rfl,mM hl]
  have len:(bd (true,n)).length=n.cps.toList.length+1:=by
   show(bd (true,n)).cps.size=_;rw[← Qf,e,Yc]
  rw[e,← g,tk];show List.take ((bd (true,n)).length-(List.takeWhile _ (List.drop 1 (45::n.cps.toList)).reverse).length-1) (List.drop 1 (45::n.cps.toList))=n.cps.toList;rw[List.drop_succ_cons,BC,mM hr,Xl,len];exact Ql (by lia)
theorem zv {p:Bool×Str} (h:Nm p.2):jx (aM p) [.str minus]=some (.str p.2,false):=by
 show(if (bd p).length<=1000000 then some (D.str (Txt.stripChars (bd p) minus),false) else none)=_;rw[Ad (fP h),zu h]
theorem C4 {t:Bool} {n:Str} (h:Nm n):fL [aM (t,n)]=some (aM (!t,n),false):=by
 have e1:minus.length=1:=by decide +kernel
 obtain⟨c,hc,hcm⟩:=zh (p:=(t,n)) h;refine bh (o:=.rt (.d (aM (!t,n))) [.v (aM (t,n))]) rfl ?_ rfl;cases t with
 | true =>
  refine gP (eI (s:=[.v (aM (true,n))]) (cH (aD (ay (ay rfl rfl rfl rfl (ix_str (fP h) hc)) rfl rfl rfl rfl) rfl) (Af (hcm.mpr rfl))) (bL (gy rfl rfl rfl rfl (tQ (fP h)) ?_)));show Rs.d (D.str (Txt.slice (minus++n) (some 1) none))=_;rw[zg];rfl
 | false =>
  refine ai (eX (s:=[.v (aM (false,n))]) (cH (aD (ay (ay rfl rfl rfl rfl (ix_str (fP h) hc)) rfl rfl rfl rfl) rfl) (Ae fun z=>by cases (hcm.mp z))) rfl) ?_
  exact bL (ay rfl rfl rfl rfl (iX (by
   have:=(ll (p:=(false,n)) h).2;show minus.length+(bd (false,n)).length<=_
   lia)))
def Gu (x:Str):Str:=if Txt.startswith x minus then Txt.slice x (some 1) none else x
theorem nX {x:Str} (h:x.length<=1000000):fz [.str x]=some (.str (Gu x),false):=by
 have e:eh [.str x]=some (.bl (Txt.startswith x minus),false):=rfl;refine bh (o:=.rt (.d (.str (Gu x))) [.v (.str x)]) rfl ?_ rfl;unfold Gu;cases c:Txt.startswith x minus with
 | true =>
  rw[c]at e;exact bL (DO (s:=[.v (.str x)]) (aD (cG rfl rfl e rfl) rfl) (gy rfl rfl rfl rfl (tQ h)))
 | false =>
  rw[c]at e;exact bL (DP (s:=[.v (.str x)]) (aD (cG rfl rfl e rfl) rfl) rfl)
end K06
namespace VF22
open PySem L2 VF
theorem qN {st s:En} {r:Rs} {a:Str} {fe:FE} {rows:List (Str×Str)} {neg b:Bool} (h:fe st=some (r,s)) (h1:cont s r=some (.str a)) (h2:(if neg then !(dC rows a).isSome else(dC rows a).isSome)=b):vz neg rows fe st=some (.d (.bl b),s):=by
 simp only[vz,h,h1,Za,h2]
theorem qO {st s:En} {r:Rs} {a c:Str} {fe:FE} {rows:List (Str×Str)} (h:fe st=some (r,s)) (h1:cont s r=some (.str a)) (h2:dC rows a=some c):y7 rows fe st=some (.d (.str c),s):=by
 simp only[y7,h,h1,Za,h2]
end VF22
namespace K06
open PySem L2 VF VL VF22 VX
noncomputable section
def rq (x:Str):Bool:=Gq (Gu x)
def Ft (x:Str):Prop:=x.length<=1000000/\(Gu x).length<=1000000
theorem zw {x:Str} (h:Ft x):lA [.str x]=some (.bl (rq x),false) :=
 bh (o:=.rt (.d (.bl (Gq (Gu x)))) [.v (.str x)]) rfl (bL (nr (s:=[.v (.str x)]) (ef rfl rfl rfl) rfl (cG (aA (cG rfl rfl (nX h.1) rfl) rfl) rfl (zr h.2) rfl))) rfl
theorem Eb {p:Bool×Str} (h:Nm p.2):Gu (bd p)=p.2:=by
 have e1:=pH (t:=p.1) h;have e2:=nX (fP h);have e3:aM (p.1,p.2)=.str (bd p):=rfl;rw[e3,e2]at e1;injection e1 with e1;injection e1 with e1;injection e1
theorem zx {p:Bool×Str} (h:Nm p.2):rq (bd p)=true:=by unfold rq;rw[Eb h,Gr h]
theorem zy {p:Bool×Str} (h:Nm p.2):Ft (bd p):=⟨fP h,by rw[Eb h];have:=h.2.1;lia⟩
def wX:Rx:=("BadText","",none)
theorem vI {ws:List Str} (h:∀x∈ws,Ft x) (hl:ws.length<=1000000):gU [.v (.lst (ws.map D.str))]=if ws.all rq then some (.o (.rt (.d (.tup (ws.map D.str))) [.v (.lst (ws.map D.str))])) else some (.x wX):=by
 have hc:eQ 1 [] (ml (aJ 0)) (gN 0) fD gT [.v (.lst (ws.map D.str))]=some (.f (.lst (ws.map fun x=>D.bl (rq x))),[.v (.lst (ws.map D.str))]):=by
  refine f8 (s1:=[.v (.lst (ws.map D.str))]) (ds:=ws.map D.str) (s2:=[.e]) rfl (by rw[Ya,Af hl];rfl) ?_
  exact jw D.str (fun x=>D.bl (rq x)) [.e] ws fun x hx=>⟨[.v (.str x)],[.v (.str x)],.d (.bl (rq x)),[.v (.str x)],[.v (.str x)],rfl,rfl,cG rfl rfl (zw (h x hx)) rfl,rfl,rfl⟩
 have ht:aE (d6 tM (ab (eQ 1 [] (ml (aJ 0)) (gN 0) fD gT) aj)) [.v (.lst (ws.map D.str))]=some (ws.all rq,[.v (.lst (ws.map D.str))]):=aD (ef (aA hc rfl) rfl (zq rq ws)) rfl;cases e:ws.all rq with
 | true =>
  rw[e]at ht;exact bt (nF (dw ht) rfl) (iE (bL (ef rfl rfl (sI _))))
 | false =>
  rw[e]at ht;exact eJ (lR (dw ht) rfl)
theorem vJ {ws:List Str} (h:∀x∈ws,Ft x) (hl:ws.length<=1000000) (e:ws.all rq=false):dR [.lst (ws.map D.str)]=some wX:=by
 have:=vI h hl;rw[e]at this;exact dX rfl this
theorem jJ {ws:List Str} (h:∀x∈ws,Ft x) (hl:ws.length<=1000000) (e:ws.all rq=true):dR [.lst (ws.map D.str)]=none/\fJ [.lst (ws.map D.str)]=some (.tup (ws.map D.str),false):=by
 have:=vI h hl;rw[e]at this;exact⟨gR this,bh rfl (nG this) rfl⟩
def eU (r:Bool):Str:=if r then "(" else "["
def cls (r:Bool):Str:=if r then ")" else "]"
def mid (w:List Str):List Str:=w.tail.dropLast
theorem mN (w:List Str) (hw:w≠[]):zV (.lst (w.map D.str)) (some 1) (some (-1))=some (.lst ((mid w).map D.str),true):=by
 show some (D.lst (cutD (w.map D.str) (some 1) (some (-1))),true)=_;congr 3;obtain⟨n,hn⟩:∃n,w.length=n+1:=⟨w.length-1,by have:=Yj.mpr hw;lia⟩
 have e1:HT.sIx (n+1) 0 (some 1)=1:=by simp[HT.sIx]
 have e2:HT.sIx (n+1) (n+1) (some (-1))=n:=by simp[HT.sIx];lia
 unfold cutD mid;rw[Ya,hn,e1,e2,← BG,← BF,BR,Br,hn,List.drop_one];rfl
theorem kC {w:List Str} {a:Str} (h:w.head?=some a):cM (.lst (w.map D.str)) (.int 0)=some (.str a,false):=by
 cases w with
 | nil=>cases h
 | cons b r=>cases h;exact dI (by simp[i8,xJ])
theorem mO {w:List Str} {a:Str} (h:w.getLast?=some a):cM (.lst (w.map D.str)) (.int (-1))=some (.str a,false):=by
 obtain⟨r,rfl⟩:=List.getLast?_eq_some_iff.mp h;refine dI ?_;have h1:xJ (r.length+1) (-1)=some r.length:=by
  unfold xJ;simp;lia
 unfold i8;rw[Ya,Xa,Qg,h1];show((r++[a]).map D.str)[r.length]?=_;rw[Ze,Yf (by rw[Ya];exact Wa _),Ya,BK]
 rfl
theorem C5 {a:Str} (h:a≠"["/\a≠"("):dC [("[","open"),("(","ring")] a=none:=by
 simp[dC,Al h.1,Al h.2]
theorem lF (r:Bool):dC [("[","open"),("(","ring")] (eU r)=some (kd r):=by cases r<;>decide +kernel
theorem jK (r:Bool):dC [("[","]"),("(",")")] (eU r)=some (cls r):=by cases r<;>decide +kernel
theorem fk (a b:Str):o7 (.str a) (.str b)=some (.bl (!decide (a=b)),false):=by
 show some (D.bl (!decide (V.str a=V.str b)),false)=_;congr 4;rw[AY];exact⟨fun h=>by injection h,fun h=>by rw[h]⟩
def C6 (w:List Str):Prop:=w≠[]/\((∃x∈mid w,rq x=false)∨(∃a,w.head?=some a/\a≠"["/\a≠"(")∨(∃r b,w.head?=some (eU r)/\w.getLast?=some b/\b≠cls r)∨mid w=[])
theorem zA {a:Str}:(a≠"["/\a≠"(")∨∃r,a=eU r:=by
 by_cases h1:a="["
 ·exact .inr ⟨false,h1⟩
 ·by_cases h2:a="("
  ·exact .inr ⟨true,h2⟩
  ·exact .inl ⟨h1,h2⟩
theorem vK {w:List Str} {x:Str} (h:x∈mid w):x∈w:=List.mem_of_mem_tail (List.dropLast_subset _ h)
theorem zB {w:List Str} (h:∀x∈w,Ft x) (hl:w.length<=1000000) (b:C6 w):bP [.lst (w.map D.str)]=some wX:=by
 obtain⟨hw,b⟩:=b;have hm:∀x∈mid w,Ft x:=fun x hx=>h x (vK hx);have hml:(mid w).length<=1000000:=by unfold mid;rw[A6,Br];lia
 have sl:=mN w hw;cases e:(mid w).all rq with
 | false =>
  exact dX rfl (eJ (mJ (s1:=[.v (.lst (w.map D.str)),.e]) (aA (gy rfl rfl rfl rfl sl rfl) rfl) rfl (vJ hm hml e)))
 | true =>
  obtain⟨g1,g2⟩:=jJ hm hml e;refine dX rfl (bt (s:=[.v (.lst (w.map D.str)),.v (.tup ((mid w).map D.str))]) (km (s1:=[.v (.lst (w.map D.str)),.e]) (aA (gy rfl rfl rfl rfl sl rfl) rfl) rfl g1 (bX (s:=[.v (.lst (w.map D.str)),.e]) (bS (aA (gy rfl rfl rfl rfl sl rfl) rfl) rfl g2) rfl)) ?_);obtain⟨a,r,rfl⟩:=Yn hw;obtain⟨l,hlast⟩:∃l,(a::r).getLast?=some l:=⟨(a::r).getLast hw,Bu hw⟩;have e0:∀o:Sl,aL cM (aJ 0) (fC (.int 0)) [.v (.lst ((a::r).map D.str)),o]=some (.d (.str a),[.v (.lst ((a::r).map D.str)),o]):=fun o=>ay rfl rfl rfl rfl (kC rfl);have e1:∀o:Sl,aL cM (aJ 0) (uR j4 (fC (.int 1))) [.v (.lst ((a::r).map D.str)),o]=some (.d (.str l),[.v (.lst ((a::r).map D.str)),o]):=fun o=>ay rfl rfl rfl rfl (mO hlast);refine eJ (lR (s:=[.v (.lst ((a::r).map D.str)),.v (.tup ((mid (a::r)).map D.str))]) ?_ rfl);rcases zA (a:=a) with hn|⟨k,rfl⟩
  ·exact Cf (aD (qN (b:=true) (e0 _) rfl (by rw[C5 hn];rfl)) rfl)
  ·refine kX (aD (qN (b:=false) (e0 _) rfl (by rw[lF];rfl)) rfl) ?_
   by_cases c:l=cls k
   ·refine kX (cH (aD (ay (e1 _) (qO (e0 _) rfl (jK k)) rfl rfl (fk _ _)) rfl) (by rw[Af c];rfl)) ?_
    have hz:mid (eU k::r)=[]:=by
     rcases b with⟨x,hx,ex⟩|⟨y,hy,h1,h2⟩|⟨k',y,hk,hy,h1⟩|hz
     ·rw[Xg]at e;rw[e x hx]at ex;cases ex
     ·cases hy;cases k
      ·exact absurd rfl h1
      ·exact absurd rfl h2
     ·rw[hlast]at hy;cases hy;have:eU k=eU k':=by injection hk
      have hk':k=k':=by revert this;cases k<;>cases k'<;>decide +kernel
      subst hk';exact absurd c h1
     ·exact hz
    rw[hz];rfl
   ·exact Cf (cH (aD (ay (e1 _) (qO (e0 _) rfl (jK k)) rfl rfl (fk _ _)) rfl) (by rw[Ae c];rfl))
def tw (s:bj):List Str:=eU s.1::(s.2.map bd++[cls s.1])
theorem qP (s:bj):mid (tw s)=s.2.map bd:=by
 unfold mid tw;rw[Wn,Vh]
theorem qQ (ps:List (Bool×Str)):(ps.map bd).map D.str=ps.map aM:=by rw[Vi];rfl
theorem pI {s:bj} (h:∀p∈s.2,Nm p.2) (hn:s.2≠[]) (hl:s.2.length<=1000):bP [.lst ((tw s).map D.str)]=none/\bQ [.lst ((tw s).map D.str)]=some (kB s,false):=by
 have sl:=mN (tw s) (by unfold tw;simp)
 have hla:(tw s).getLast?=some (cls s.1):=by unfold tw;rw[List.getLast?_cons,List.getLast?_append];rfl
 obtain⟨g1,g2⟩:=jJ (ws:=mid (tw s)) (fun x hx=>by
  rw[qP]at hx;obtain⟨p,hp,rfl⟩:=Wc.mp hx;exact zy (h p hp)) (by rw[qP,Ya];lia) (by
  rw[qP,Xg];intro x hx;obtain⟨p,hp,rfl⟩:=Wc.mp hx
  exact zx (h p hp))
 rw[qP,qQ]at sl g1 g2;generalize hL:(tw s).map D.str=L at sl;have e0:∀o:Sl,aL cM (aJ 0) (fC (.int 0)) [.v (.lst L),o]=some (.d (.str (eU s.1)),[.v (.lst L),o]):=fun o=>ay rfl rfl rfl rfl (hL ▸ kC rfl);have e1:∀o:Sl,aL cM (aJ 0) (uR j4 (fC (.int 1))) [.v (.lst L),o]=some (.d (.str (cls s.1)),[.v (.lst L),o]):=fun o=>ay rfl rfl rfl rfl (hL ▸ mO hla);have main:dY [.v (.lst L),.e]=some (.o (.rt (.d (kB s)) [.v (.lst L),.v (.tup (s.2.map aM))])):=by
  refine bt (s:=[.v (.lst L),.v (.tup (s.2.map aM))]) (km (s1:=[.v (.lst L),.e]) (aA (gy rfl rfl rfl rfl sl rfl) rfl) rfl g1 (bX (s:=[.v (.lst L),.e]) (bS (aA (gy rfl rfl rfl rfl sl rfl) rfl) rfl g2) rfl)) ?_;refine bt (nF (s:=[.v (.lst L),.v (.tup (s.2.map aM))]) (kX (aD (qN (b:=false) (e0 _) rfl (by rw[lF];rfl)) rfl) (kX (cH (aD (ay (e1 _) (qO (e0 _) rfl (jK s.1)) rfl rfl (fk _ _)) rfl) (by rw[Af rfl];rfl)) ?_)) rfl) ?_
  ·refine cH (b:=decide (V.int ((s.2.map aM).length:Int)=V.int 0)) (aD (ay (ef rfl rfl rfl) rfl rfl rfl rfl) rfl) (Ae fun z=>?_);have z':((s.2.map aM).length:Int)=0:=by injection z
   rw[Ya]at z';exact hn (Zm (by lia))
  ·exact iE (bL (dO (aA (qO (e0 _) rfl (lF s.1)) (aA rfl rfl)) rfl (by show 2<=1000000;decide)))
 exact⟨gR main,bh rfl (nG main) rfl⟩
theorem IG (x a b:Str):wx (.str x) (.tup [.str a,.str b])=some (.bl (decide (x=a)||decide (x=b)),false):=by
 have e1:rR false (.str x) (.tup [.str a,.str b])=none:=rfl;have e2:qg false (.str x) (.tup [.str a,.str b])=some (.bl (decide (x=a)||decide (x=b)),false):=by
  show some (D.bl (wf (.str x) [V.str a,V.str b]),false)=_;congr 3;show((a == x)||((b == x)||false))=_;have q:∀a:Str,(a == x)=decide (x=a):=fun a=>by
   by_cases e:a=x
   ·subst e;simp
   ·have e':¬ x=a:=fun z=>e z.symm;simp[e,e']
  rw[Bool.or_false,q,q]
 unfold wx lN;rw[e1];exact e2
theorem zC (xs:List D):o7 (.lst xs) (.lst [])=some (.bl (!xs.isEmpty),false):=rfl
theorem C7 {W:D} {G g:List D} {x:Str} (hx:x≠"]"/\x≠")") (hg:g.length<=10000) :
  cQ [.v W,.o (.lst G),.o (.lst g),.v (.str x)]=some (.nx [.v W,.o (.lst G),.o (.lst (g++[.str x])),.v (.str x)]):=by
 refine ai (s:=[.v W,.o (.lst G),.o (.lst (g++[.str x])),.v (.str x)]) (b9 (ju rfl rfl rfl rfl rfl rfl rfl (eN (by lia)))) ?_
 refine eX (cH (aD (ay rfl (dO rfl rfl (by show 2<=1000000;decide)) rfl rfl (IG _ _ _)) rfl) ?_) rfl
 rw[Ae hx.1,Ae hx.2];rfl
theorem zD {W:D} {G g:List D} {x:Str} (hx:x="]"∨x=")") (hg:g.length<=10000) (hG:G.length<=10000) :
  cQ [.v W,.o (.lst G),.o (.lst g),.v (.str x)]=some (.nx [.v W,.o (.lst (G++[.lst (g++[.str x])])),.o (.lst []),.v (.str x)]):=by
 refine ai (s:=[.v W,.o (.lst G),.o (.lst (g++[.str x])),.v (.str x)]) (b9 (ju rfl rfl rfl rfl rfl rfl rfl (eN (by lia)))) ?_
 refine eI (s:=[.v W,.o (.lst G),.o (.lst (g++[.str x])),.v (.str x)]) (cH (aD (ay rfl (dO rfl rfl (by show 2<=1000000;decide)) rfl rfl (IG _ _ _)) rfl) ?_) ?_
 ·rcases hx with rfl|rfl<;>decide +kernel
 ·exact ai (s:=[.v W,.o (.lst (G++[.lst (g++[.str x])])),.v (.lst (g++[.str x])),.v (.str x)]) (b9 (ju rfl rfl rfl rfl rfl rfl rfl (eN (by lia)))) rfl
def gr:List Str->List Str->List (List Str)
 | g,[]=>if g=[] then [] else [g]
 | g,w::r=>if w="]"∨w=")" then(g++[w])::gr [] r else gr (g++[w]) r
def gD (g:List Str):D:=.lst (g.map D.str)
theorem qR {W:D}:∀(ws:List Str) (G:List D) (g:List Str) (o:Sl),o.isIo=false->G.length+g.length+ws.length<=9000 ->
  ∃(G':List D) (g':List Str) (o':Sl),dq (gN 3) cQ (ws.map D.str) [.v W,.o (.lst G),.o (.lst (g.map D.str)),o]=some (.nx [.v W,.o (.lst G'),.o (.lst (g'.map D.str)),o'])/\G'++(if g'=[] then [] else [gD g'])=G++(gr g ws).map gD/\G'.length<=9000
 | [],G,g,o,_,hl=>⟨G,g,o,rfl,by unfold gr;split<;>simp,by lia⟩
 | w::r,G,g,o,q,hl=>by
  rw[Yc]at hl;have e1:gN 3 (.str w) [.v W,.o (.lst G),.o (.lst (g.map D.str)),o]=some [.v W,.o (.lst G),.o (.lst (g.map D.str)),.v (.str w)]:=cb rfl q;by_cases hc:w="]"∨w=")"
  ·have e2:=zD (W:=W) (G:=G) (g:=g.map D.str) hc (by rw[Ya];lia) (by lia)
   obtain⟨G',g',o',e3,e4,e5⟩:=qR (W:=W) r (G++[gD (g++[w])]) [] (.v (.str w)) rfl (by simp;lia)
   refine⟨G',g',o',?_,?_,e5⟩
   ·rw[Qc];simp only[dq,e1,Za];rw[e2];unfold gD at e3;rw[Ze]at e3;exact e3
   ·rw[e4];have:gr g (w::r)=(g++[w])::gr [] r:=Ad hc;rw[this,Qc,Wd];rfl
  ·have e2:=C7 (W:=W) (G:=G) (g:=g.map D.str) (x:=w) ⟨fun h=>hc (.inl h),fun h=>hc (.inr h)⟩ (by rw[Ya];lia)
   obtain⟨G',g',o',e3,e4,e5⟩:=qR (W:=W) r G (g++[w]) (.v (.str w)) rfl (by simp;lia)
   refine⟨G',g',o',?_,?_,e5⟩
   ·rw[Qc];simp only[dq,e1,Za];rw[e2];rw[Ze]at e3;exact e3
   ·rw[e4,show gr g (w::r)=gr (g++[w]) r from Ag hc]
theorem Gv {ws:List Str} (hl:ws.length<=9000):dE [.lst (ws.map D.str)]=some (.lst ((gr [] ws).map gD),true):=by
 obtain⟨G',g',o',e,e2,e3⟩:=qR (W:=.lst (ws.map D.str)) ws [] [] .e rfl (by simpa using hl)
 rw[Qi]at e2;rw[← e2];by_cases c:g'=[]
 ·subst c;rw[Ad rfl,Xc];refine bh (o:=.rt (.s 1) [.v (.lst (ws.map D.str)),.o (.lst G'),.o (.lst []),o']) rfl ?_ rfl;exact ai rfl (ai rfl (ai (fI (kc rfl rfl) e) (ai (eX (aD (ay rfl rfl rfl rfl (zC _)) rfl) rfl) rfl)))
 ·rw[Ag c];refine bh (o:=.rt (.s 1) [.v (.lst (ws.map D.str)),.o (.lst (G'++[gD g'])),.v (gD g'),o']) rfl ?_ rfl;refine ai rfl (ai rfl (ai (fI (kc rfl rfl) e) (ai (s:=[.v (.lst (ws.map D.str)),.o (.lst (G'++[gD g'])),.v (gD g'),o']) (eI (s:=[.v (.lst (ws.map D.str)),.o (.lst G'),.o (.lst (g'.map D.str)),o']) (cH (aD (ay rfl rfl rfl rfl (zC _)) rfl) ?_) (b9 (ju rfl rfl rfl rfl rfl rfl rfl (eN (by lia))))) rfl)))
  cases g' with
  | nil=>exact absurd rfl c
  | cons a b=>rfl
def ft:List Str->List Str->Option Str
 | _,[]=>none
 | seen,n::r=>if n∈seen then some n else ft (seen++[n]) r
def Gw (n:Str):Rx:=("Twice","name",some n)
def sn (ps:List (Bool×Str)):List (Key×D):=ps.map fun p=>(Sum.inr p.2,D.bl true)
theorem C8 {ps:List (Bool×Str)} {n:Str} (h:n∉ps.map (·.2)):f9 (sn ps) (Sum.inr n)=none:=by
 unfold f9 sn;rw[Option.map_eq_none_iff,List.find?_eq_none];intro x hx;obtain⟨p,hp,rfl⟩:=Wc.mp hx;simp only[decide_eq_true_eq];intro e;exact h (Wc.mpr ⟨p,hp,Sum.inr.inj e⟩)
theorem Gx {ps:List (Bool×Str)} {n:Str} (h:n∈ps.map (·.2)):(f9 (sn ps) (Sum.inr n)).isSome=true:=by
 unfold f9 sn;rw[Xm,List.find?_isSome];obtain⟨p,hp,rfl⟩:=Wc.mp h;exact⟨_,Wc.mpr ⟨p,hp,rfl⟩,by simp⟩
theorem Gy {ps:List (Bool×Str)} {p:Bool×Str} (h:p.2∉ps.map (·.2)):tT (sn ps) (Sum.inr p.2) (.bl true)=sn (ps++[p]):=by
 unfold tT;rw[Ag]
 ·unfold sn;rw[Ze];rfl
 ·rw[List.any_eq_true];rintro⟨x,hx,e⟩;unfold sn at hx;obtain⟨q,hq,rfl⟩:=Wc.mp hx;exact h (Wc.mpr ⟨q,hq,Sum.inr.inj (Ap e)⟩)
theorem vL {t:D}:∀(ps gone:List (Bool×Str)) (o2 o3:Sl),o2.isIo=false->o3.isIo=false->(∀p∈ps,Nm p.2)->gone.length+ps.length<=300 ->
  ∃s:En,kj (gN 2) cR (ps.map aM) [.v t,.o (.dk (sn gone)),o2,o3]=match ft (gone.map (·.2)) (ps.map (·.2)) with|some n=>some (.x (Gw n))|none=>some (.o (.nx s))
 | [],gone,o2,o3,_,_,_,_=>⟨_,rfl⟩
 | p::r,gone,o2,o3,q2,q3,hn,hl=>by
  rw[Yc]at hl;have hp:=hn p (Qa ..);have e1:gN 2 (aM p) [.v t,.o (.dk (sn gone)),o2,o3]=some [.v t,.o (.dk (sn gone)),.v (aM p),o3]:=cb rfl q2;have e2:qr (aY (cU fz (ab (aJ 2) aj)) 3) [.v t,.o (.dk (sn gone)),.v (aM p),o3]=some (.o (.nx [.v t,.o (.dk (sn gone)),.v (aM p),.v (.str p.2)])):=iE (bX (s:=[.v t,.o (.dk (sn gone)),.v (aM p),o3]) (x:=.str p.2) (cG rfl rfl (pH (t:=p.1) hp) rfl) (cb rfl q3));have e3:aL (FF false) (aJ 3) (aJ 1) [.v t,.o (.dk (sn gone)),.v (aM p),.v (.str p.2)]=some (.d (.bl ((f9 (sn gone) (Sum.inr p.2)).isSome)),[.v t,.o (.dk (sn gone)),.v (aM p),.v (.str p.2)]):=ay rfl rfl rfl rfl (z:=(.bl ((f9 (sn gone) (Sum.inr p.2)).isSome),false)) rfl;rw[Qc,Qc];by_cases c:p.2∈gone.map (·.2)
  ·have e4:cR [.v t,.o (.dk (sn gone)),.v (aM p),o3]=some (.x (Gw p.2)) :=
    bt e2 (eJ (lR (aD e3 (by rw[Gx c];rfl)) (wO rfl rfl rfl)))
   refine⟨[],?_⟩;simp only[kj,e1,e4,Za];unfold ft;rw[Ad c]
  ·have e4:cR [.v t,.o (.dk (sn gone)),.v (aM p),o3]=some (.o (.nx [.v t,.o (.dk (sn (gone++[p]))),.v (aM p),.v (.str p.2)])):=by
    refine bt e2 (bt (nF (aD e3 (by rw[C8 c];rfl)) rfl) (iE ?_))
    refine qL (z':=.dk (sn (gone++[p]))) rfl rfl rfl rfl rfl rfl rfl rfl ?_;show(if (sn gone).length<100000 then some (D.dk (tT (sn gone) (Sum.inr p.2) (.bl true))) else none)=_;rw[Ad (by unfold sn;rw[Ya];lia),Gy c]
   obtain⟨s,e5⟩:=vL (t:=t) r (gone++[p]) (.v (aM p)) (.v (.str p.2)) rfl rfl (fun x hx=>hn x (Yb _ hx)) (by rw[Xa,Qg];lia)
   refine⟨s,?_⟩;simp only[kj,e1,e4,Za];rw[e5,Ze]
   conv=>rhs;unfold ft
   rw[Ag c];rfl
theorem vM {t:D} {ps:List (Bool×Str)} (hb:db [t]=some (.lst (ps.map aM),true)) (hn:∀p∈ps,Nm p.2) (hl:ps.length<=300) :
  ∃s:En,dF [.v t,.e,.e,.e]=match ft [] (ps.map (·.2)) with|some n=>some (.x (Gw n))|none=>some (.o (.nx s)):=by
 obtain⟨s,e⟩:=vL (t:=t) ps [] .e .e rfl rfl hn (by simpa using hl)
 refine⟨s,?_⟩;rw[show([]:List (Bool×Str)).map (·.2)=([]:List Str) from rfl]at e;rw[← e];exact bt (s:=[.v t,.o (.dk (sn [])),.e,.e]) (iE (lP rfl rfl)) (CB (kc (bS rfl rfl hb) rfl) rfl)
theorem vN {t:D} {ps:List (Bool×Str)} {n:Str} (hb:db [t]=some (.lst (ps.map aM),true)) (hn:∀p∈ps,Nm p.2) (hl:ps.length<=300) (h:ft [] (ps.map (·.2))=some n):cN [t]=some (Gw n):=by
 obtain⟨s,e⟩:=vM hb hn hl;rw[h]at e;exact dX rfl e
theorem vO {t:D} {ps:List (Bool×Str)} (hb:db [t]=some (.lst (ps.map aM),true)) (hn:∀p∈ps,Nm p.2) (hl:ps.length<=300) (h:ft [] (ps.map (·.2))=none):cN [t]=none/\dG [t]=some (.non,false):=by
 obtain⟨s,e⟩:=vM hb hn hl;rw[h]at e;exact⟨gR e,bh (o:=.nx s) rfl (nG e) rfl⟩
theorem um:∀(ws g:List Str),(gr g ws).length<=ws.length+1
 | [],g=>by unfold gr;split<;>simp
 | w::r,g=>by
  by_cases hc:w="]"∨w=")"
  ·rw[show gr g (w::r)=(g++[w])::gr [] r from Ad hc,Yc,Yc];have:=um r [];lia
  ·rw[show gr g (w::r)=gr (g++[w]) r from Ag hc,Yc];have:=um r (g++[w]);lia
structure GT (ss:List bj):Prop where
 nm:∀s∈ss,∀p∈s.2,Nm p.2
 ne:∀s∈ss,s.2≠[]
 l1:(ss.flatMap (·.2)).length<=300
 l2:ss.length<=300
theorem GT.len {ss:List bj} (h:GT ss):∀s∈ss,s.2.length<=1000:=fun s hs=>by
 have h1:s.2.length<=(ss.flatMap (·.2)).length:=by
  obtain⟨a,b,rfl⟩:=List.append_of_mem hs;rw[Qh,Qd,Xa,Xa];lia
 have:=h.l1;lia
abbrev Jz:FI:=ml (bV dE (ab (bV bo (ab (aJ 0) (ab (fC (.str "[]()")) aj))) aj))
theorem zE {x:Str} {ws:List Str} (hw:bo [.str x,.str "[]()"]=some (.lst (ws.map D.str),true)) (hl:ws.length<=9000):Jz [.v (.str x),.e]=some ((gr [] ws).map gD,[.v (.str x),.e]) :=
 kc (bS (aA (bS rfl rfl hw) rfl) rfl (Gv hl)) rfl
theorem uo {ws:List Str} (hl:ws.length<=9000):(gO [] 2&&decide (((gr [] ws).map gD).length<=1000000))=true:=by
 have:=um ws [];rw[Ya,Af (by lia:(gr [] ws).length<=1000000)];rfl
theorem pJ {ss:List bj} (h:GT ss):∀s∈ss,∃s1 s2 rs s3 ds s4 z s5 s6,gN 0 (gD (tw s)) [.e]=some s1/\fD s1=some (true,s2)/\(ab (aJ 0) aj) s2=some (rs,s3)/\bK rs s3=some (ds,s4)/\bP ds=none/\bV bQ (ab (aJ 0) aj) s2=some (z,s5)/\esc z s5=some (kB s,s6)/\kR 1 s6=[.e]:=fun s hs=>by
 obtain⟨r1,r2⟩:=pI (h.nm s hs) (h.ne s hs) (h.len s hs);exact⟨[.v (gD (tw s))],[.v (gD (tw s))],_,[.v (gD (tw s))],[gD (tw s)],[.v (gD (tw s))],.d (kB s),[.v (gD (tw s))],[.v (gD (tw s))],rfl,rfl,rfl,rfl,r1,bS rfl rfl r2,rfl,rfl⟩
theorem Gz {x:Str} {ws g:List Str} {ss:List bj} {r:List (List Str)} (hw:bo [.str x,.str "[]()"]=some (.lst (ws.map D.str),true)) (hl:ws.length<=9000) (e:gr [] ws=ss.map tw++g::r) (h:GT ss) (hg:∀y∈g,Ft y) (hgl:g.length<=9000) (b:C6 g):de [.str x]=some wX:=by
 refine dX rfl (eJ (CD (pA (zE hw hl) (uo hl) ?_)));rw[e,Ze,Vi,Qc];rw[show ss.map (gD ∘ tw)=ss.map (fun s=>gD (tw s)) from rfl];show yX (gN 0) fD bP bQ (ab (aJ 0) aj) 1 _ [.e]=_;rw[y2 (fun s=>gD (tw s)) kB [.e] ss _ (pJ h)];exact Ij (s1:=[.v (gD g)]) rfl rfl rfl rfl (zB hg (by lia) b)
theorem vP {x:Str} {ws:List Str} {ss:List bj} (hw:bo [.str x,.str "[]()"]=some (.lst (ws.map D.str),true)) (hl:ws.length<=9000) (e:gr [] ws=ss.map tw) (h:GT ss) :
  (∀n,ft [] ((ss.flatMap (·.2)).map (·.2))=some n->de [.str x]=some (Gw n))/\(ft [] ((ss.flatMap (·.2)).map (·.2))=none->de [.str x]=none/\gX [.str x]=some (.tup (ss.map kB),false)):=by
 have ed:(gr [] ws).map gD=ss.map (fun s=>gD (tw s)):=by rw[e,Vi];rfl
 have hn:∀p∈ss.flatMap (·.2),Nm p.2:=fun p hp=>by
  obtain⟨s,hs,hp⟩:=List.mem_flatMap.mp hp;exact h.nm s hs p hp
 have hc:eQ 1 [] Jz (gN 0) fD (bV bQ (ab (aJ 0) aj)) [.v (.str x),.e]=some (.f (.lst (ss.map kB)),[.v (.str x),.e]):=by
  refine f8 (zE hw hl) (uo hl) (s2:=[.e]) ?_;rw[ed];refine jw (fun s=>gD (tw s)) kB [.e] ss fun s hs=>?_;obtain⟨r1,r2⟩:=pI (h.nm s hs) (h.ne s hs) (h.len s hs);exact⟨[.v (gD (tw s))],[.v (gD (tw s))],.d (kB s),[.v (gD (tw s))],[.v (gD (tw s))],rfl,rfl,bS rfl rfl r2,rfl,rfl⟩
 have h1:kl 1 [] Jz (gN 0) fD bP bQ (ab (aJ 0) aj) (fun fe=>aY (d6 iW (ab fe aj)) 1) [.v (.str x),.e]=some (.o (.nx [.v (.str x),.v (.tup (ss.map kB))])):=by
  refine CC (pA (zE hw hl) (uo hl) ?_) (bX (s:=[.v (.str x),.e]) (ef (aA hc rfl) rfl (sI _)) rfl);have:=y2 (fg:=gN 0) (k:=1) (R:=bP) (g:=bQ) (fa:=ab (aJ 0) aj) (fun s=>gD (tw s)) kB [.e] ss [] (pJ h);rw[Xc]at this;rw[ed];exact this
 have hb:=wW h.l1 h.l2;refine⟨fun n hft=>?_,fun hft=>?_⟩
 ·exact dX rfl (bt h1 (eJ (vy (s1:=[.v (.str x),.v (.tup (ss.map kB))]) rfl rfl (vN hb hn h.l1 hft))))
 ·obtain⟨t1,t2⟩:=vO hb hn h.l1 hft;have:gW [.v (.str x),.e]=some (.o (.rt (.d (.tup (ss.map kB))) [.v (.str x),.v (.tup (ss.map kB))])) :=
   bt h1 (bt (s:=[.v (.str x),.v (.tup (ss.map kB))]) (vx (s1:=[.v (.str x),.v (.tup (ss.map kB))]) rfl rfl t1 (b9 (bS rfl rfl t2))) (iE rfl))
  exact⟨gR this,bh rfl (nG this) rfl⟩
def IH (ws:List Str):Prop:=ws.length<2∨(∃a,ws.head?=some a/\a≠"|")∨(∃a,ws.getLast?=some a/\a≠"|")∨∃y∈mid ws,rq y=false
theorem vQ {x:Str} {ws:List Str} (hw:bo [.str x,.str "|"]=some (.lst (ws.map D.str),true)):qr (aY (bV bo (ab (aJ 0) (ab (fC (.str "|")) aj))) 1) [.v (.str x),.e,.e]=some (.o (.nx [.v (.str x),.o (.lst (ws.map D.str)),.e])):=iE (lP (s:=[.v (.str x),.e,.e]) (bS rfl rfl hw) rfl)
theorem JA {x:Str} {ws:List Str} {o:Sl}:aE (aL G5 (d6 fT (ab (aJ 1) aj)) (fC (.int 2))) [.v (.str x),.o (.lst (ws.map D.str)),o]=some (decide ((ws.length:Int)<2),[.v (.str x),.o (.lst (ws.map D.str)),o]):=by
 refine aD (ay (ef rfl rfl rfl) rfl rfl rfl rfl) ?_;show some (decide (((ws.map D.str).length:Int)<2))=_;rw[Ya]
theorem GA {x:Str} {ws:List Str} (hw:bo [.str x,.str "|"]=some (.lst (ws.map D.str),true)) (hl:ws.length<=9000) (hf:∀y∈ws,Ft y) (b:IH ws):cO [.str x]=some wX:=by
 refine dX rfl (bt (vQ hw) ?_);by_cases c2:ws.length<2
 ·exact eJ (lR (s:=[.v (.str x),.o (.lst (ws.map D.str)),.e]) (Cf (cH JA (Af (by lia)))) rfl)
 have t1:=cH (JA (x:=x) (ws:=ws) (o:=.e)) (c:=false) (Ae (by lia))
 obtain⟨a,r,rfl⟩:∃a r,ws=a::r:=by
  cases ws with
  | nil=>simp at c2
  | cons a r=>exact⟨a,r,rfl⟩
 obtain⟨l,hlast⟩:∃l,(a::r).getLast?=some l:=⟨(a::r).getLast (by simp),Bu _⟩
 have e0:aE (aL o7 (aL cM (aJ 1) (fC (.int 0))) (fC (.str "|"))) [.v (.str x),.o (.lst ((a::r).map D.str)),.e]=some (!decide (a="|"),[.v (.str x),.o (.lst ((a::r).map D.str)),.e]):=aD (ay (ay rfl rfl rfl rfl (kC rfl)) rfl rfl rfl (fk _ _)) rfl;have e1:aE (aL o7 (aL cM (aJ 1) (uR j4 (fC (.int 1)))) (fC (.str "|"))) [.v (.str x),.o (.lst ((a::r).map D.str)),.e]=some (!decide (l="|"),[.v (.str x),.o (.lst ((a::r).map D.str)),.e]):=aD (ay (ay rfl rfl rfl rfl (mO hlast)) rfl rfl rfl (fk _ _)) rfl;by_cases ca:a="|"
 ·rw[Af ca]at e0;by_cases cl:l="|"
  ·rw[Af cl]at e1;have hx:∃y∈mid (a::r),rq y=false:=by
    rcases b with b|⟨y,hy,h1⟩|⟨y,hy,h1⟩|b
    ·exact absurd b c2
    ·cases hy;exact absurd ca h1
    ·rw[hlast]at hy;cases hy;exact absurd cl h1
    ·exact b
   refine bt (nF (s:=[.v (.str x),.o (.lst ((a::r).map D.str)),.e]) (kX t1 (kX e0 e1)) rfl) (eJ (mJ (s1:=[.v (.str x),.o (.lst ((a::r).map D.str)),.e]) (aA (gy rfl rfl rfl rfl (mN (a::r) (by simp)) rfl) rfl) rfl (vJ (fun y hy=>hf y (vK hy)) (by unfold mid;rw[A6,Br];lia) ?_)))
   obtain⟨y,hy,hk⟩:=hx;rw[List.all_eq_false];exact⟨y,hy,by rw[hk];decide⟩
  ·rw[Ae cl]at e1;exact eJ (lR (kX t1 (kX e0 e1)) rfl)
 ·rw[Ae ca]at e0;exact eJ (lR (kX t1 (Cf e0)) rfl)
def sJ:Str:="|"
def lw (ps:List (Bool×Str)):List Str:=sJ::(ps.map bd++[sJ])
theorem vR {x:Str} {ps:List (Bool×Str)} (hw:bo [.str x,.str "|"]=some (.lst ((lw ps).map D.str),true)) (hl:ps.length<=300) (hn:∀p∈ps,Nm p.2) :
  (∀n,ft [] (ps.map (·.2))=some n->cO [.str x]=some (Gw n))/\(ft [] (ps.map (·.2))=none->cO [.str x]=none/\ge [.str x]=some (.tup (ps.map aM),false)):=by
 have hm:mid (lw ps)=ps.map bd:=by unfold mid lw;rw[Wn,Vh]
 have sl:=mN (lw ps) (by unfold lw;simp)
 rw[hm,qQ]at sl;have hla:(lw ps).getLast?=some "|":=by unfold lw;rw[List.getLast?_cons,List.getLast?_append];rfl
 have a0:=kC (w:=lw ps) (a:="|") rfl;have a1:=mO hla;have t1:=JA (x:=x) (ws:=lw ps) (o:=.e);rw[Ae (by unfold lw;simp;lia)]at t1
 obtain⟨g1,g2⟩:=jJ (ws:=ps.map bd) (fun y hy=>by
  obtain⟨p,hp,rfl⟩:=Wc.mp hy;exact zy (hn p hp)) (by rw[Ya];lia) (by
  rw[Xg];intro y hy;obtain⟨p,hp,rfl⟩:=Wc.mp hy
  exact zx (hn p hp))
 rw[qQ]at g1 g2;have h0:=vQ hw;generalize hL:(lw ps).map D.str=L at sl a0 a1 t1 h0;have h2:yP (jU (aE (aL G5 (d6 fT (ab (aJ 1) aj)) (fC (.int 2)))) (jU (aE (aL o7 (aL cM (aJ 1) (fC (.int 0))) (fC (.str "|")))) (aE (aL o7 (aL cM (aJ 1) (uR j4 (fC (.int 1)))) (fC (.str "|")))))) (kh "BadText") (qr bn) [.v (.str x),.o (.lst L),.e]=some (.o (.nx [.v (.str x),.o (.lst L),.e])):=by
  refine nF (kX t1 (kX (cH (aD (ay (ay rfl rfl rfl rfl a0) rfl rfl rfl (fk _ _)) rfl) ?_) (cH (aD (ay (ay rfl rfl rfl rfl a1) rfl rfl rfl (fk _ _)) rfl) ?_))) rfl
  ·rw[Af rfl];rfl
  ·rw[Af rfl];rfl
 have h3:hY dR fJ (ab (w9 zV (aJ 1) (gw (fC (.int 1))) (gw (uR j4 (fC (.int 1))))) aj) (fun fe=>aY fe 2) [.v (.str x),.o (.lst L),.e]=some (.o (.nx [.v (.str x),.o (.lst L),.v (.tup (ps.map aM))])) :=
  km (s1:=[.v (.str x),.o (.lst L),.e]) (aA (gy rfl rfl rfl rfl sl rfl) rfl) rfl g1 (bX (s:=[.v (.str x),.o (.lst L),.e]) (bS (aA (gy rfl rfl rfl rfl sl rfl) rfl) rfl g2) rfl)
 have hb:=uk hl;refine⟨fun n hft=>?_,fun hft=>?_⟩
 ·exact dX rfl (bt h0 (bt h2 (bt h3 (eJ (vy (s1:=[.v (.str x),.o (.lst L),.v (.tup (ps.map aM))]) rfl rfl (vN hb hn hl hft))))))
 ·obtain⟨t1,t2⟩:=vO hb hn hl hft;have:gd [.v (.str x),.e,.e]=some (.o (.rt (.d (.tup (ps.map aM))) [.v (.str x),.o (.lst L),.v (.tup (ps.map aM))])) :=
   bt h0 (bt h2 (bt h3 (bt (s:=[.v (.str x),.o (.lst L),.v (.tup (ps.map aM))]) (vx (s1:=[.v (.str x),.o (.lst L),.v (.tup (ps.map aM))]) rfl rfl t1 (b9 (bS rfl rfl t2))) (iE rfl))))
  exact⟨gR this,bh rfl (nG this) rfl⟩
end
end K06
namespace VT
open PySem PySem.Spec PyProof.Rows L2 VF
def zF (ms x:List Nat) (done:List (List Nat)) (w:Bool):Prop:=∃pre acc,(∀rest,wt ms [] (x++rest)=pre++wt ms acc rest)/\pre++em acc=done/\(w=false->acc=[])
theorem C9 (ms:List Nat):zF ms [] [] false:=⟨[],[],fun _=>rfl,rfl,fun _=>rfl⟩
theorem qS {ms x g:List Nat} {done:List (List Nat)} {w:Bool} (h:zF ms x done w) (hb:32∉ms) (hg:∀k∈g,za k) (hn:g=[]->w=false):zF ms (x++g) done false:=by
 obtain⟨pre,acc,h1,h2,h3⟩:=h;by_cases e:g=[]
 ·subst e;rw[Xc];exact⟨pre,acc,h1,h2,fun _=>h3 (hn rfl)⟩
 ·refine⟨done,[],fun rest=>?_,by rw[qz,Xc],fun _=>rfl⟩
  rw[Wd,h1,CJ hb hg e,← Wd,h2]
theorem sK {ms x:List Nat} {c:Nat} {done:List (List Nat)} {w:Bool} (h:zF ms x done w) (hb:32∉ms) (hb2:10∉ms) (hc:c∈ms):zF ms (x++[c]) (done++[[c]]) false:=by
 obtain⟨pre,acc,h1,h2,h3⟩:=h;refine⟨done++[[c]],[],fun rest=>?_,by rw[qz,Xc],fun _=>rfl⟩
 rw[Wd,h1];show pre++wt ms acc (c::rest)=_;rw[CK hc hb hb2,← Wd,h2,Wd];rfl
theorem zG {ms x u:List Nat} {done:List (List Nat)} (h:zF ms x done false) (hu:∀k∈u,Gc ms k) (hn:u≠[]):zF ms (x++u) (done++[u]) true:=by
 obtain⟨pre,acc,h1,h2,h3⟩:=h;obtain rfl:=h3 rfl;rw[qz,Xc]at h2;subst h2;refine⟨pre,u,fun rest=>?_,by rw[em,Ag hn],fun z=>nomatch z⟩
 rw[Wd,h1,vE hu,Qi]
theorem vS {ms x:List Nat} {done:List (List Nat)} {w:Bool} (h:zF ms x done w):wt ms [] x=done:=by
 obtain⟨pre,acc,h1,h2,h3⟩:=h;have:=h1 [];rw[Xc]at this;rw[this,Ge,h2]
end VT
namespace VF
open PySem L2
theorem wY {x:Str} {xs:List Str}:jt (.str x) (.lst (xs.map D.str))=some (.bl (!decide (x∈xs)),false):=by
 have h:=u9 (x:=x) (xs:=xs);have e1:rR false (.str x) (.lst (xs.map D.str))=none:=rfl;have e2:rR true (.str x) (.lst (xs.map D.str))=none:=rfl;have f1:qg false (.str x) (.lst (xs.map D.str))=(lO (xs.map D.str)).bind (fun ws=>some (D.bl (wf (.str x) ws),false)):=rfl;have f2:qg true (.str x) (.lst (xs.map D.str))=(lO (xs.map D.str)).bind (fun ws=>some (D.bl (!wf (.str x) ws),false)):=rfl;unfold wx lN at h;rw[e1]at h;unfold jt lN;rw[e2];have h':qg false (.str x) (.lst (xs.map D.str))=some (.bl (decide (x∈xs)),false):=h;show qg true (.str x) (.lst (xs.map D.str))=_;rw[f1,iY]at h';rw[f2,iY];have h2:(some (D.bl (wf (.str x) (xs.map V.str)),false):Option (D×Bool))=some (.bl (decide (x∈xs)),false):=h';injection h2 with h2;injection h2 with h2;injection h2 with h2;show some (D.bl (!wf (.str x) (xs.map V.str)),false)=_;rw[h2]
end VF
namespace K06
open PySem L2 VF VL VF22 VX VT
noncomputable section
abbrev mS:List Nat:=[91,93,40,41]
theorem II:("[]()":Str).cps.toList=mS:=by decide +kernel
theorem GB:("|":Str).cps.toList=[124]:=by decide +kernel
theorem mP (a b:Str):(a++b).cps.toList=a.cps.toList++b.cps.toList:=by rw[Au,Zg]
abbrev marksS:List Str:=["[","]","(",")","|"]
abbrev gapA:List Str:=[""," ","\n","  "," \n","\n     "]
abbrev gapB:List Str:=[" ","\n","  ","\n "," ","     "]
abbrev gapC:List Str:=[""," ","\n"," \n"]
theorem GC:∀x∈gapA,x.cps.toList.length<=6/\∀k∈x.cps.toList,za k:=by unfold za;decide +kernel
theorem GE:∀x∈gapB,x.cps.toList.length<=6/\(∀k∈x.cps.toList,za k)/\x.cps.toList≠[]:=by unfold za;decide +kernel
theorem GF:∀x∈gapC,x.cps.toList.length<=6/\∀k∈x.cps.toList,za k:=by unfold za;decide +kernel
def ou (ms:List Nat) (t:Str):Bool:=ms.any fun c=>decide (t.cps.toList=[c])
def Ec (ms:List Nat) (t:Str):Prop:=t.cps.toList≠[]/\∀k∈t.cps.toList,Gc ms k
def ji (ms:List Nat):Bool->Bool->List Str->Prop
 | _,_,[]=>True
 | pw,lw,t::r=>(ou ms t=false->pw=true->lw=true/\t∉marksS)/\ji ms (!ou ms t) (!decide (t∈marksS)) r
theorem Da {φ L:D} {x t:Str} {w:Bool} {o5:Sl} (hφ:bH φ) (l1:t.cps.toList.length<=9) (hx:x.cps.toList.length<=900000) (q5:o5.isIo=false) :
  ∃(φ':D) (g:Str) (o5':Sl),fN [.io φ,.v L,.v (.str x),.v (.bl w),.v (.str t),o5]=some (.nx [.io φ',.v L,.v (.str (x++g++t)),.v (.bl (!decide (t∈marksS))),.v (.str t),o5'])/\bH φ'/\o5'.isIo=false/\g.cps.toList.length<=6/\(∀k∈g.cps.toList,za k)/\(g.cps.toList=[]->w=true->t∈marksS):=by
 obtain⟨d,φ1,e1,d0,d1,f1⟩:=bC (n:=6) hφ (by decide) (by decide)
 have e0:aY (bU (fF gapA)) 5 [.io φ,.v L,.v (.str x),.v (.bl w),.v (.str t),o5]=some (.nx [.io φ,.v L,.v (.str x),.v (.bl w),.v (.str t),.o (.lst (gapA.map D.str))]):=lP rfl (cb rfl q5);have nt:∀(a b:Sl) (y:Str) (o:Sl),aL jt (aJ 4) (bU (fF marksS)) [a,b,.v (.str y),.v (.bl w),.v (.str t),o]=some (.d (.bl (!decide (t∈marksS))),[a,b,.v (.str y),.v (.bl w),.v (.str t),o]):=fun a b y o =>
  ay (d1:=.str t) (d2:=.lst (marksS.map D.str)) (z:=(.bl (!decide (t∈marksS)),false)) rfl rfl rfl rfl (wY (xs:=marksS))
 have fin:∀(gs:List Str) (g:Str),i8 (gs.map D.str) d=some (.str g)->g.cps.toList.length<=6->aH (aY (aL cP (aL cP (aJ 2) (aL cM (aJ 5) (d7 ax 0 (ab (fC (.int 6)) aj)))) (aJ 4)) 2) (aY (aL jt (aJ 4) (bU (fF ["[","]","(",")","|"]))) 3)
   [.io φ,.v L,.v (.str x),.v (.bl w),.v (.str t),.o (.lst (gs.map D.str))]=some (.nx [.io φ1,.v L,.v (.str (x++g++t)),.v (.bl (!decide (t∈marksS))),.v (.str t),.o (.lst (gs.map D.str))]):=fun gs g hg lg=>by
  have b1:x.length+g.length<=1000000:=by rw[dJ,dJ];lia
  have b2:(x++g).length+t.length<=1000000:=by rw[An,dJ,dJ,dJ];lia
  refine ai (s:=[.io φ1,.v L,.v (.str (x++g++t)),.v (.bl w),.v (.str t),.o (.lst (gs.map D.str))]) (bX (s:=[.io φ1,.v L,.v (.str x),.v (.bl w),.v (.str t),.o (.lst (gs.map D.str))]) (x:=.str (x++g++t)) ?_ rfl) (bX (nt _ _ _ _) rfl);exact ay (ay rfl (ay rfl (bA rfl rfl rfl rfl rfl rfl e1) rfl rfl (dI hg)) rfl rfl (iX b1)) rfl rfl rfl (iX b2)
 by_cases c:w=true/\t∉marksS
 ·obtain⟨g,hg,hm,_⟩:=gK (xs:=gapB.map D.str) d0 d1;obtain⟨g,hm2,rfl⟩:=Wc.mp hm;obtain⟨b1,b2,b3⟩:=GE g hm2;refine⟨φ1,g,.o (.lst (gapB.map D.str)),?_,f1,rfl,b1,b2,fun z=>absurd z b3⟩;refine ai e0 (ai (s:=[.io φ,.v L,.v (.str x),.v (.bl w),.v (.str t),.o (.lst (gapB.map D.str))]) (eI (jc (s:=[.io φ,.v L,.v (.str x),.v (.bl w),.v (.str t),.o (.lst (gapA.map D.str))]) ?_ (aD (nt _ _ _ _) ?_)) rfl) (fin gapB g hg b1))
  ·rw[c.1];rfl
  ·rw[Ae c.2];rfl
 ·obtain⟨g,hg,hm,_⟩:=gK (xs:=gapA.map D.str) d0 d1;obtain⟨g,hm2,rfl⟩:=Wc.mp hm;obtain⟨b1,b2⟩:=GC g hm2;refine⟨φ1,g,.o (.lst (gapA.map D.str)),?_,f1,rfl,b1,b2,fun _ hw=>BE fun hb=>c ⟨hw,hb⟩⟩;refine ai e0 (ai (eX (s:=[.io φ,.v L,.v (.str x),.v (.bl w),.v (.str t),.o (.lst (gapA.map D.str))]) ?_ rfl) (fin gapA g hg b1));cases w with
  | false=>exact u7 rfl
  | true =>
   refine jc (s:=[.io φ,.v L,.v (.str x),.v (.bl true),.v (.str t),.o (.lst (gapA.map D.str))]) rfl (cH (aD (nt _ _ _ _) rfl) ?_);rw[Af (BE fun hb=>c ⟨rfl,hb⟩)];rfl
theorem vT {ms:List Nat} (hb:32∉ms) (hb2:10∉ms) {L:D}:∀(ts:List Str) (φ:D) (x:Str) (done:List (List Nat)) (pw lw:Bool) (o4 o5:Sl),bH φ->o4.isIo=false->o5.isIo=false->ji ms pw lw ts->zF ms x.cps.toList done pw->(∀t∈ts,(ou ms t=true∨Ec ms t)/\t.cps.toList.length<=9)->x.cps.toList.length+15*ts.length<=9900 ->
  ∃(φ':D) (x':Str) (pw' lw':Bool) (o4' o5':Sl),dq (gN 4) fN (ts.map D.str) [.io φ,.v L,.v (.str x),.v (.bl lw),o4,o5]=some (.nx [.io φ',.v L,.v (.str x'),.v (.bl lw'),o4',o5'])/\bH φ'/\zF ms x'.cps.toList (done++ts.map fun t=>t.cps.toList) pw'/\x'.cps.toList.length<=9900
 | [],φ,x,done,pw,lw,o4,o5,hφ,_,_,_,r,_,hl=>⟨φ,x,pw,lw,o4,o5,rfl,hφ,by rw[Bj,Xc];exact r,by lia⟩
 | t::ts,φ,x,done,pw,lw,o4,o5,hφ,q4,q5,ho,r,ht,hl=>by
  rw[Yc]at hl;obtain⟨h1,h2⟩:=ho;obtain⟨k1,k2⟩:=ht t (Qa ..);obtain⟨φ1,g,o5',e2,f2,q5',l2,b2,n2⟩:=Da (L:=L) (x:=x) (t:=t) (w:=lw) (o5:=o5) hφ k2 (by lia) q5
  have e1:gN 4 (.str t) [.io φ,.v L,.v (.str x),.v (.bl lw),o4,o5]=some [.io φ,.v L,.v (.str x),.v (.bl lw),.v (.str t),o5]:=cb rfl q4;have ec:(x++g++t).cps.toList=x.cps.toList++g.cps.toList++t.cps.toList:=by rw[mP,mP]
  have r1:zF ms (x++g++t).cps.toList (done++[t.cps.toList]) (!ou ms t):=by
   rw[ec];cases hm:ou ms t with
   | true =>
    obtain⟨c,hc,hct⟩:=List.any_eq_true.mp hm;rw[Ap hct];by_cases eg:g.cps.toList=[]
    ·rw[eg,Xc];exact sK r hb hb2 hc
    ·exact sK (qS r hb b2 fun z=>absurd z eg) hb hb2 hc
   | false =>
    have k:Ec ms t:=by
     rcases k1 with k1|k1
     ·rw[hm]at k1;cases k1
     ·exact k1
    refine zG (qS r hb b2 fun z=>?_) k.2 k.1;cases hpw:pw with
    | false=>rfl
    | true =>
     obtain⟨a1,a2⟩:=h1 hm hpw;exact absurd (n2 z a1) a2
  obtain⟨φ',x',pw',lw',o4',o5'',e3,f3,r3,l3⟩:=vT hb hb2 (L:=L) ts φ1 (x++g++t) (done++[t.cps.toList]) _ _ (.v (.str t)) o5' f2 rfl q5' h2 r1 (fun y hy=>ht y (Yb _ hy)) (by rw[ec,Xa,Xa];lia)
  refine⟨φ',x',pw',lw',o4',o5'',?_,f3,?_,l3⟩
  ·rw[Qc];simp only[dq,e1,Za];rw[e2];exact e3
  ·rw[Qc];rw[Wd]at r3;exact r3
theorem uq {ms:List Nat} (hb:32∉ms) (hb2:10∉ms) {φ:D} {ts:List Str} (hφ:bH φ) (ht:∀t∈ts,(ou ms t=true∨Ec ms t)/\t.cps.toList.length<=9) (ho:ji ms false false ts) (hl:ts.length<=600) :
  ∃(x:Str) (φ':D),bB φ [.lst (ts.map D.str)]=some ((.str x,false),φ')/\bH φ'/\x.cps.toList.length<=10000/\wt ms [] x.cps.toList=ts.map fun t=>t.cps.toList:=by
 obtain⟨φ1,x,pw,w,o4,o5,e,f1,r,lx⟩:=vT hb hb2 (L:=.lst (ts.map D.str)) ts φ "" [] false false .e .e hφ rfl rfl ho (C9 ms) ht (by show 0+_<=_;lia)
 obtain⟨d,φ2,e1,d0,d1,f2⟩:=bC (n:=4) f1 (by decide) (by decide)
 obtain⟨g,hg,hm,_⟩:=gK (xs:=gapC.map D.str) d0 d1;obtain⟨g,hm2,rfl⟩:=Wc.mp hm;obtain⟨b1,b2⟩:=GF g hm2;refine⟨x++g,φ2,?_,f2,by rw[mP,Xa];lia,?_⟩
 ·refine bY (o:=.rt (.d (.str (x++g))) [.io φ2,.v (.lst (ts.map D.str)),.v (.str x),.v (.bl w),o4,o5]) rfl ?_ rfl;refine ai rfl (ai rfl (ai (fI (kc rfl rfl) e) (bL (ay rfl (ay (d1:=.lst (gapC.map D.str)) rfl (bA rfl rfl rfl rfl rfl rfl e1) rfl rfl (dI hg)) rfl rfl (iX (by rw[dJ,dJ];lia))))))
 ·rw[mP];by_cases e:g.cps.toList=[]
  ·rw[e,Xc];exact vS r
  ·exact vS (qS r hb b2 fun z=>absurd z e)
theorem zH {m:Str} (hm:m="[]()"∨m="|") {φ:D} {ts:List Str} (hφ:bH φ) (ht:∀t∈ts,(ou m.cps.toList t=true∨Ec m.cps.toList t)/\t.cps.toList.length<=9) (ho:ji m.cps.toList false false ts) (hl:ts.length<=600) :
  ∃(x:Str) (φ':D),bB φ [.lst (ts.map D.str)]=some ((.str x,false),φ')/\bH φ'/\bo [.str x,.str m]=some (.lst (ts.map D.str),true):=by
 have h1:32∉m.cps.toList/\10∉m.cps.toList/\m.cps.toList.Nodup/\m.cps.toList.length<=4:=by rcases hm with rfl|rfl<;>decide +kernel
 obtain⟨x,φ',e,f,lx,w⟩:=uq h1.1 h1.2.1 hφ ht ho hl;refine⟨x,φ',e,f,?_⟩;rw[Gs h1.1 h1.2.1 h1.2.2.1 h1.2.2.2 lx,w,Vi];congr 4
theorem qT {b:Bool} {x:Str} {v:Rx} (h:(if b then cO [.str x] else de [.str x])=some v):df [.bl b,.str x]=some v:=by
 cases b with
 | true=>exact dX rfl (eJ (lR (s:=[.v (.bl true),.v (.str x)]) rfl (mJ (s1:=[.v (.bl true),.v (.str x)]) rfl rfl h)))
 | false=>exact dX rfl (bt (nF (s:=[.v (.bl false),.v (.str x)]) rfl rfl) (mJ (s1:=[.v (.bl false),.v (.str x)]) rfl rfl h))
theorem zI {b:Bool} {x:Str} {d:D} (h:(if b then cO [.str x] else de [.str x])=none) (h2:(if b then ge [.str x] else gX [.str x])=some (d,false)):df [.bl b,.str x]=none/\gY [.bl b,.str x]=some (d,false):=by
 cases b with
 | true =>
  have e:fO [.v (.bl true),.v (.str x)]=some (.o (.rt (.d d) [.v (.bl true),.v (.str x)])):=CA (lR (s:=[.v (.bl true),.v (.str x)]) rfl (km (s1:=[.v (.bl true),.v (.str x)]) rfl rfl h (bL (bS rfl rfl h2))));exact⟨gR e,bh rfl (nG e) rfl⟩
 | false =>
  have e:fO [.v (.bl false),.v (.str x)]=some (.o (.rt (.d d) [.v (.bl false),.v (.str x)])):=bt (nF (s:=[.v (.bl false),.v (.str x)]) rfl rfl) (km (s1:=[.v (.bl false),.v (.str x)]) rfl rfl h (bL (bS rfl rfl h2)));exact⟨gR e,bh rfl (nG e) rfl⟩
def cK (k y:Str):D:=.tup [.str k,.str y]
theorem zJ {b:Bool} {x:Str} {d:D} (h:df [.bl b,.str x]=none) (h2:gY [.bl b,.str x]=some (d,false)):bM [.bl b,.str x]=some (cK "read" "",false):=by
 refine bh (o:=.rt (.d (cK "read" "")) [.v (.bl b),.v (.str x),.v (cK "read" ""),.e]) rfl ?_ rfl;refine ai (s:=[.v (.bl b),.v (.str x),.v (cK "read" ""),.e]) (bX (s:=[.v (.bl b),.v (.str x),.e,.e]) (dO rfl rfl (by show 2<=1000000;decide)) rfl) ?_
 exact ai (F8 (s1:=[.v (.bl b),.v (.str x),.v (cK "read" ""),.e]) rfl rfl h (b9 (bS rfl rfl h2))) rfl
theorem zK {b:Bool} {x n:Str} (h:df [.bl b,.str x]=some (Gw n)):bM [.bl b,.str x]=some (cK "twice" n,false):=by
 refine bh (o:=.rt (.d (cK "twice" n)) [.v (.bl b),.v (.str x),.v (cK "twice" n),.e]) rfl ?_ rfl;refine ai (s:=[.v (.bl b),.v (.str x),.v (cK "read" ""),.e]) (bX (s:=[.v (.bl b),.v (.str x),.e,.e]) (dO rfl rfl (by show 2<=1000000;decide)) rfl) ?_
 refine ai (y0 (s1:=[.v (.bl b),.v (.str x),.v (cK "read" ""),.e]) (s3:=[.v (.bl b),.v (.str x),.v (cK "twice" n),.v (.xc "Twice" "name" (some n))]) rfl rfl h rfl (Qa ..) ?_ rfl) rfl;show aH _ _ [.v (.bl b),.v (.str x),.v (cK "read" ""),.v (.xc "Twice" "name" (some n))]=_;refine ai (s:=[.v (.bl b),.v (.str x),.v (cK "else" ""),.v (.xc "Twice" "name" (some n))]) (bX (s:=[.v (.bl b),.v (.str x),.v (cK "read" ""),.v (.xc "Twice" "name" (some n))]) (dO rfl rfl (by show 2<=1000000;decide)) rfl) ?_
 have t:∀(tab:List (Str×Bool)) (c:Bool) (o:Sl),tab.lookup ("Twice":Str)=some c->aE (le tab (aJ 3)) [.v (.bl b),.v (.str x),o,.v (.xc "Twice" "name" (some n))]=some (c,[.v (.bl b),.v (.str x),o,.v (.xc "Twice" "name" (some n))]):=fun tab c o hc=>aD (y1 rfl rfl hc) rfl;refine eI (jc (t _ true _ (by decide +kernel)) (jc (dw (t _ false _ (by decide +kernel))) (dw (t _ false _ (by decide +kernel))))) ?_
 refine ai (s:=[.v (.bl b),.v (.str x),.v (cK "twice" n),.v (.xc "Twice" "name" (some n))]) (eI (jc (t _ true _ (by decide +kernel)) (dw (t _ false _ (by decide +kernel)))) (bX (s:=[.v (.bl b),.v (.str x),.v (cK "else" ""),.v (.xc "Twice" "name" (some n))]) (dO (aA rfl (aA (F9 (y:=n) rfl rfl (by decide +kernel)) rfl)) rfl (by show 2<=1000000;decide)) rfl)) ?_
 exact eX (u7 (t _ false _ (by decide +kernel))) rfl
theorem zL {b:Bool} {x:Str} (h:df [.bl b,.str x]=some wX):bM [.bl b,.str x]=some (cK "bad" "",false):=by
 refine bh (o:=.rt (.d (cK "bad" "")) [.v (.bl b),.v (.str x),.v (cK "bad" ""),.e]) rfl ?_ rfl;refine ai (s:=[.v (.bl b),.v (.str x),.v (cK "read" ""),.e]) (bX (s:=[.v (.bl b),.v (.str x),.e,.e]) (dO rfl rfl (by show 2<=1000000;decide)) rfl) ?_
 refine ai (y0 (s1:=[.v (.bl b),.v (.str x),.v (cK "read" ""),.e]) (s3:=[.v (.bl b),.v (.str x),.v (cK "bad" ""),.v (.xc "BadText" "" none)]) rfl rfl h rfl (by decide +kernel) ?_ rfl) rfl
 show aH _ _ [.v (.bl b),.v (.str x),.v (cK "read" ""),.v (.xc "BadText" "" none)]=_;refine ai (s:=[.v (.bl b),.v (.str x),.v (cK "else" ""),.v (.xc "BadText" "" none)]) (bX (s:=[.v (.bl b),.v (.str x),.v (cK "read" ""),.v (.xc "BadText" "" none)]) (dO rfl rfl (by show 2<=1000000;decide)) rfl) ?_
 have t:∀(tab:List (Str×Bool)) (c:Bool) (o:Sl),tab.lookup ("BadText":Str)=some c->aE (le tab (aJ 3)) [.v (.bl b),.v (.str x),o,.v (.xc "BadText" "" none)]=some (c,[.v (.bl b),.v (.str x),o,.v (.xc "BadText" "" none)]):=fun tab c o hc=>aD (y1 rfl rfl hc) rfl;refine eI (jc (t _ true _ (by decide +kernel)) (jc (dw (t _ false _ (by decide +kernel))) (dw (t _ false _ (by decide +kernel))))) ?_
 refine ai (s:=[.v (.bl b),.v (.str x),.v (cK "else" ""),.v (.xc "BadText" "" none)]) (eX (u7 (t _ false _ (by decide +kernel))) rfl) ?_
 exact eI (jc (t _ true _ (by decide +kernel)) (dw (t _ false _ (by decide +kernel)))) (bX (s:=[.v (.bl b),.v (.str x),.v (cK "else" ""),.v (.xc "BadText" "" none)]) (dO rfl rfl (by show 2<=1000000;decide)) rfl)
theorem IJ {ds:List D}:fT [.lst ds]=some (.int (ds.length:Int),false):=rfl
theorem GG {xs:List D} {i:Int} {y:D} (h0:0<=i) (h1:i<=(xs.length:Int)) (h2:xs.length<1000000):mI (.lst xs) [.int i,y]=some (.non,.lst (mo xs i.toNat y)):=Ad ⟨h0,h1,h2⟩
theorem zM {φ T:D} {qs:List (Bool×Str)} {k:D} {o4:Sl} (hφ:bH φ) (hn:∀p∈qs,Nm p.2) (h0:qs≠[]) (hl:qs.length<=500) (q4:o4.isIo=false) :
  ∃(φ':D) (rs:List (Bool×Str)) (o4':Sl),eK [.io φ,.v T,.o (.lst (qs.map aM)),.v k,o4]=some (.nx [.io φ',.v T,.o (.lst (rs.map aM)),.v k,o4'])/\bH φ'/\o4'.isIo=false/\rs.length=qs.length+1/\(∀p∈rs,p.2∈qs.map (·.2)):=by
 have hp:0<qs.length:=Yj.mpr h0;obtain⟨d,φ1,e1,d0,d1,f1⟩:=bC (n:=(qs.length:Int)) hφ (by lia) (by lia)
 obtain⟨x,hx,hm,_⟩:=gK (xs:=qs.map aM) d0 (by rw[Ya];exact d1)
 obtain⟨p,hpq,rfl⟩:=Wc.mp hm;obtain⟨c,φ2,e2,c0,c1,f2⟩:=bC (n:=2) f1 (by decide) (by decide)
 obtain⟨i,φ3,e3,i0,i1,f3⟩:=bC (n:=(qs.length:Int)+1) f2 (by lia) (by lia)
 have s1:aY (aL cM (aJ 2) (d7 ax 0 (ab (d6 fT (ab (aJ 2) aj)) aj))) 4 [.io φ,.v T,.o (.lst (qs.map aM)),.v k,o4]=some (.nx [.io φ1,.v T,.o (.lst (qs.map aM)),.v k,.v (aM p)]):=by
  refine bX (s:=[.io φ1,.v T,.o (.lst (qs.map aM)),.v k,o4]) (ay rfl (bA rfl rfl (aA (ef rfl rfl IJ) rfl) rfl rfl rfl (by rw[Ya];exact e1)) rfl rfl (dI hx)) (cb rfl q4)
 have fin:∀(b:Bool),∃(φ':D) (rs:List (Bool×Str)),cJ (fM mH mI 2 (ab (d7 ax 0 (ab (aL cP (d6 fT (ab (aJ 2) aj)) (fC (.int 1))) aj)) (ab (aJ 4) aj))) [.io φ2,.v T,.o (.lst (qs.map aM)),.v k,.v (aM (b,p.2))]=some (.nx [.io φ',.v T,.o (.lst (rs.map aM)),.v k,.v (aM (b,p.2))])/\bH φ'/\rs.length=qs.length+1/\(∀p∈rs,p.2∈qs.map (·.2)):=fun b=>by
  refine⟨φ3,mo qs i.toNat (b,p.2),b9 (ju rfl rfl rfl (aA (bA rfl rfl (aA (ay (ef rfl rfl IJ) rfl rfl rfl rfl) rfl) rfl rfl rfl (by rw[Ya];exact e3)) rfl) rfl rfl rfl (GG i0 (by rw[Ya];lia) (by rw[Ya];lia)) ?_),f3,?_,?_⟩
  ·show [Sl.io φ3,.v T,.o (.lst (mo (qs.map aM) i.toNat (aM (b,p.2)))),.v k,.v (aM (b,p.2))]=_;unfold mo;rw[Ze,Qc,BF,BG]
  ·unfold mo;simp only[Xa,Yc,Vm,Xj];lia
  ·intro q hq;unfold mo at hq;rcases Vd.mp hq with hq|hq
   ·exact Wc.mpr ⟨q,List.mem_of_mem_take hq,rfl⟩
   ·rcases Vc.mp hq with rfl|hq
    ·exact Wc.mpr ⟨p,hpq,rfl⟩
    ·exact Wc.mpr ⟨q,List.mem_of_mem_drop hq,rfl⟩
 have t2:aE (aL rj (d7 ax 0 (ab (fC (.int 2)) aj)) (fC (.int 0))) [.io φ1,.v T,.o (.lst (qs.map aM)),.v k,.v (aM p)]=some (decide (V.int c=V.int 0),[.io φ2,.v T,.o (.lst (qs.map aM)),.v k,.v (aM p)]):=aD (ay (bA rfl rfl rfl rfl rfl rfl e2) rfl rfl rfl rfl) rfl;by_cases hc:c=0
 ·obtain⟨φ',rs,e,f,g1,g2⟩:=fin (!p.1);refine⟨φ',rs,.v (aM (!p.1,p.2)),ai s1 (ai (s:=[.io φ2,.v T,.o (.lst (qs.map aM)),.v k,.v (aM (!p.1,p.2))]) (eI (cH t2 (Af (by rw[hc]))) (bX (s:=[.io φ2,.v T,.o (.lst (qs.map aM)),.v k,.v (aM p)]) (cG rfl rfl (C4 (t:=p.1) (hn p hpq)) rfl) rfl)) e),f,rfl,g1,g2⟩
 ·obtain⟨φ',rs,e,f,g1,g2⟩:=fin p.1;exact⟨φ',rs,.v (aM p),ai s1 (ai (eX (cH t2 (Ae fun z=>hc (by injection z))) rfl) e),f,rfl,g1,g2⟩
theorem ur {φ:D} {ps:List (Bool×Str)} (hφ:bH φ) (hn:∀p∈ps,Nm p.2) (h0:ps≠[]) (hl:ps.length<=300) :
  ∃(φ':D) (qs:List (Bool×Str)),gn φ [.tup (ps.map aM)]=some ((.lst (qs.map aM),true),φ')/\bH φ'/\ps.length<qs.length/\qs.length<=ps.length+4/\(∀q∈qs,q.2∈ps.map (·.2)):=by
 obtain⟨m,φ1,e1,m0,m1,f1⟩:=bC (n:=4) hφ (by decide) (by decide)
 obtain⟨M,hM⟩:∃M:Nat,(1+m).toNat=M:=⟨_,rfl⟩;have hr:qa (ab (aL cP (fC (.int 1)) (d7 ax 0 (ab (fC (.int 4)) aj))) aj) [.io φ,.v (.tup (ps.map aM)),.o (.lst (ps.map aM)),.e,.e]=some (rng 0 M,[.io φ1,.v (.tup (ps.map aM)),.o (.lst (ps.map aM)),.e,.e]):=by
  rw[← hM];exact j9 (j:=1+m) (aA (ay rfl (bA rfl rfl rfl rfl rfl rfl e1) rfl rfl rfl) rfl) rfl (by lia)
 have hrn:rng 0 M=(List.range M).map fun t=>D.int ((0+t:Nat):Int):=Ck 0 M;rw[hrn]at hr;obtain⟨sf,e,φ2,qs,o3,o4,rfl,f2,g1,g2,q3,q4⟩:=kY (fg:=gN 3) (B:=eK) (fun t:Nat=>D.int ((0+t:Nat):Int)) (List.range M)
  (fun gone s=>∃(φ2:D) (qs:List (Bool×Str)) (o3 o4:Sl),s=[.io φ2,.v (.tup (ps.map aM)),.o (.lst (qs.map aM)),o3,o4]/\bH φ2/\qs.length=ps.length+gone.length/\(∀q∈qs,q.2∈ps.map (·.2))/\o3.isIo=false/\o4.isIo=false)
  (by
   rintro gone x rest s ha ⟨φ2,qs,o3,o4,rfl,f2,g1,g2,q3,q4⟩;have hg:=congrArg List.length ha;rw[Xa,Yc,Bl]at hg;have hq:∀p∈qs,Nm p.2:=fun q hq=>by
    obtain⟨p,hp,e⟩:=Wc.mp (g2 q hq);rw[← e];exact hn p hp
   have hp:=Yj.mpr h0;obtain⟨φ3,rs,o4',e3,f3,l3,g3,g4⟩:=zM (T:=.tup (ps.map aM)) (k:=.int ((0+x:Nat):Int)) f2 hq (fun z=>by rw[z]at g1;simp at g1;lia) (by lia) q4
   refine⟨_,_,cb rfl q3,e3,φ3,rs,_,o4',rfl,f3,by rw[g3,g1,Xa,Qg];lia,fun q hq=>?_,rfl,l3⟩
   obtain⟨p,hp,e⟩:=Wc.mp (g4 q hq)
   rw[← e];exact g2 p hp)
  (List.range M) [] [.io φ1,.v (.tup (ps.map aM)),.o (.lst (ps.map aM)),.e,.e] rfl ⟨φ1,ps,.e,.e,rfl,f1,rfl,fun q hq=>Wc.mpr ⟨q,hq,rfl⟩,rfl,rfl⟩
 rw[Bl]at g1;refine⟨φ2,qs,?_,f2,by lia,by lia,g2⟩
 refine bY (o:=.rt (.s 2) [.io φ2,.v (.tup (ps.map aM)),.o (.lst (qs.map aM)),o3,o4]) rfl ?_ rfl;exact ai (s:=[.io φ,.v (.tup (ps.map aM)),.o (.lst (ps.map aM)),.e,.e]) rfl (ai (fI hr e) rfl)
theorem qU:∀(xs seen:List Str),ft seen xs=none↔xs.Nodup/\∀x∈xs,x∉seen
 | [],seen=>by simp[ft]
 | n::r,seen=>by
  unfold ft;by_cases c:n∈seen
  ·rw[Ad c];constructor
   ·intro h;cases h
   ·intro h;exact absurd c (h.2 n (Qa ..))
  ·rw[Ag c,qU r (seen++[n]),Zh];constructor
   ·rintro⟨h1,h2⟩;refine⟨⟨fun m=>(h2 n m) (by simp),h1⟩,fun x hx=>?_⟩
    rcases Vc.mp hx with rfl|hx
    ·exact c
    ·exact fun m=>h2 x hx (Wi _ m)
   ·rintro⟨⟨h1,h2⟩,h3⟩;refine⟨h2,fun x hx m=>?_⟩;rcases Vd.mp m with m|m
    ·exact h3 x (Yb _ hx) m
    ·obtain rfl:=Wb.mp m;exact h1 hx
theorem sL {T:D}:∀(ps gone:List (Bool×Str)) (o2:Sl),o2.isIo=false->(∀p∈ps,Nm p.2)->gone.length+ps.length<=900->∀n,ft (gone.map (·.2)) (ps.map (·.2))=some n ->
  ∃s:En,dq (gN 2) cr (ps.map aM) [.v T,.o (.lst ((gone.map (·.2)).map D.str)),o2]=some (.rt (.d (.str n)) s)
 | [],gone,o2,_,_,_,n,h=>nomatch h
 | p::r,gone,o2,q2,hn,hl,n,h=>by
  rw[Yc]at hl;have hp:=hn p (Qa ..);have e1:gN 2 (aM p) [.v T,.o (.lst ((gone.map (·.2)).map D.str)),o2]=some [.v T,.o (.lst ((gone.map (·.2)).map D.str)),.v (aM p)]:=cb rfl q2;have st:yi "str" jx (aJ 2) (ab (fC (.str "-")) aj) [.v T,.o (.lst ((gone.map (·.2)).map D.str)),.v (aM p)]=some (.d (.str p.2),[.v T,.o (.lst ((gone.map (·.2)).map D.str)),.v (aM p)]):=yv rfl rfl rfl rfl rfl rfl (zv hp);have t1:aE (aL wx (yi "str" jx (aJ 2) (ab (fC (.str "-")) aj)) (aJ 1)) [.v T,.o (.lst ((gone.map (·.2)).map D.str)),.v (aM p)]=some (decide (p.2∈gone.map (·.2)),[.v T,.o (.lst ((gone.map (·.2)).map D.str)),.v (aM p)]):=aD (ay st rfl rfl rfl u9) rfl;rw[Qc]at h;unfold ft at h;by_cases c:p.2∈gone.map (·.2)
  ·rw[Ad c]at h;injection h with h;subst h;have e2:cr [.v T,.o (.lst ((gone.map (·.2)).map D.str)),.v (aM p)]=some (.rt (.d (.str p.2)) [.v T,.o (.lst ((gone.map (·.2)).map D.str)),.v (aM p)]):=gP (eI (cH t1 (Af c)) (bL st));refine⟨[.v T,.o (.lst ((gone.map (·.2)).map D.str)),.v (aM p)],?_⟩;rw[Qc];simp only[dq,e1,e2,Za]
  ·rw[Ag c]at h;have e2:cr [.v T,.o (.lst ((gone.map (·.2)).map D.str)),.v (aM p)]=some (.nx [.v T,.o (.lst ((gone.map (·.2)).map D.str++[.str p.2])),.v (aM p)]):=ai (eX (cH t1 (Ae c)) rfl) (b9 (ju rfl rfl rfl (aA st rfl) rfl rfl rfl (eN (by rw[Ya,Ya];lia))))
   obtain⟨s,e3⟩:=sL (T:=T) r (gone++[p]) (.v (aM p)) rfl (fun x hx=>hn x (Yb _ hx)) (by rw[Xa,Qg];lia) n (by rw[Ze];exact h)
   refine⟨s,?_⟩;rw[Qc];simp only[dq,e1,e2,Za];rw[Ze,Ze]at e3;exact e3
theorem GH {ps:List (Bool×Str)} {n:Str} (hn:∀p∈ps,Nm p.2) (hl:ps.length<=900) (h:ft [] (ps.map (·.2))=some n):dH [.lst (ps.map aM)]=some (.str n,false):=by
 obtain⟨s,e⟩:=sL (T:=.lst (ps.map aM)) ps [] .e rfl hn (by simpa using hl) n h
 exact bh rfl (ai (s:=[.v (.lst (ps.map aM)),.o (.lst []),.e]) rfl (gP (fI (kc rfl rfl) e))) rfl
def cV (ss:List bj):List Str:=ss.flatMap tw
def jL:Option (Bool×List (Bool×Str))->List Str
 | none=>[]
 | some (r,ps)=>eU r::ps.map bd
def GI:Option (Bool×List (Bool×Str))->Str
 | none=>""
 | some (r,_)=>eU r
def zW:Option (Bool×List (Bool×Str))->List (Bool×Str)
 | none=>[]
 | some (_,ps)=>ps
theorem qV (ss:List bj) (s:bj):cV (ss++[s])=cV ss++tw s:=by unfold cV;rw[Qh];simp
theorem vU (a b:Str):rj (.str a) (.str b)=some (.bl (decide (a=b)),false):=by
 show some (D.bl (decide (V.str a=V.str b)),false)=_;congr 3;rw[AY];exact⟨fun h=>by injection h,fun h=>by rw[h]⟩
theorem zN (r:Bool):eU r≠"":=by cases r<;>decide +kernel
theorem zO {a b c d:Sl} {e:Sl} (r:Bool) (h:d=.v (.str (eU r))):aL vc (Ii "[" "]" "(" ")") (aJ 3) [a,b,c,d,e]=some (.d (.str (cls r)),[a,b,c,d,e]):=by
 subst h;cases r<;>rfl
theorem qW {φ T:D} {ss:List bj} {op:Option (Bool×List (Bool×Str))} {p:Bool×Str} (hφ:bH φ) (hl:(cV ss++jL op).length<=5000) (ho:∀r ps,op=some (r,ps)->ps≠[]) :
  ∃(φ':D) (ss':List bj) (op':Option (Bool×List (Bool×Str))),eM [.io φ,.v T,.o (.lst ((cV ss++jL op).map D.str)),.v (.str (GI op)),.v (aM p)]=some (.nx [.io φ',.v T,.o (.lst ((cV ss'++jL op').map D.str)),.v (.str (GI op')),.v (aM p)])/\bH φ'/\ss'.flatMap (·.2)++zW op'=ss.flatMap (·.2)++zW op++[p]/\(∀r ps,op'=some (r,ps)->ps≠[])/\((∀s∈ss,s.2≠[])->∀s∈ss',s.2≠[]):=by
 obtain⟨φ1,r,ps,e1,f1,hb,hn⟩:∃(φ1:D) (r:Bool) (ps:List (Bool×Str)),gM (aE (aL rj (aJ 3) (fC (.str "")))) (aH (aY (aL cM (fC (.str "[(")) (d7 ax 0 (ab (fC (.int 2)) aj))) 3) (cJ (fM mH cj 2 (ab (aJ 3) aj)))) bn [.io φ,.v T,.o (.lst ((cV ss++jL op).map D.str)),.v (.str (GI op)),.v (aM p)]=some (.nx [.io φ1,.v T,.o (.lst ((cV ss++jL (some (r,ps))).map D.str)),.v (.str (eU r)),.v (aM p)])/\bH φ1/\ps=zW op/\ps.length+0<=(cV ss++jL op).length:=by
  cases op with
  | some q =>
   obtain⟨r,ps⟩:=q;exact⟨φ,r,ps,eX (cH (aD (ay rfl rfl rfl rfl (vU _ _)) rfl) (Ae (zN r))) rfl,hφ,rfl,by simp[jL];lia⟩
  | none =>
   obtain⟨d,φ1,e1,d0,d1,f1⟩:=bC (n:=2) hφ (by decide) (by decide)
   obtain⟨r,hr⟩:∃r:Bool,cM (.str "[(") (.int d)=some (.str (eU r),false):=by
    have:d=0∨d=1:=by lia
    rcases this with rfl|rfl
    ·exact⟨false,rfl⟩
    ·exact⟨true,rfl⟩
   refine⟨φ1,r,[],eI (cH (aD (ay rfl rfl rfl rfl (vU _ _)) rfl) (Af rfl)) (ai (s:=[.io φ1,.v T,.o (.lst ((cV ss++jL none).map D.str)),.v (.str (eU r)),.v (aM p)]) (bX (s:=[.io φ1,.v T,.o (.lst ((cV ss++jL none).map D.str)),.v (.str (GI none)),.v (aM p)]) (ay rfl (bA rfl rfl rfl rfl rfl rfl e1) rfl rfl hr) rfl) (b9 (ju rfl rfl rfl rfl rfl rfl rfl (eN (by rw[Ya];lia)) ?_))),f1,rfl,by simp⟩
   show [Sl.io φ1,.v T,.o (.lst ((cV ss++jL none).map D.str++[.str (eU r)])),.v (.str (eU r)),.v (aM p)]=_;simp[jL]
 have e2:cJ (fM mH cj 2 (ab (aJ 4) aj)) [.io φ1,.v T,.o (.lst ((cV ss++jL (some (r,ps))).map D.str)),.v (.str (eU r)),.v (aM p)]=some (.nx [.io φ1,.v T,.o (.lst ((cV ss++jL (some (r,ps++[p]))).map D.str)),.v (.str (eU r)),.v (aM p)]):=by
  refine b9 (ju rfl rfl rfl rfl rfl rfl rfl (eN ?_) ?_)
  ·rw[Ya,Xa];rw[Xa]at hl hn;simp only[jL,Yc,Ya];lia
  ·show [Sl.io φ1,.v T,.o (.lst ((cV ss++jL (some (r,ps))).map D.str++[aM p])),.v (.str (eU r)),.v (aM p)]=_;simp[jL,aM]
 obtain⟨d,φ2,e3,d0,d1,f2⟩:=bC (n:=3) f1 (by decide) (by decide)
 have t3:aE (aL rj (d7 ax 0 (ab (fC (.int 3)) aj)) (fC (.int 0))) [.io φ1,.v T,.o (.lst ((cV ss++jL (some (r,ps++[p]))).map D.str)),.v (.str (eU r)),.v (aM p)]=some (decide (V.int d=V.int 0),[.io φ2,.v T,.o (.lst ((cV ss++jL (some (r,ps++[p]))).map D.str)),.v (.str (eU r)),.v (aM p)]):=aD (ay (bA rfl rfl rfl rfl rfl rfl e3) rfl rfl rfl rfl) rfl;by_cases hd:d=0
 ·refine⟨φ2,ss++[(r,ps++[p])],none,ai e1 (ai e2 (eI (cH t3 (Af (by rw[hd]))) (ai (s:=[.io φ2,.v T,.o (.lst ((cV (ss++[(r,ps++[p])])++jL none).map D.str)),.v (.str (eU r)),.v (aM p)]) (b9 (ju rfl rfl rfl (aA (zO r rfl) rfl) rfl rfl rfl (eN ?_) ?_)) rfl))),f2,?_,(fun _ _ h=>(by cases h)),fun h s hs=>?_⟩
  ·rw[Ya,Xa];rw[Xa]at hl hn;simp only[jL,Yc,Ya,Xa,Xl];lia
  ·show [Sl.io φ2,.v T,.o (.lst ((cV ss++jL (some (r,ps++[p]))).map D.str++[.str (cls r)])),.v (.str (eU r)),.v (aM p)]=_;rw[qV];simp[jL,tw]
  ·rw[Qh,hb];simp[zW]
  ·rcases Vd.mp hs with hs|hs
   ·exact h s hs
   ·obtain rfl:=Wb.mp hs;simp
 ·refine⟨φ2,ss,some (r,ps++[p]),ai e1 (ai e2 (eX (cH t3 (Ae fun z=>hd (by injection z))) rfl)),f2,?_,fun r' ps' h=>?_,fun h=>h⟩
  ·rw[hb];simp[zW]
  ·cases h;simp
theorem zP (s:bj):(tw s).length=s.2.length+2:=by simp[tw]
theorem qX:∀ss:List bj,(∀s∈ss,s.2≠[])->(cV ss).length<=3*(ss.flatMap (·.2)).length
 | [],_=>by simp[cV]
 | s::r,h=>by
  have ih:=qX r fun x hx=>h x (Yb _ hx);have:=Yj.mpr (h s (Qa ..));unfold cV at ih ⊢;rw[Qd,Qd,Xa,Xa,zP];lia
theorem nY {φ:D} {ps:List (Bool×Str)} {T:D} (hT:ml (aJ 1) [.io φ,.v T,.o (.lst []),.v (.str ""),.e]=some (ps.map aM,[.io φ,.v T,.o (.lst []),.v (.str ""),.e])) (hφ:bH φ) (hl:ps.length<=300) :
  ∃(φ':D) (ss:List bj),dZ φ [T]=some ((.lst ((cV ss).map D.str),true),φ')/\bH φ'/\ss.flatMap (·.2)=ps/\(∀s∈ss,s.2≠[]):=by
 have bnd:∀(ss:List bj) (op:Option (Bool×List (Bool×Str))) (n:Nat),(∀s∈ss,s.2≠[])->(ss.flatMap (·.2)++zW op).length<=n->(cV ss++jL op).length<=3*n+1:=fun ss op n h1 h2=>by
  have:=qX ss h1;rw[Xa]at h2 ⊢;cases op with
  | none=>simp[jL];lia
  | some q =>
   obtain⟨r,qs⟩:=q;have h3:(jL (some (r,qs))).length=qs.length+1:=by simp[jL]
   have h4:(zW (some (r,qs))).length=qs.length:=rfl;rw[h4]at h2;rw[h3];lia
 obtain⟨sf,e,φ1,ss,op,o4,rfl,f1,g1,g2,g3,q4⟩:=kY (fg:=gN 4) (B:=eM) aM ps
  (fun gone s=>∃(φ1:D) (ss:List bj) (op:Option (Bool×List (Bool×Str))) (o4:Sl),s=[.io φ1,.v T,.o (.lst ((cV ss++jL op).map D.str)),.v (.str (GI op)),o4]/\bH φ1/\ss.flatMap (·.2)++zW op=gone/\(∀r ps,op=some (r,ps)->ps≠[])/\(∀s∈ss,s.2≠[])/\o4.isIo=false)
  (by
   rintro gone x rest s ha ⟨φ1,ss,op,o4,rfl,f1,g1,g2,g3,q4⟩;have hg:=congrArg List.length ha;rw[Xa,Yc]at hg
   obtain⟨φ2,ss',op',e2,f2,k1,k2,k3⟩:=qW (T:=T) (ss:=ss) (op:=op) (p:=x) f1 (by
    have:=bnd ss op gone.length g3 (by rw[g1];exact Wa _)
    lia) g2
   exact⟨_,_,cb rfl q4,e2,φ2,ss',op',_,rfl,f2,by rw[k1,g1],k2,k3 g3,rfl⟩)
  ps [] [.io φ,.v T,.o (.lst []),.v (.str ""),.e] rfl ⟨φ,[],none,.e,rfl,hφ,rfl,(fun _ _ h=>(by cases h)),(fun _ h=>(by cases h)),rfl⟩
 have hlen:=bnd ss op ps.length g3 (by rw[g1];exact Wa _)
 cases op with
 | none =>
  refine⟨φ1,ss,?_,f1,by rw[← g1];simp[zW],g3⟩
  refine bY (o:=.rt (.s 2) [.io φ1,.v T,.o (.lst ((cV ss++jL none).map D.str)),.v (.str ""),o4]) rfl ?_ (by simp[jL];rfl)
  exact ai rfl (ai rfl (ai (fI hT e) (ai (eX (cH (aD (ay rfl rfl rfl rfl (fk _ _)) rfl) (by rw[show GI none=("":Str) from rfl,Af rfl];rfl)) rfl) rfl)))
 | some q =>
  obtain⟨r,qs⟩:=q;refine⟨φ1,ss++[(r,qs)],?_,f1,by rw[← g1];simp[zW],fun s hs=>?_⟩
  ·refine bY (o:=.rt (.s 2) [.io φ1,.v T,.o (.lst ((cV (ss++[(r,qs)])).map D.str)),.v (.str (eU r)),o4]) rfl ?_ rfl;refine ai rfl (ai rfl (ai (fI hT e) (ai (s:=[.io φ1,.v T,.o (.lst ((cV (ss++[(r,qs)])).map D.str)),.v (.str (eU r)),o4]) (eI (cH (aD (ay rfl rfl rfl rfl (fk _ _)) rfl) (by rw[show GI (some (r,qs))=eU r from rfl,Ae (zN r)];rfl)) (b9 (ju rfl rfl rfl (aA (zO r rfl) rfl) rfl rfl rfl (eN (by rw[Ya];lia)) ?_))) rfl)))
   show [Sl.io φ1,.v T,.o (.lst ((cV ss++jL (some (r,qs))).map D.str++[.str (cls r)])),.v (.str (eU r)),o4]=_;rw[qV];simp[jL,tw]
  ·rcases Vd.mp hs with hs|hs
   ·exact g3 s hs
   ·obtain rfl:=Wb.mp hs;exact g2 r qs rfl
end
end K06
namespace VF
open PySem L2
theorem GJ {xs ys:List D} {c:Bool} (ne:xs≠[]) (pa:Pl 40 (.tup xs)) (pb:Pl 40 (.tup ys)) (h:c=true↔D.tup xs=D.tup ys):rY (.tup xs) (.tup ys)=some (.bl (!c),false):=by
 have e1:o7 (.tup xs) (.tup ys)=none:=by
  cases xs with
  | nil=>exact absurd rfl ne
  | cons _ _=>rfl
 unfold rY lN;rw[e1];unfold Ch;dsimp only;have dc:∀i:Decidable (D.tup xs=D.tup ys),@decide _ i=c:=fun i=>by rw[Vf,decide_eq_true_eq];exact h.symm
 rw[Ad ⟨pa,pb⟩,dc];rfl
end VF
namespace K06
open PySem L2 VF VL VF22 VX VT
noncomputable section
theorem sM {p:Bool×Str} (h:Nm p.2):∀k∈(bd p).cps.toList,k=45∨(97<=k/\k<=122):=by
 obtain⟨t,n⟩:=p;intro k hk;cases t with
 | false=>exact .inr (h.2.2 k hk)
 | true =>
  have e:(bd (true,n)).cps.toList=45::n.cps.toList:=by
   show(minus++n).cps.toList=_;rw[Au,Zg];rfl
  rw[e]at hk;rcases Vc.mp hk with e|hk
  ·exact .inl e
  ·exact .inr (h.2.2 k hk)
theorem IK {p:Bool×Str} (h:Nm p.2):(bd p).cps.toList≠[]:=fun e=>by
 have:=(ll h).1;rw[dJ,e]at this;exact absurd this (by simp)
theorem qY {p:Bool×Str} (h:Nm p.2):bd p∉marksS:=fun hm=>by
 have hs:=sM h;have:∀x∈marksS,∃k∈x.cps.toList,¬ (k=45∨(97<=k/\k<=122)):=by decide +kernel
 obtain⟨k,hk,hno⟩:=this _ hm;exact hno (hs k hk)
theorem Ed {p:Bool×Str} (h:Nm p.2):¬ (bd p="]"∨bd p=")"):=fun e=>qY h (by rcases e with e|e<;>rw[e]<;>decide +kernel)
theorem Db {p:Bool×Str} (h:Nm p.2):(bd p).cps.toList.length<=9:=by have:=(ll h).2;rw[dJ]at this;lia
def qZ (b:Bool):Str:=if b then "|" else "[]()"
theorem IL {b:Bool} {p:Bool×Str} (h:Nm p.2):Ec (qZ b).cps.toList (bd p):=by
 refine⟨IK h,fun k hk=>?_⟩;have:=sM h k hk;cases b
 ·show Gc ("[]()":Str).cps.toList k;rw[II];refine⟨by lia,by lia,?_⟩
  simp only[Vc,Wh,AT];lia
 ·show Gc ("|":Str).cps.toList k;rw[GB];refine⟨by lia,by lia,?_⟩
  simp only[Vc,Wh,AT];lia
def Tk (b:Bool) (t:Str):Prop:=((ou (qZ b).cps.toList t=true∨Ec (qZ b).cps.toList t)/\t.cps.toList.length<=9)/\Ft t
theorem Ee {b:Bool} {p:Bool×Str} (h:Nm p.2):Tk b (bd p):=⟨⟨.inr (IL h),Db h⟩,zy h⟩
instance (ms:List Nat) (k:Nat):Decidable (Gc ms k):=by unfold Gc;infer_instance
instance (ms:List Nat) (t:Str):Decidable (Ec ms t):=by unfold Ec;infer_instance
instance (t:Str):Decidable (Ft t):=by unfold Ft;infer_instance
instance (b:Bool) (t:Str):Decidable (Tk b t):=by unfold Tk;infer_instance
abbrev mks:List Str:=["]","[","(",")"]
abbrev nos:List Str:=["A","-","a-","--a"]
theorem nZ:∀b:Bool,∀t∈mks,Tk b t:=by decide +kernel
theorem zQ:∀b:Bool,∀t∈nos,Tk b t:=by decide +kernel
theorem zR:∀t∈nos,rq t=false/\t∉marksS/\¬ (t="]"∨t=")"):=by decide +kernel
theorem lG:∀t∈mks,rq t=false/\t∈marksS/\t≠"|"/\ou (qZ false).cps.toList t=true:=by decide +kernel
theorem jM:Tk true sJ/\ou (qZ true).cps.toList sJ=true/\sJ∈marksS:=by decide +kernel
theorem i4 (r:Bool):eU r∈mks/\¬ (eU r="]"∨eU r=")"):=by cases r<;>decide +kernel
theorem mQ (r:Bool):cls r∈mks/\(cls r="]"∨cls r=")"):=by cases r<;>decide +kernel
theorem GK (r:Bool):Tk false (eU r):=nZ false _ (i4 r).1
theorem GL (r:Bool):Tk false (cls r):=nZ false _ (mQ r).1
theorem dh {ms:List Nat}:∀(ts:List Str) (pw lw:Bool),(∀t∈ts,ou ms t=false->t∉marksS)->(pw=true->lw=true)->ji ms pw lw ts
 | [],_,_,_,_=>trivial
 | t::r,pw,lw,h,hp=>⟨fun h1 h2=>⟨hp h2,h t (Qa ..) h1⟩,dh r _ _ (fun x hx=>h x (Yb _ hx)) fun z=>by
  have:=h t (Qa ..) (by simpa using z)
  rw[Ae this];rfl⟩
theorem pK {ms:List Nat} {c:Str} (hc:ou ms c=true) (hm:c∈marksS) {r:List Str} (hr:ji ms false false r):∀(ts:List Str) (pw lw:Bool),(∀t∈ts,ou ms t=false->t∉marksS)->(pw=true->lw=true)->ji ms pw lw (ts++c::r)
 | [],pw,lw,_,_=>by
  refine⟨fun h=>?_,?_⟩
  ·rw[hc]at h;cases h
  ·rw[hc,Af hm];exact hr
 | t::ts,pw,lw,h,hp=>⟨fun h1 h2=>⟨hp h2,h t (Qa ..) h1⟩,pK hc hm hr ts _ _ (fun x hx=>h x (Yb _ hx)) fun z=>by
  have:=h t (Qa ..) (by simpa using z)
  rw[Ae this];rfl⟩
theorem zS:∀(bs g r:List Str),(∀x∈bs,¬ (x="]"∨x=")"))->gr g (bs++r)=gr (g++bs) r
 | [],g,r,_=>by simp
 | b::bs,g,r,h=>by
  rw[Wj,show gr g (b::(bs++r))=gr (g++[b]) (bs++r) from Ag (h b (Qa ..)),zS bs (g++[b]) r fun x hx=>h x (Yb _ hx)];simp
theorem kD {c:Str} {g r:List Str} (h:c="]"∨c=")"):gr g (c::r)=(g++[c])::gr [] r:=Ad h
theorem Ef {s:bj} {g r:List Str} (h:∀p∈s.2,Nm p.2):gr g (tw s++r)=(g++tw s)::gr [] r:=by
 unfold tw
 rw[Wj,Wd,show gr g (eU s.1::(s.2.map bd++([cls s.1]++r)))=gr (g++[eU s.1]) (s.2.map bd++([cls s.1]++r)) from Ag (i4 s.1).2,zS (s.2.map bd) _ _ fun x hx=>by
  obtain⟨p,hp,rfl⟩:=Wc.mp hx
  exact Ed (h p hp)]
 rw[Wj,Qi,kD (mQ s.1).2];simp
theorem sN:∀(ss:List bj) (r:List Str),(∀s∈ss,∀p∈s.2,Nm p.2)->gr [] (cV ss++r)=ss.map tw++gr [] r
 | [],r,_=>rfl
 | s::ss,r,h=>by
  have ih:=sN ss r fun x hx=>h x (Yb _ hx);unfold cV at ih ⊢;rw[Qd,Wd,Ef (h s (Qa ..)),ih];rfl
theorem sO {ss:List bj} (h:∀s∈ss,∀p∈s.2,Nm p.2):∀t∈cV ss,Tk false t/\(ou (qZ false).cps.toList t=false->t∉marksS):=fun t ht=>by
 unfold cV at ht;obtain⟨s,hs,ht⟩:=List.mem_flatMap.mp ht;unfold tw at ht;rcases Vc.mp ht with rfl|ht
 ·exact⟨GK _,fun z=>by rw[(lG _ (i4 s.1).1).2.2.2]at z;cases z⟩
 ·rcases Vd.mp ht with ht|ht
  ·obtain⟨p,hp,rfl⟩:=Wc.mp ht;exact⟨Ee (h s hs p hp),fun _=>qY (h s hs p hp)⟩
  ·obtain rfl:=Wb.mp ht;exact⟨GL _,fun z=>by rw[(lG _ (mQ s.1).1).2.2.2]at z;cases z⟩
def g9 (b:Bool) (W:List Str) (d:D):Prop:=∀φ,bH φ->∃(x:Str) (φ':D),bB φ [.lst (W.map D.str)]=some ((.str x,false),φ')/\bH φ'/\bM [.bl b,.str x]=some (d,false)
theorem i5 {b:Bool} {W:List Str} {d:D} (ht:∀t∈W,Tk b t) (ho:ji (qZ b).cps.toList false false W) (hl:W.length<=600) (h:∀x:Str,bo [.str x,.str (qZ b)]=some (.lst (W.map D.str),true)->bM [.bl b,.str x]=some (d,false)):g9 b W d:=fun φ hφ=>by
 obtain⟨x,φ',e,f,w⟩:=zH (m:=qZ b) (by cases b<;>first|exact .inl rfl|exact .inr rfl) hφ (fun t h=>(ht t h).1) ho hl
 exact⟨x,φ',e,f,h x w⟩
theorem Eg {ss:List bj} {ps:List (Bool×Str)} (e:ss.flatMap (·.2)=ps) (hn:∀p∈ps,Nm p.2) (ne:∀s∈ss,s.2≠[]) (hl:ps.length<=100):GT ss:=by
 refine⟨fun s hs p hp=>hn p (by rw[← e];exact List.mem_flatMap.mpr ⟨s,hs,hp⟩),ne,by rw[e];lia,?_⟩
 have:ss.length<=(ss.flatMap (·.2)).length:=by
  clear e;induction ss with
  | nil=>simp
  | cons s r ih =>
   have:=ih fun x hx=>ne x (Yb _ hx);have h2:=Yj.mpr (ne s (Qa ..));rw[Qd,Xa,Yc];lia
 rw[e]at this;lia
theorem gE {ss:List bj} (g:GT ss):(cV ss).length<=3*(ss.flatMap (·.2)).length:=qX ss g.ne
section
variable {ss:List bj} (g:GT ss) (hl:(ss.flatMap (·.2)).length<=100)
include g hl
theorem GM {n:Str} (h:ft [] ((ss.flatMap (·.2)).map (·.2))=some n):g9 false (cV ss) (cK "twice" n):=by
 have l:=gE g;have k:=sO g.nm;refine i5 (fun t ht=>(k t ht).1) (dh _ _ _ (fun t ht=>(k t ht).2) (fun z=>z)) (by lia) fun x hw=>zK (qT (b:=false) ?_)
 have e:=sN ss [] g.nm;rw[Xc]at e;exact(vP hw (by lia) (by rw[e];exact Xc _) g).1 n h
theorem GN (h:ft [] ((ss.flatMap (·.2)).map (·.2))=none):g9 false (cV ss) (cK "read" ""):=by
 have l:=gE g;have k:=sO g.nm;refine i5 (fun t ht=>(k t ht).1) (dh _ _ _ (fun t ht=>(k t ht).2) (fun z=>z)) (by lia) fun x hw=>?_
 have e:=sN ss [] g.nm;rw[Xc]at e;obtain⟨r1,r2⟩:=(vP hw (by lia) (by rw[e];exact Xc _) g).2 h
 obtain⟨a,b⟩:=zI (b:=false) r1 r2;exact zJ a b
theorem mR {W w:List Str} {s1:List bj} {r:List (List Str)} (hW:∀t∈W,Tk false t/\(ou (qZ false).cps.toList t=false->t∉marksS)) (lW:W.length<=600) (e:gr [] W=s1.map tw++w::r) (g1:GT s1) (hw:∀t∈w,Ft t) (lw:w.length<=9000) (b:C6 w):g9 false W (cK "bad" ""):=by
 refine i5 (fun t ht=>(hW t ht).1) (dh _ _ _ (fun t ht=>(hW t ht).2) (fun z=>z)) lW fun x hx=>zL (qT (b:=false) ?_);exact Gz hx (by lia) e g1 hw lw b
end
end
end K06
namespace K06
open PySem L2 VF VL VF22 VX VT
noncomputable section
theorem zT:GT []:=⟨fun _ h=>(by cases h),fun _ h=>(by cases h),by simp,by simp⟩
theorem vV {m:Str} (h:m∈mks):Tk false m/\(ou (qZ false).cps.toList m=false->m∉marksS):=⟨nZ false m h,fun z=>by rw[(lG m h).2.2.2]at z;cases z⟩
theorem vW {m:Str}:C6 [m]:=⟨by simp,.inr (.inr (.inr rfl))⟩
theorem IM {m:Str} (h:m∈mks):(m="]"∨m=")")∨∃r,m=eU r:=by
 rcases zA (a:=m) with⟨h1,h2⟩|h1
 ·left;simp only[Vc,Wh,AT]at h;rcases h with h|h|h|h
  ·exact .inl h
  ·exact absurd h h1
  ·exact absurd h h2
  ·exact .inr h
 ·exact .inr h1
section
variable {ss:List bj} (g:GT ss) (hl:(ss.flatMap (·.2)).length<=100)
include g hl
theorem GO {m:Str} (hm:m∈mks) (h0:ss≠[]):g9 false (m::cV ss) (cK "bad" ""):=by
 have l:=gE g;have k:=sO g.nm;have hW:∀t∈m::cV ss,Tk false t/\(ou (qZ false).cps.toList t=false->t∉marksS):=fun t ht=>by
  rcases Vc.mp ht with rfl|ht
  ·exact vV hm
  ·exact k t ht
 have lW:(m::cV ss).length<=600:=by rw[Yc];lia
 rcases IM hm with hc|⟨r,rfl⟩
 ·exact mR g hl hW lW (s1:=[]) (w:=[m]) (r:=gr [] (cV ss)) (kD hc) zT (fun t ht=>by obtain rfl:=Wb.mp ht;exact(vV hm).1.2) (by simp) vW
 ·obtain⟨s,rs,rfl⟩:=Yn h0;have e:gr [] (eU r::cV (s::rs))=(eU r::tw s)::gr [] (cV rs):=by
   rw[show gr [] (eU r::cV (s::rs))=gr ([]++[eU r]) (cV (s::rs)) from Ag (i4 r).2];unfold cV;rw[Qd,Ef (g.nm s (Qa ..))];rfl
  refine mR g hl hW lW (s1:=[]) (w:=eU r::tw s) (r:=gr [] (cV rs)) e zT (fun t ht=>?_) ?_ ⟨by simp,.inl ⟨eU s.1,?_,(lG _ (i4 s.1).1).1⟩⟩
  ·refine(hW t ?_).1.2;rcases Vc.mp ht with rfl|ht
   ·exact Qa ..
   ·exact Yb _ (List.mem_flatMap.mpr ⟨s,Qa ..,ht⟩)
  ·have:=g.len s (Qa ..);rw[Yc,zP];lia
  ·unfold mid tw;rw[Wn,show eU s.1::(s.2.map bd++[cls s.1])=(eU s.1::s.2.map bd)++[cls s.1] from rfl,Vh];exact Qa ..
theorem GP {m:Str} (hm:m∈mks):g9 false (cV ss++[m]) (cK "bad" ""):=by
 have l:=gE g;have k:=sO g.nm;have hW:∀t∈cV ss++[m],Tk false t/\(ou (qZ false).cps.toList t=false->t∉marksS):=fun t ht=>by
  rcases Vd.mp ht with ht|ht
  ·exact k t ht
  ·obtain rfl:=Wb.mp ht;exact vV hm
 refine mR g hl hW (by simp;lia) (s1:=ss) (w:=[m]) (r:=[]) ?_ g (fun t ht=>by obtain rfl:=Wb.mp ht;exact(vV hm).1.2) (by simp) vW
 rw[sN ss [m] g.nm];congr 1;by_cases hc:m="]"∨m=")"
 ·exact kD hc
 ·rw[show gr [] [m]=gr ([]++[m]) [] from Ag hc];rfl
theorem GQ {m:Str} (hm:m∈nos) (h0:ss≠[]):g9 false ((cV ss).dropLast++[m]++[(cV ss).getLastD ""]) (cK "bad" ""):=by
 have l:=gE g;have k:=sO g.nm;obtain⟨n1,n2,n3⟩:=zR m hm;obtain⟨rs,s,rfl⟩:∃rs s,ss=rs++[s]:=⟨ss.dropLast,ss.getLast h0,(Bw h0).symm⟩;have hs:=g.nm s (by simp)
 have eW:cV (rs++[s])=cV rs++(eU s.1::s.2.map bd)++[cls s.1]:=by rw[qV];unfold tw;simp
 have eL:(cV (rs++[s])).getLastD ""=cls s.1:=by rw[eW,A7]
 have e1:(cV (rs++[s])).dropLast++[m]++[(cV (rs++[s])).getLastD ""]=cV rs++(eU s.1::(s.2.map bd++[m]++[cls s.1])):=by
  rw[eL,eW,Vh];simp
 rw[e1];have hW:∀t∈cV rs++(eU s.1::(s.2.map bd++[m]++[cls s.1])),Tk false t/\(ou (qZ false).cps.toList t=false->t∉marksS):=fun t ht=>by
  rw[eW]at k;simp only[Vd,Vc,Wh,AT]at ht;by_cases hm2:t=m
  ·rw[hm2];exact⟨zQ false m hm,fun _=>n2⟩
  ·refine k t ?_;simp only[Vd,Vc,Wh,AT];rcases ht with h|h|(h|h)|h
   ·exact .inl (.inl h)
   ·exact .inl (.inr (.inl h))
   ·exact .inl (.inr (.inr h))
   ·exact absurd h hm2
   ·exact .inr h
 have g1:GT rs:=⟨fun x hx=>g.nm x (by simp[hx]),fun x hx=>g.ne x (by simp[hx]),by have:=g.l1;rw[Qh,Xa]at this;lia,by have:=g.l2;rw[Xa]at this;lia⟩
 have hsl:=g.len s (by simp)
 have lst:(cV (rs++[s])).length=(cV rs).length+s.2.length+2:=by rw[eW];simp;lia
 refine mR g hl hW (by simp;lia) (s1:=rs) (w:=eU s.1::(s.2.map bd++[m]++[cls s.1])) (r:=[]) ?_ g1 (fun t ht=>(hW t (Xd _ ht)).1.2) (by simp;lia) ⟨by simp,.inl ⟨m,?_,n1⟩⟩
 ·rw[sN rs _ g1.nm];congr 1;rw[show gr [] (eU s.1::(s.2.map bd++[m]++[cls s.1]))=gr ([]++[eU s.1]) (s.2.map bd++[m]++[cls s.1]) from Ag (i4 s.1).2,zS (s.2.map bd++[m]) _ _ fun x hx=>?_,kD (mQ s.1).2]
  ·simp[gr]
  ·rcases Vd.mp hx with hx|hx
   ·obtain⟨p,hp,rfl⟩:=Wc.mp hx;exact Ed (hs p hp)
   ·obtain rfl:=Wb.mp hx;exact n3
 ·unfold mid;rw[Wn,Vh];simp
end
section
variable {ps:List (Bool×Str)} (hn:∀p∈ps,Nm p.2) (hl:ps.length<=100)
include hn hl
theorem pL:∀t∈lw ps,Tk true t/\(ou (qZ true).cps.toList t=false->t∉marksS):=fun t ht=>by
 have hb:Tk true sJ/\(ou (qZ true).cps.toList sJ=false->sJ∉marksS):=⟨jM.1,fun z=>by rw[jM.2.1]at z;cases z⟩
 unfold lw at ht;rcases Vc.mp ht with rfl|ht
 ·exact hb
 ·rcases Vd.mp ht with ht|ht
  ·obtain⟨p,hp,rfl⟩:=Wc.mp ht;exact⟨Ee (hn p hp),fun _=>qY (hn p hp)⟩
  ·obtain rfl:=Wb.mp ht;exact hb
theorem lH:(lw ps).length=ps.length+2:=by unfold lw;simp
theorem Dc {n:Str} (h:ft [] (ps.map (·.2))=some n):g9 true (lw ps) (cK "twice" n):=by
 have l:=lH hn hl;have k:=pL hn hl;exact i5 (fun t ht=>(k t ht).1) (dh _ _ _ (fun t ht=>(k t ht).2) (fun z=>z)) (by lia) fun x hw=>zK (qT (b:=true) ((vR hw (by lia) hn).1 n h))
theorem Dd (h:ft [] (ps.map (·.2))=none):g9 true (lw ps) (cK "read" ""):=by
 have l:=lH hn hl;have k:=pL hn hl;refine i5 (fun t ht=>(k t ht).1) (dh _ _ _ (fun t ht=>(k t ht).2) (fun z=>z)) (by lia) fun x hw=>?_
 obtain⟨r1,r2⟩:=(vR hw (by lia) hn).2 h
 obtain⟨a,b⟩:=zI (b:=true) r1 r2;exact zJ a b
theorem n5 {W:List Str} (ht:∀t∈W,Tk true t) (ho:ji (qZ true).cps.toList false false W) (lW:W.length<=600) (b:IH W):g9 true W (cK "bad" "") :=
 i5 ht ho lW fun x hw=>zL (qT (b:=true) (GA hw (by lia) (fun y hy=>(ht y hy).2) b))
theorem IN:ji (qZ true).cps.toList false false (ps.map bd++[sJ]):=dh _ _ _ (fun t ht=>(pL hn hl t (by unfold lw;exact Yb _ ht)).2) (fun z=>z)
theorem De {m:Str} (hm:m∈mks):g9 true (m::lw ps) (cK "bad" ""):=by
 have l:=lH hn hl;have k:=pL hn hl;refine n5 hn hl (fun t ht=>?_) ⟨fun _ z=>(by cases z),⟨fun z=>(by rw[jM.2.1]at z;cases z),?_⟩⟩ (by rw[Yc];lia) (.inr (.inl ⟨m,rfl,(lG m hm).2.2.1⟩))
 ·rcases Vc.mp ht with rfl|ht
  ·exact nZ true _ hm
  ·exact(k t ht).1
 ·rw[jM.2.1,Af jM.2.2];exact IN hn hl
theorem Df {m:Str} (hm:m∈mks):g9 true (lw ps++[m]) (cK "bad" ""):=by
 have l:=lH hn hl;have k:=pL hn hl;refine n5 hn hl (fun t ht=>?_) ?_ (by simp;lia) (.inr (.inr (.inl ⟨m,by simp,(lG m hm).2.2.1⟩)))
 ·rcases Vd.mp ht with ht|ht
  ·exact(k t ht).1
  ·obtain rfl:=Wb.mp ht;exact nZ true _ hm
 ·have e:lw ps++[m]=(sJ::ps.map bd)++sJ::[m]:=by unfold lw;simp
  rw[e];refine pK (r:=[m]) jM.2.1 jM.2.2 ⟨fun _ z=>(by cases z),trivial⟩ _ _ _ (fun t ht=>(k t ?_).2) (fun z=>z)
  unfold lw;rcases Vc.mp ht with rfl|ht
  ·exact Qa ..
  ·exact Yb _ (Wi _ ht)
theorem Dg {m:Str} (hm:m∈nos):g9 true ((lw ps).dropLast++[m]++[(lw ps).getLastD ""]) (cK "bad" ""):=by
 have l:=lH hn hl;have k:=pL hn hl;obtain⟨n1,n2,n3⟩:=zR m hm;have eW:lw ps=(sJ::ps.map bd)++[sJ]:=by unfold lw;simp
 have e1:(lw ps).dropLast++[m]++[(lw ps).getLastD ""]=sJ::(ps.map bd++[m]++[sJ]):=by
  rw[eW,Vh,A7];simp
 rw[e1];have hW:∀t∈sJ::(ps.map bd++[m]++[sJ]),Tk true t/\(ou (qZ true).cps.toList t=false->t∉marksS):=fun t ht=>by
  rw[eW]at k;simp only[Vd,Vc,Wh,AT]at ht;by_cases hm2:t=m
  ·rw[hm2];exact⟨zQ true m hm,fun _=>n2⟩
  ·refine k t ?_;simp only[Vd,Vc,Wh,AT];rcases ht with h|(h|h)|h
   ·exact .inr h
   ·exact .inl (.inr h)
   ·exact absurd h hm2
   ·exact .inr h
 refine n5 hn hl (fun t ht=>(hW t ht).1) (dh _ _ _ (fun t ht=>(hW t ht).2) (fun z=>z)) (by simp;lia) (.inr (.inr (.inr ⟨m,?_,n1⟩)))
 unfold mid;rw[Wn,Vh];simp
end
end
end K06
namespace VF
open PySem L2
theorem GR {fa:FA} {st s1 s2:En} {rs:List Rs} {ds:List D} (h1:fa st=some (rs,s1)) (h2:bK rs s1=some (ds,s2)) (h3:ds.length<=1000000):bU fa st=some (.f (.lst ds),s2):=by
 simp only[bU,h1,h2,Za];rw[Ad h3]
end VF
namespace K06
open PySem L2 VF VL VF22 VX VT
noncomputable section
def IO:FS:=(aH (gM (fY (aE (cU (du 4) (ab (bV bM (ab (aJ 5) (ab (d7 bB 1 (ab (aJ 6) aj)) aj))) (ab (aJ 4) aj))))) (bG (fC (.bl false))) bn)
  (aH (aY (aL cM (bU (fF ["]","[","(",")"])) (d7 ax 1 (ab (fC (.int 4)) aj))) 8)
  (aH (aY (aL cM (bU (fF ["A","-","a-","--a"])) (d7 ax 1 (ab (fC (.int 4)) aj))) 9)
  (aH (aY (aL cM (bU (ab (aL dA (bU (ab (aJ 8) aj)) (aJ 6)) (ab (aL dA (aJ 6) (bU (ab (aJ 8) aj))) (ab (aL dA (aL dA (w9 tS (aJ 6) Fp (gw (uR j4 (fC (.int 1))))) (bU (ab (aJ 9) aj))) (w9 tS (aJ 6) (gw (uR j4 (fC (.int 1)))) Fp)) aj)))) (d7 ax 1 (ab (fC (.int 3)) aj))) 10)
  (aH (gM (aE (aL rY (bV bM (ab (aJ 5) (ab (d7 bB 1 (ab (aJ 10) aj)) aj))) (jW (ab (fC (.str "bad")) (ab (fC (.str "")) aj))))) (bG (fC (.bl false))) bn)
  (gM (aE (aL rY (bV bM (ab (aJ 5) (ab (d7 bB 1 (ab (aJ 7) aj)) aj))) (jW (ab (fC (.str "read")) (ab (fC (.str "")) aj))))) (bG (fC (.bl false))) bn))))))
theorem Eh (k y:Str):Pl 40 (cK k y):=.tup fun d hd=>by
 simp only[Vc,Wh,AT]at hd;rcases hd with rfl|rfl<;>exact .str _ _
theorem Ei {k y:Str}:rY (cK k y) (cK k y)=some (.bl false,false):=GJ (c:=true) (by simp) (Eh k y) (Eh k y) (by simp)
theorem IP {k y:Str}:du 4 [cK k y,cK k y]=some (.bl true,false):=nq (.tup (by show 2<=1000000;decide) fun d hd=>by
 simp only[Vc,Wh,AT]at hd
 rcases hd with rfl|rfl<;>exact .str _ _)
theorem GS (w:List Str) (hw:w≠[]):tS (.lst (w.map D.str)) none (some (-1))=some (.lst (w.dropLast.map D.str),true):=by
 show some (D.lst (cutD (w.map D.str) none (some (-1))),true)=_;congr 3;obtain⟨n,hn⟩:∃n,w.length=n+1:=⟨w.length-1,by have:=Yj.mpr hw;lia⟩
 have e2:HT.sIx (n+1) (n+1) (some (-1))=n:=by simp[HT.sIx];lia
 unfold cutD;rw[Ya,hn,HT.sIx_none,e2,BC,Nat.sub_zero,← BF,BR,hn];rfl
theorem Dh (w:List Str) (hw:w≠[]):tS (.lst (w.map D.str)) (some (-1)) none=some (.lst [.str (w.getLastD "")],true):=by
 show some (D.lst (cutD (w.map D.str) (some (-1)) none),true)=_;congr 3;obtain⟨r,a,rfl⟩:∃r a,w=r++[a]:=⟨w.dropLast,w.getLast hw,(Bw hw).symm⟩;have e2:HT.sIx (r.length+1) 0 (some (-1))=r.length:=by simp[HT.sIx];lia
 unfold cutD;rw[Ya,Xa,Qg,HT.sIx_none,e2,← BG,List.drop_left,A7,Nat.add_sub_cancel_left];rfl
theorem vX {S φ Bs Ms:D} {b:Bool} {n:Str} {W Gd:List Str} {o8 o9 o10:Sl} (hφ:bH φ) (q8:o8.isIo=false) (q9:o9.isIo=false) (q10:o10.isIo=false) (w0:W≠[]) (lW:W.length<=1000)
  (hW:g9 b W (cK "twice" n)) (hG:g9 b Gd (cK "read" "")) (h1:∀m∈mks,g9 b (m::W) (cK "bad" "")) (h2:∀m∈mks,g9 b (W++[m]) (cK "bad" "")) (h3:∀m∈nos,g9 b (W.dropLast++[m]++[W.getLastD ""]) (cK "bad" "")) :
  ∃(φ':D) (m o:Str) (d:D),IO [.v S,.o φ,.v Bs,.v Ms,.v (cK "twice" n),.v (.bl b),.o (.lst (W.map D.str)),.o (.lst (Gd.map D.str)),o8,o9,o10]=some (.nx [.v S,.o φ',.v Bs,.v Ms,.v (cK "twice" n),.v (.bl b),.v (.lst (W.map D.str)),.v (.lst (Gd.map D.str)),.v (.str m),.v (.str o),.v d])/\bH φ':=by
 obtain⟨x1,φ1,e1,f1,g1⟩:=hW φ hφ;obtain⟨d2,φ2,e2,a2,b2,f2⟩:=bC (n:=4) f1 (by decide) (by decide)
 obtain⟨d3,φ3,e3,a3,b3,f3⟩:=bC (n:=4) f2 (by decide) (by decide)
 obtain⟨d4,φ4,e4,a4,b4,f4⟩:=bC (n:=3) f3 (by decide) (by decide)
 obtain⟨m',k2,hm',_⟩:=gK (xs:=mks.map D.str) a2 b2;obtain⟨m,hm,rfl⟩:=Wc.mp hm';obtain⟨o',k3,ho',_⟩:=gK (xs:=nos.map D.str) a3 b3;obtain⟨o,ho,rfl⟩:=Wc.mp ho';obtain⟨V,hV,hS⟩:∃V:List Str,cM (.lst [.lst ((m::W).map D.str),.lst ((W++[m]).map D.str),.lst ((W.dropLast++[o]++[W.getLastD ""]).map D.str)]) (.int d4)=some (.lst (V.map D.str),false)/\g9 b V (cK "bad" ""):=by
  have:d4=0∨d4=1∨d4=2:=by lia
  rcases this with rfl|rfl|rfl
  ·exact⟨_,dI rfl,h1 m hm⟩
  ·exact⟨_,dI rfl,h2 m hm⟩
  ·exact⟨_,dI rfl,h3 o ho⟩
 obtain⟨x5,φ5,e5,f5,g5⟩:=hS φ4 f4;obtain⟨x6,φ6,e6,f6,g6⟩:=hG φ5 f5;refine⟨φ6,m,o,.lst (V.map D.str),?_,f6⟩;have lWm:(W.map D.str).length=W.length:=Ya ..;refine ai (s:=[.v S,.o φ1,.v Bs,.v Ms,.v (cK "twice" n),.v (.bl b),.v (.lst (W.map D.str)),.o (.lst (Gd.map D.str)),o8,o9,o10]) (eX (s:=[.v S,.o φ1,.v Bs,.v Ms,.v (cK "twice" n),.v (.bl b),.v (.lst (W.map D.str)),.o (.lst (Gd.map D.str)),o8,o9,o10]) (dw (c:=true) (aD (cG (aA (bS (aA rfl (aA (bA rfl rfl rfl rfl rfl rfl e1) rfl)) rfl g1) rfl) rfl IP rfl) rfl)) rfl) ?_;refine ai (s:=[.v S,.o φ2,.v Bs,.v Ms,.v (cK "twice" n),.v (.bl b),.v (.lst (W.map D.str)),.o (.lst (Gd.map D.str)),.v (.str m),o9,o10]) (bX (s:=[.v S,.o φ2,.v Bs,.v Ms,.v (cK "twice" n),.v (.bl b),.v (.lst (W.map D.str)),.o (.lst (Gd.map D.str)),o8,o9,o10]) (ay (d1:=.lst (mks.map D.str)) rfl (bA rfl rfl rfl rfl rfl rfl e2) rfl rfl (dI k2)) (cb rfl q8)) ?_;refine ai (s:=[.v S,.o φ3,.v Bs,.v Ms,.v (cK "twice" n),.v (.bl b),.v (.lst (W.map D.str)),.o (.lst (Gd.map D.str)),.v (.str m),.v (.str o),o10]) (bX (s:=[.v S,.o φ3,.v Bs,.v Ms,.v (cK "twice" n),.v (.bl b),.v (.lst (W.map D.str)),.o (.lst (Gd.map D.str)),.v (.str m),o9,o10]) (ay (d1:=.lst (nos.map D.str)) rfl (bA rfl rfl rfl rfl rfl rfl e3) rfl rfl (dI k3)) (cb rfl q9)) ?_;have p1:=gz (a:=[.str m]) (b:=W.map D.str) (by rw[lWm];show 1+_<=_;lia)
 have p2:=gz (a:=W.map D.str) (b:=[.str m]) (by rw[lWm];show _+1<=_;lia)
 have ld:(W.dropLast.map D.str).length<=1000:=by rw[Ya,A6];lia
 have p3:=gz (a:=W.dropLast.map D.str) (b:=[.str o]) (by show _+1<=_;lia)
 have p4:=gz (a:=W.dropLast.map D.str++[.str o]) (b:=[.str (W.getLastD "")]) (by rw[Xa];show _+1+1<=_;lia)
 have n2:W.map D.str++[.str m]=(W++[m]).map D.str:=by simp
 have n4:W.dropLast.map D.str++[.str o]++[.str (W.getLastD "")]=(W.dropLast++[o]++[W.getLastD ""]).map D.str:=by simp
 rw[n2]at p2;rw[n4]at p4;refine ai (s:=[.v S,.o φ4,.v Bs,.v Ms,.v (cK "twice" n),.v (.bl b),.v (.lst (W.map D.str)),.o (.lst (Gd.map D.str)),.v (.str m),.v (.str o),.v (.lst (V.map D.str))]) (bX (s:=[.v S,.o φ4,.v Bs,.v Ms,.v (cK "twice" n),.v (.bl b),.v (.lst (W.map D.str)),.o (.lst (Gd.map D.str)),.v (.str m),.v (.str o),o10]) (ay (s1:=[.v S,.o φ3,.v Bs,.v Ms,.v (cK "twice" n),.v (.bl b),.v (.lst (W.map D.str)),.o (.lst (Gd.map D.str)),.v (.str m),.v (.str o),o10]) (d1:=.lst [.lst ((m::W).map D.str),.lst ((W++[m]).map D.str),.lst ((W.dropLast++[o]++[W.getLastD ""]).map D.str)]) (r1:=.f (.lst [.lst ((m::W).map D.str),.lst ((W++[m]).map D.str),.lst ((W.dropLast++[o]++[W.getLastD ""]).map D.str)])) ?_ (bA rfl rfl rfl rfl rfl rfl e4) rfl rfl hV) (cb rfl q10)) ?_
 ·refine GR (aA (ay rfl rfl rfl rfl p1) (aA (ay rfl rfl rfl rfl p2) (aA (ay (ay (gy rfl rfl rfl rfl (GS W w0) rfl) rfl rfl rfl p3) (gy rfl rfl rfl rfl (Dh W w0) rfl) rfl rfl p4) rfl))) rfl (by show 3<=1000000;decide)
 refine ai (s:=[.v S,.o φ5,.v Bs,.v Ms,.v (cK "twice" n),.v (.bl b),.v (.lst (W.map D.str)),.o (.lst (Gd.map D.str)),.v (.str m),.v (.str o),.v (.lst (V.map D.str))]) (eX (aD (ay (bS (aA rfl (aA (bA rfl rfl rfl rfl rfl rfl e5) rfl)) rfl g5) (dO rfl rfl (by show 2<=1000000;decide)) rfl rfl Ei) rfl) rfl) ?_
 exact eX (aD (ay (bS (aA rfl (aA (bA rfl rfl rfl rfl rfl rfl e6) rfl)) rfl g6) (dO rfl rfl (by show 2<=1000000;decide)) rfl rfl Ei) rfl) rfl
end
end K06
namespace VF
open PySem L2
theorem Di {n:Nat} {x:D} (h:x∈rng 0 n):∃i:Nat,i<n/\x=.int i:=by
 obtain⟨i,hi⟩:=Wk h;obtain⟨h1,h2⟩:=xV hi;exact⟨i,h1,by rw[h2,Int.zero_add]⟩
theorem Dj {α:Type} (xs:List α) (d:D):xs.map (fun _=>d)=List.replicate xs.length d:=by
 induction xs with
 | nil=>rfl
 | cons x r ih=>rw[Qc,ih];rfl
end VF
namespace K06
open PySem L2 VF VL
theorem wZ {n:Nat} {u:D} (h:Dp (n+1) u):bN (lX (du n)) 2 2 [u,u]=some (.bl true,false):=by
 have seqs:∀(ds:List D),ds.length<=1000000->(∀d∈ds,Dp n d)->∀(u:D),(∀i d,i8 ds i=some d->cM u (.int i)=some (d,false)) ->
   eP (gN 0) fD (cU (du n) (ab (aL cM (aJ 1) (aJ 0)) (ab (aL cM (aJ 2) (aJ 0)) aj))) 1 (rng 0 ((ds.length:Int)).toNat) [.e,.v u,.v u]=some (List.replicate ds.length (D.bl true),[.e,.v u,.v u]):=fun ds hl hd u hu=>by
  have e:=pd (fg:=gN 0) (fc:=fD) (k:=1) (fe:=cU (du n) (ab (aL cM (aJ 1) (aJ 0)) (ab (aL cM (aJ 2) (aJ 0)) aj))) (fun _=>D.bl true) (rng 0 ((ds.length:Int)).toNat) [.e,.v u,.v u] (fun x hx=>by
   obtain⟨i,hi,rfl⟩:=Di hx;have hi':i<ds.length:=by lia
   have ha:i8 ds (i:Int)=some ds[i]:=mz (Zc hi');refine⟨[.v (.int i),.v u,.v u],[.v (.int i),.v u,.v u],.d (.bl true),[.v (.int i),.v u,.v u],[.v (.int i),.v u,.v u],rfl,rfl,?_,rfl,rfl⟩
   exact cG (aA (ay rfl rfl rfl rfl (hu _ _ ha)) (aA (ay rfl rfl rfl rfl (hu _ _ ha)) rfl)) rfl (nq (hd _ (List.getElem_mem hi'))) rfl)
  rw[e,Dj,f7];have:((ds.length:Int)).toNat=ds.length:=by lia
  rw[this]
 cases h with
 | bl _ b=>cases b<;>rfl
 | int _ i =>
  refine bh (o:=.rt (.d (.bl true)) [.v (.int i),.v (.int i)]) rfl ?_ rfl;refine ai (s:=[.v (.int i),.v (.int i)]) rfl (ai (s:=[.v (.int i),.v (.int i)]) rfl (gP (eI (s:=[.v (.int i),.v (.int i)]) rfl ?_)));refine bL (nr (s:=[.v (.int i),.v (.int i)]) rfl rfl (ay rfl rfl rfl rfl (z:=(.bl (decide (V.int i=V.int i)),false)) rfl ?_));rw[Af rfl];rfl
 | non _=>rfl
 | str _ x =>
  refine bh (o:=.rt (.d (.bl true)) [.v (.str x),.v (.str x)]) rfl ?_ rfl;refine ai (s:=[.v (.str x),.v (.str x)]) rfl (ai (s:=[.v (.str x),.v (.str x)]) rfl (ai (s:=[.v (.str x),.v (.str x)]) rfl (gP (eI (s:=[.v (.str x),.v (.str x)]) rfl ?_))));refine bL (nr (s:=[.v (.str x),.v (.str x)]) rfl rfl (ay rfl rfl rfl rfl (z:=(.bl (decide (V.str x=V.str x)),false)) rfl ?_));rw[Af rfl];rfl
 | @tup _ ds hl hd =>
  refine bh (o:=.rt (.d (.bl true)) [.v (.tup ds),.v (.tup ds)]) rfl ?_ rfl;refine ai (s:=[.v (.tup ds),.v (.tup ds)]) rfl (ai (s:=[.v (.tup ds),.v (.tup ds)]) rfl (ai (s:=[.v (.tup ds),.v (.tup ds)]) rfl (ai (s:=[.v (.tup ds),.v (.tup ds)]) rfl (ai (s:=[.v (.tup ds),.v (.tup ds)]) rfl ?_))));refine bL (nr (s:=[.v (.tup ds),.v (.tup ds)]) (r:=.d (.bl (decide (V.int ds.length=V.int ds.length)))) rfl (by rw[Af rfl];rfl) ?_)
  refine ef (aA (f8 (j9 (j:=(ds.length:Int)) rfl rfl ⟨by lia,by lia⟩) (by
   show(true&&decide ((rng 0 ((ds.length:Int)).toNat).length<=1000000))=true
   rw[f7,Af (by lia)];rfl) (seqs ds hl hd (.tup ds) fun i d h=>VF.ix_tup h)) rfl) rfl (rW _)
 | @lst _ ds hl hd =>
  refine bh (o:=.rt (.d (.bl true)) [.v (.lst ds),.v (.lst ds)]) rfl ?_ rfl;refine ai (s:=[.v (.lst ds),.v (.lst ds)]) rfl (ai (s:=[.v (.lst ds),.v (.lst ds)]) rfl (ai (s:=[.v (.lst ds),.v (.lst ds)]) rfl (ai (s:=[.v (.lst ds),.v (.lst ds)]) rfl (ai (s:=[.v (.lst ds),.v (.lst ds)]) rfl ?_))));refine bL (nr (s:=[.v (.lst ds),.v (.lst ds)]) (r:=.d (.bl (decide (V.int ds.length=V.int ds.length)))) rfl (by rw[Af rfl];rfl) ?_)
  refine ef (aA (f8 (j9 (j:=(ds.length:Int)) rfl rfl ⟨by lia,by lia⟩) (by
   show(true&&decide ((rng 0 ((ds.length:Int)).toNat).length<=1000000))=true
   rw[f7,Af (by lia)];rfl) (seqs ds hl hd (.lst ds) fun i d h=>dI h)) rfl) rfl (rW _)
end K06
namespace K06
open PySem L2 VF VL VF22 VX VT
noncomputable section
theorem JB (ps:List (Bool×Str)):(lw ps).map D.str=.str "|"::(ps.map aM++[.str "|"]):=by
 unfold lw;rw[Qc,Ze,qQ];rfl
theorem kE {fe:FE} {st:En} {ps:List (Bool×Str)} {i:Nat} {s':En} (hl:ps.length<=1000) (h:d6 iB (ab fe aj) st=some (.f (.lst (ps.map aM)),st)) (hp:ng i (.o (.lst ((lw ps).map D.str))) st=some s') :
  aY (aL dA (aL dA (bU (ab (fC (.str "|")) aj)) (d6 iB (ab fe aj))) (bU (ab (fC (.str "|")) aj))) i st=some (.nx s'):=by
 have lm:(ps.map aM).length=ps.length:=Ya ..;have p1:=gz (a:=[.str "|"]) (b:=ps.map aM) (by rw[lm];show 1+_<=_;lia)
 have p2:=gz (a:=[.str "|"]++ps.map aM) (b:=[.str "|"]) (by rw[Xa,lm];show 1+_+1<=_;lia)
 have e:[.str "|"]++ps.map aM++[.str "|"]=(lw ps).map D.str:=by rw[JB];simp
 rw[e]at p2;exact lP (s:=st) (ay (ay rfl h rfl rfl p1) rfl rfl rfl p2) hp
section
variable {S φ:D} {ps qs:List (Bool×Str)} {n:Str} (hφ:bH φ) (hp:∀p∈ps,Nm p.2) (hq:∀p∈qs,Nm p.2) (lp:ps.length<=50) (lq:qs.length<=60) (q0:qs≠[]) (hft:ft [] (qs.map (·.2))=some n) (hnd:ft [] (ps.map (·.2))=none)
include hφ hp hq lp lq q0 hft hnd
theorem GU:∃(φ':D) (a b c d e:D),qE [.v S,.o φ,.v (.tup (ps.map aM)),.o (.lst (qs.map aM)),.v (cK "twice" n),.v (.bl false),.e,.e,.e,.e,.e]=some (.nx [.v S,.o φ',.v (.tup (ps.map aM)),.v (.lst (qs.map aM)),.v (cK "twice" n),.v (.bl false),.v a,.v b,.v c,.v d,.v e])/\bH φ':=by
 obtain⟨φ1,ss,e1,f1,g1,g2⟩:=nY (φ:=φ) (ps:=qs) (T:=.lst (qs.map aM)) rfl hφ (by lia)
 obtain⟨φ2,tt,e2,f2,k1,k2⟩:=nY (φ:=φ1) (ps:=ps) (T:=.tup (ps.map aM)) rfl f1 (by lia)
 have gs:GT ss:=Eg g1 hq g2 (by lia)
 have gt:GT tt:=Eg k1 hp k2 (by lia)
 have ls:(ss.flatMap (·.2)).length<=100:=by rw[g1];lia
 have lt:(tt.flatMap (·.2)).length<=100:=by rw[k1];lia
 have s0:ss≠[]:=fun z=>q0 (by rw[← g1,z];rfl)
 have w0:cV ss≠[]:=fun z=>by
  obtain⟨s,r,rfl⟩:=Yn s0;unfold cV at z;rw[Qd]at z;have:=(List.append_eq_nil_iff.mp z).1;unfold tw at this;cases this
 have lW:=gE gs;obtain⟨φ3,m,o,d,e3,f3⟩:=vX (S:=S) (Bs:=.tup (ps.map aM)) (Ms:=.lst (qs.map aM)) (b:=false) (n:=n) (W:=cV ss) (Gd:=cV tt) (o8:=.e) (o9:=.e) (o10:=.e) f2 rfl rfl rfl w0 (by lia) (GM gs ls (by rw[g1];exact hft)) (GN gt lt (by rw[k1];exact hnd)) (fun m hm=>GO gs ls hm s0) (fun m hm=>GP gs ls hm) (fun m hm=>GQ gs ls hm s0)
 refine⟨φ3,.lst ((cV ss).map D.str),.lst ((cV tt).map D.str),.str m,.str o,d,?_,f3⟩;refine ai (kE (ps:=qs) (by lia) (ef rfl rfl rfl) rfl) (ai (kE (ps:=ps) (by lia) (ef rfl rfl rfl) rfl) (ai (s:=[.v S,.o φ2,.v (.tup (ps.map aM)),.v (.lst (qs.map aM)),.v (cK "twice" n),.v (.bl false),.o (.lst ((cV ss).map D.str)),.o (.lst ((cV tt).map D.str)),.e,.e,.e]) (eI (dw (c:=false) rfl) (ai (lP (bA rfl rfl rfl rfl rfl rfl e1) rfl) (lP (bA rfl rfl rfl rfl rfl rfl e2) rfl))) e3))
theorem GV {a b c d e:D}:∃(φ':D) (a' b' c' d' e':D),qE [.v S,.o φ,.v (.tup (ps.map aM)),.v (.lst (qs.map aM)),.v (cK "twice" n),.v (.bl true),.v a,.v b,.v c,.v d,.v e]=some (.nx [.v S,.o φ',.v (.tup (ps.map aM)),.v (.lst (qs.map aM)),.v (cK "twice" n),.v (.bl true),.v a',.v b',.v c',.v d',.v e'])/\bH φ':=by
 have lW:=lH hq (by lia)
 obtain⟨φ3,m,o,d',e3,f3⟩:=vX (S:=S) (Bs:=.tup (ps.map aM)) (Ms:=.lst (qs.map aM)) (b:=true) (n:=n) (W:=lw qs) (Gd:=lw ps) (o8:=.v c) (o9:=.v d) (o10:=.v e) hφ rfl rfl rfl (by unfold lw;simp) (by lia) (Dc hq (by lia) hft) (Dd hp (by lia) hnd) (fun m hm=>De hq (by lia) hm) (fun m hm=>Df hq (by lia) hm) (fun m hm=>Dg hq (by lia) hm)
 refine⟨φ3,.lst ((lw qs).map D.str),.lst ((lw ps).map D.str),.str m,.str o,d',?_,f3⟩;exact ai (kE (ps:=qs) (by lia) (ef rfl rfl rfl) rfl) (ai (kE (ps:=ps) (by lia) (ef rfl rfl rfl) rfl) (ai (eX (dw (c:=true) rfl) rfl) e3))
end
theorem JZ {l N:List Str} (hs:∀x∈l,x∈N) (nd:l.Nodup):l.length<=N.length:=by
 induction l generalizing N with
 | nil=>simp
 | cons a r ih =>
  obtain⟨h1,h2⟩:=Zh.mp nd;have ha:=hs a (Qa ..);have:=ih (N:=N.erase a) (fun x hx=>(List.mem_erase_of_ne (fun z:x=a=>h1 (by rw[← z];exact hx))).mpr (hs x (Yb _ hx))) h2
  rw[BH ha]at this;have:=BN ha;rw[Yc];lia
theorem Dk (ns:List Int):bN D9 11 1 [.fl (ns.map D.int)]=some (.bl true,false):=by
 have f0:bH (Fl ns 0 0 1 0):=⟨ns,0,0,1,0,rfl,by decide,by decide,by decide,by decide⟩
 obtain⟨d1,φ1,e1,d10,d11,f1⟩:=bC (n:=8) f0 (by decide) (by decide)
 obtain⟨N,φ2,e2,hN,nm,nd,f2⟩:=zp (n:=1+d1) f1 (by lia) (by lia)
 obtain⟨ps,φ3,e3,p3,f3⟩:=CY f2 (xs:=N) (by lia) nm
 have hp:∀p∈ps,Nm p.2:=fun p hp=>nm _ (p3.subset (Wc.mpr ⟨p,hp,rfl⟩));have lp:ps.length=N.length:=by have:=p3.length_eq;rwa [Ya]at this
 have p0:ps≠[]:=fun z=>by rw[z]at lp;simp at lp;lia
 obtain⟨φ4,qs,e4,f4,g1,g2,g3⟩:=ur f3 hp p0 (by lia)
 have hq:∀p∈qs,Nm p.2:=fun q hq=>by
  obtain⟨p,h1,h2⟩:=Wc.mp (g3 q hq);rw[← h2];exact hp p h1
 have hnd:ft [] (ps.map (·.2))=none:=(qU _ _).mpr ⟨p3.nodup_iff.mpr nd,fun _ _ z=>(by cases z)⟩
 obtain⟨n,hft⟩:∃n,ft [] (qs.map (·.2))=some n:=by
  cases h:ft [] (qs.map (·.2)) with
  | some n=>exact⟨n,rfl⟩
  | none =>
   have h2:=((qU _ _).mp h).1
   have:=JZ (l:=qs.map (·.2)) (N:=ps.map (·.2)) (fun x hx=>by
    obtain⟨q,h1,rfl⟩:=Wc.mp hx
    exact g3 q h1) h2
   rw[Ya,Ya]at this;lia
 have q0:qs≠[]:=fun z=>by rw[z]at g1;simp at g1
 have e5:=GH hq (by lia) hft
 generalize hS:D.fl (ns.map D.int)=S;obtain⟨φ5,a,b,c,d,e,i1,f5⟩:=GU (S:=S) f4 hp hq (by lia) (by lia) q0 hft hnd
 obtain⟨φ6,a',b',c',d',e',i2,f6⟩:=GV (S:=S) (a:=a) (b:=b) (c:=c) (d:=d) (e:=e) f5 hp hq (by lia) (by lia) q0 hft hnd
 have ad:dA (.int 1) (.int d1)=some (.int (1+d1),false):=rfl;refine bh (o:=.rt (.d (.bl true)) [.v S,.o φ6,.v (.tup (ps.map aM)),.v (.lst (qs.map aM)),.v (cK "twice" n),.v (.bl true),.v a',.v b',.v c',.v d',.v e']) rfl ?_ rfl;refine ai (s:=[.v S,.o (Fl ns 0 0 1 0),.e,.e,.e,.e,.e,.e,.e,.e,.e]) (lP (s:=[.v S,.e,.e,.e,.e,.e,.e,.e,.e,.e,.e]) (bS rfl rfl (hS ▸ CU ns)) rfl) ?_;refine ai (s:=[.v S,.o φ3,.v (.tup (ps.map aM)),.e,.e,.e,.e,.e,.e,.e,.e]) (bX (s:=[.v S,.o φ3,.e,.e,.e,.e,.e,.e,.e,.e,.e]) (bA rfl rfl (aA (bA rfl rfl (aA (ay rfl (bA rfl rfl rfl rfl rfl rfl e1) rfl rfl ad) rfl) rfl rfl rfl e2) rfl) rfl rfl rfl e3) rfl) ?_;refine ai (s:=[.v S,.o φ4,.v (.tup (ps.map aM)),.o (.lst (qs.map aM)),.e,.e,.e,.e,.e,.e,.e]) (lP (s:=[.v S,.o φ4,.v (.tup (ps.map aM)),.e,.e,.e,.e,.e,.e,.e,.e]) (bA rfl rfl rfl rfl rfl rfl e4) rfl) ?_;refine ai (s:=[.v S,.o φ4,.v (.tup (ps.map aM)),.o (.lst (qs.map aM)),.v (cK "twice" n),.e,.e,.e,.e,.e,.e]) (bX (s:=[.v S,.o φ4,.v (.tup (ps.map aM)),.o (.lst (qs.map aM)),.e,.e,.e,.e,.e,.e,.e]) (dO (aA rfl (aA (cG rfl rfl e5 rfl) rfl)) rfl (by show 2<=1000000;decide)) rfl) ?_
 refine ai (s:=[.v S,.o φ6,.v (.tup (ps.map aM)),.v (.lst (qs.map aM)),.v (cK "twice" n),.v (.bl true),.v a',.v b',.v c',.v d',.v e']) (fI (kc rfl rfl) ?_) rfl;have n1:gN 5 (.bl false) [.v S,.o φ4,.v (.tup (ps.map aM)),.o (.lst (qs.map aM)),.v (cK "twice" n),.e,.e,.e,.e,.e,.e]=some [.v S,.o φ4,.v (.tup (ps.map aM)),.o (.lst (qs.map aM)),.v (cK "twice" n),.v (.bl false),.e,.e,.e,.e,.e]:=rfl;have n2:gN 5 (.bl true) [.v S,.o φ5,.v (.tup (ps.map aM)),.v (.lst (qs.map aM)),.v (cK "twice" n),.v (.bl false),.v a,.v b,.v c,.v d,.v e]=some [.v S,.o φ5,.v (.tup (ps.map aM)),.v (.lst (qs.map aM)),.v (cK "twice" n),.v (.bl true),.v a,.v b,.v c,.v d,.v e]:=rfl;simp only[dq,n1,i1,n2,i2,Za]
end
end K06
namespace K06
open PySem L2 VF VF22 VX
section
variable (P:Program) (w:World) (K:PySem.W.Frag) (mg:Str->Option Value) (base:Heap)
abbrev pM:=Cal P w K mg base "is_name" 1 wS (mE K ln)
abbrev lZ:=Cal P w K mg base "is_turned" 1 Ea (mE K eh)
abbrev lJ:=Cal P w K mg base "name_of" 2 Ea (mE K fz)
abbrev pN:=Cal P w K mg base "is_bead" 3 wS (mE K lA)
abbrev n6:=Cal P w K mg base "beads_in" 1 wS (mE K db)
abbrev jN:=Cal P w K mg base "words_of" 1 ["text","marks"] (mE K bo)
abbrev jO:=CalG P w K mg base "beads_of" 4 CP (rm K dR fJ)
abbrev jj:=CalG P w K mg base "read_strand" 5 CP (rm K bP bQ)
abbrev iM:=Cal P w K mg base "strand_words" 1 CP (mE K dE)
abbrev fQ:=CalG P w K mg base "refuse_twice" 3 wS (rm K cN dG)
abbrev n8:=CalG P w K mg base "read_set" 6 ["text"] (rm K de gX)
abbrev ma:=CalG P w K mg base "read_line" 5 ["text"] (rm K cO ge)
abbrev n9:=Cal P w K mg base "_law_flow" 1 G7 (mE K jC)
abbrev cc:=Cal P w K mg base "_law_pick" 1 CQ (jX K ax)
abbrev gp:=Cal P w K mg base "_law_letters" 2 CQ (jX K cW)
abbrev oa:=Cal P w K mg base "_law_name" 3 ["_law_flow_here","_law_stem"] (jX K jE)
abbrev md:=Cal P w K mg base "_law_names" 4 CQ (jX K iI)
abbrev iN:=Cal P w K mg base "_law_shuffled" 2 ["_law_flow_here","_law_things"] (jX K fK)
abbrev iO:=Cal P w K mg base "_law_mirrored" 1 ["_law_bead"] (mE K fL)
abbrev oe:=Cal P w K mg base "_law_line" 3 Ip (jX K jF)
abbrev me:=Cal P w K mg base "_law_alike" 4 G8 (mE K (du 4))
abbrev kG:=Cal P w K mg base "_law_spaced" 2 ["_law_flow_here","_law_tokens"] (jX K bB)
abbrev jk:=Cal P w K mg base "_law_doubled" 2 Jc (jX K gn)
abbrev gh:=Cal P w K mg base "_law_first_twice" 1 ["_law_beads"] (mE K dH)
abbrev jl:=Cal P w K mg base "_law_strands" 2 Jc (jX K dZ)
abbrev og:=CalG P w K mg base "_law_read" 7 G9 (rm K df gY)
abbrev oh:=Cal P w K mg base "_law_word" 8 G9 (mE K bM)
end
section
variable {P:Program} {w:World} {K:PySem.W.Frag} {mg:Str->Option Value} {base:Heap}
variable {cC cB cS cf cg c_Lacks c_NoName:Addr}
theorem ut (M:Md P w K mg):kZ P w K mg base "is_name" mK wS 0 pB:=fun hr=>⟨_,(af (bD (PW.pt (mX (gi (cu (cq K M.n_isinstance (pv 0) (d9 rfl M.n_str fv)))) (mW (gi (xB Ds Ds ao (dW K M.n_len (pv 0)) (BZ rfl M.c_LONGEST_NAME)))))) (am (aP i6)) aQ)
   (am (aP (cF (m8 rfl) rfl M.n_all boot_all (au (iR (jp (osc:=(ak mK)) (ON:=wS) (N:=["letter"]) (k:=1) (caps:=[]) (by decide +kernel) rfl rfl) rfl (eE (K:=K) rfl (pv 0)) (fun _ _ _ _=>(eO 0 (by show(["letter"]:List Str).Nodup;decide +kernel))) (fun _ _ _ _=>iQ) (fun _ _ _ _=>(pR (qj (K:=K) rfl) (pv 0) (BY rfl M.c_LETTERS) (by with_unfolding_all rfl)))) ah))))),
  (av (bW (jq (dU (dg (bv bp (aa (ac 0) (aa (fS fun _ _=>.ty _) ae))))) (dU (aR (xU DI DI (ap _) (bv gm (aa (ac 0) ae)) (fS fun _ _=>.int _))))) (aV (jb _)) aT)
   (aV (bv tN (aa (iU (eG (ac 0)) (ci 0) (by decide) kP (ar qk (ac 0) (fS fun _ _=>.str _))) ae))))⟩
theorem rb (M:Md P w K mg):kZ P w K mg base "is_turned" lB Ea 0 lV:=fun hr=>⟨_,(am (aP (ja PySem.F.plainAttrs_str PySem.F.slot_str_startswith PySem.F.type_str_startswith oA (pv 0) (au aF ah)))),
  (aV (oX wy (ac 0) (aa (aO _) ae)))⟩
theorem uu (M:Md P w K mg) (c1:lZ P w K mg base):kZ P w K mg base "name_of" qF Ea 1 pC:=fun hr=>⟨_,(am (aP (xg (cu (aI c1 hr rfl (au (pv 0) ah))) (gu (nl (K:=K) rfl) (pv 0) (fU ao) my) (pv 0)))),
  (aV (Hv (dg (dj (aa (ac 0) ae))) (gx j8 (ac 0) (d8 (ap _)) qh) (ac 0)))⟩
theorem uv (M:Md P w K mg) (c0:pM P w K mg base) (c2:lJ P w K mg base):kZ P w K mg base "is_bead" qG wS 2 pD:=fun hr=>⟨_,(am (aP (kI (cq K M.n_isinstance (pv 0) (d9 rfl M.n_str fv)) (mY (aI c0 hr rfl (au (aI c2 hr rfl (au (pv 0) ah)) ah)))))),
  (aV (iT (bv bp (aa (ac 0) (aa (fS fun _ _=>.ty _) ae))) (dj (aa (dj (aa (ac 0) ae)) ae))))⟩
theorem sP (M:Md P w K mg):kZ P w K mg base "beads_in" nV ["thing","beads","part"] 0 gS:=fun hr=>⟨_,(af (aX 1 sc_sbeadsin.nd (bq ah))
   (af (gF Ar rfl (eE (K:=K) rfl (pv 0)) (eO 2 sc_sbeadsin.nd) (am (bD (cu (cq K M.n_isinstance (pv 2) (d9 rfl M.n_str fv))) (am (cy (dB (pv 1) (pv 2)))) (am (cy (ja PySem.F.plainAttrs_list PySem.F.slot_list_extend PySem.F.type_list_extend (tO (K:=K) rfl rfl) (pv 1) (au (bb K (pv 2) ao) ah)))))))
   (am (aP (pv 1))))),
  (av (aG (bm ae))
   (av (iu (eG (ac 0)) (ci 2) (bW (dg (bv bp (aa (ac 2) (aa (fS fun _ _=>.ty _) ae)))) (cD (jZ cw (aa (ac 2) ae))) (cD (jZ wB (aa (ar bz (ac 2) (ap _)) ae)))))
   (aV (ac 1))))⟩
theorem sQ (M:Md P w K mg):kZ P w K mg base "words_of" ky Gj 0 jB:=fun hr=>⟨_,(af (bD (gi (cu (cq K M.n_isinstance (pv 0) (d9 rfl M.n_str fv)))) (am xk) aQ)
   (af (aX 2 sc_swordsof.nd (VT.pe_repl (by decide +kernel) (pv 0)))
   (af (VT.ps_frep (im:=3) (iy:=2) Ar rfl (pv 1) sc_swordsof.nd rfl rfl (by first|exact Or.inl rfl|exact Or.inr rfl) (by first|exact Or.inl rfl|exact Or.inr rfl) (by decide) VT.cz_b VT.hz_b)
   (am (aP (iR (jp (osc:=(ak ky)) (ON:=Gj) (N:=["word"]) (k:=1) (caps:=[]) (by decide +kernel) rfl rfl) rfl (eE (K:=K) rfl (ja PySem.F.plainAttrs_str PySem.F.slot_str_split PySem.F.type_str_split yH (pv 2) (au aF ah))) (fun _ _ _ _=>(eO 0 (by show(["word"]:List Str).Nodup;decide +kernel))) (fun _ _ _ _=>BW (bi (fG (K:=K) rfl hr.units) (pv 0) aF)) (fun _ _ _ _=>(pv 0)))))))),
  (av (bW (dU (dg (bv bp (aa (ac 0) (aa (fS fun _ _=>.ty _) ae))))) yA aT)
   (av (aG (VT.rd_repl (ac 0)))
   (av (VT.rs_frep (ac 1))
   (aV (iU (eG (oX yI (ac 2) (aa (aO _) ae))) (ci 0) (by decide) (aR (ar ro_neA (ac 0) (aO _))) (ac 0))))))⟩
theorem sR (Y0:Xb K mg "BadText" "StrandError" cB cS cg) (I0:CalJ0 P w K mg base cB cg 1) (M:Md P w K mg) (c3:pN P w K mg base):FX P w K mg base "beads_of" kz CP 3 gU:=fun hr=>⟨_,(af (bD (gi (cu (cF (m8 rfl) rfl M.n_all boot_all (au (iR (jp (osc:=(ak kz)) (ON:=CP) (N:=["word"]) (k:=1) (caps:=[]) (by decide +kernel) rfl rfl) rfl (eE (K:=K) rfl (pv 0)) (fun _ _ _ _=>(eO 0 (by show(["word"]:List Str).Nodup;decide +kernel))) (fun _ _ _ _=>iQ) (fun _ _ _ _=>(aI c3 hr rfl (au (pv 0) ah)))) ah)))) (am (t5 Y0 I0 hr rfl)) aQ)
   (am (gb (aP (qp K M.n_tuple (pv 0)))))),
  (dP (sj (dU (dg (bv tN (aa (iU (eG (ac 0)) (ci 0) (by decide) kP (dj (aa (ac 0) ae))) ae)))) (la Y0.aC) (gB aT))
   (gB (aV (bv kW (aa (ac 0) ae)))))⟩
theorem oi (Y0:Xb K mg "BadText" "StrandError" cB cS cg) (I0:CalJ0 P w K mg base cB cg 1) (M:Md P w K mg) (c6:jO P w K mg base):FX P w K mg base "read_strand" iL ["words","beads"] 4 dY:=fun hr=>⟨_,(af (aX 1 sc_sreadstrand.nd (ki c6 hr rfl (au (gu (nl (K:=K) rfl) (pv 0) (fU ao) (fU (oH kL ao))) ah)))
   (af (bD (PW.pt (mX (gG (t6 (K:=K) rfl) (bb K (pv 0) ao) (Ik rfl M.c_KIND_OF) (by with_unfolding_all rfl)) (mX (bi (fG (K:=K) rfl hr.units) (bb K (pv 0) (oH kL ao)) (sB (K:=K) rfl rfl M.c_CLOSE_OF (bb K (pv 0) ao) (fun _ _=>rfl))) (mW (bi hU (dW K M.n_len (pv 1)) ao))))) (am (t5 Y0 I0 hr rfl)) aQ)
   (am (gb (aP (gH (au (sB (K:=K) rfl rfl M.c_KIND_OF (bb K (pv 0) ao) (fun _ _=>rfl)) (au (pv 1) ah)))))))),
  (dP (vt (aa (gx j8 (ac 0) (d8 (ap _)) (d8 (oW kS (ap _)))) ae))
   (dP (sj (jq (aR (CH (ar bz (ac 0) (ap _)))) (jq (aR (ar ro_neA (ar bz (ac 0) (oW kS (ap _))) (y8 (ar bz (ac 0) (ap _))))) (aR (ar et (bv gm (aa (ac 1) ae)) (ap _))))) (la Y0.aC) (gB aT))
   (gB (aV (gL (aa (y8 (ar bz (ac 0) (ap _))) (aa (ac 1) ae)))))))⟩
theorem mq (M:Md P w K mg):kZ P w K mg base "strand_words" gZ ["words","groups","group","word"] 0 iG:=fun hr=>⟨_,(af (aX 1 sc_sstrandwords.nd (bq ah))
   (af (aX 2 sc_sstrandwords.nd (bq ah))
   (af (gF Ar rfl (eE (K:=K) rfl (pv 0)) (eO 3 sc_sstrandwords.nd) (af (cy (dB (pv 2) (pv 3)))
   (am (bD (gG (qj (K:=K) rfl) (pv 3) (gH (au aF (au aF ah))) (by with_unfolding_all rfl)) (af (cy (dB (pv 1) (pv 2)))
   (am (aX 2 sc_sstrandwords.nd (bq ah)))) aQ))))
   (af (bD (bi (fG (K:=K) rfl hr.units) (pv 2) (bq ah)) (am (cy (dB (pv 1) (pv 2)))) aQ)
   (am (aP (pv 1))))))),
  (av (aG (bm ae))
   (av (aG (bm ae))
   (av (iu (eG (ac 0)) (ci 3) (av (cD (jZ cw (aa (ac 3) ae)))
   (bW (aR (ar qk (ac 3) (gL (aa (aO _) (aa (aO _) ae))))) (av (cD (jZ cw (aa (ac 2) ae)))
   (aG (bm ae))) aT)))
   (av (bW (aR (ar ro_neA (ac 2) (bm ae))) (cD (jZ cw (aa (ac 2) ae))) aT)
   (aV (ac 1))))))⟩
theorem mt (Y:Xk K mg "Twice" "name" "StrandError" cC cS cf) (I:CalJ P w K mg base cC cf "name" 1) (M:Md P w K mg) (c2:lJ P w K mg base) (c4:n6 P w K mg base):FX P w K mg base "refuse_twice" g7 ["thing","seen","bead","name"] 2 dF:=fun hr=>⟨_,(af (gb (aX 1 sc_srefusetwice.nd xG))
   (am (gF PassesOwn.leaving rfl (eE (K:=K) rfl (aI c4 hr rfl (au (pv 0) ah))) (eO 2 sc_srefusetwice.nd) (af (gb (aX 3 sc_srefusetwice.nd (aI c2 hr rfl (au (pv 2) ah))))
   (af (bD (gG (FK (uN hr)) (pv 3) (pv 1) (by with_unfolding_all rfl)) (am (F3 Y I hr rfl (pv 3))) aQ)
   (am (gb (ib i6 (jn (pv 1) (pv 3) (wE (uN hr))))))))))),
  (dP (gB (aG yE))
   (F2 (eG (fZ (aa (ac 0) ae))) (ci 2) (dP (gB (aG (dj (aa (ac 2) ae))))
   (dP (sj (aR (ar (FJ false) (ac 3) (ac 1))) (yQ Y.aC (ac 3)) (gB aT))
   (gB (jr wD (jb _) (ac 3)))))))⟩
theorem sS (M:Md P w K mg) (c5:jN P w K mg base) (c7:jj P w K mg base) (c8:iM P w K mg base) (c9:fQ P w K mg base):FX P w K mg base "read_set" kA ["text","some"] 5 gW:=fun hr=>⟨_,(af (aX 1 sc_sreadset.nd (qp K M.n_tuple (yW (jp (osc:=(ak kA)) (ON:=["text","some"]) (N:=["group"]) (k:=1) (caps:=[]) (by decide +kernel) rfl rfl) rfl (eE (K:=K) rfl (aI c8 hr rfl (au (aI c5 hr rfl (au (pv 0) (au aF ah))) ah))) (fun _ _ _ _=>(eO 0 (by show(["group"]:List Str).Nodup;decide +kernel))) (fun _ _ _ _=>iQ) (fun _ _ _ _=>yV c7 hr rfl (au (pv 0) ah)))))
   (af (si c9 hr rfl (au (pv 1) ah))
   (am (gb (aP (pv 1)))))),
  (dP (Cw kW (eG (fZ (aa (fZ (aa (ac 0) (aa (aO _) ae))) ae))) (ci 0) (by decide) kP (aa (ac 0) ae))
   (dP (vp (aa (ac 1) ae))
   (gB (aV (ac 1)))))⟩
theorem rd (Y0:Xb K mg "BadText" "StrandError" cB cS cg) (I0:CalJ0 P w K mg base cB cg 1) (M:Md P w K mg) (c5:jN P w K mg base) (c6:jO P w K mg base) (c9:fQ P w K mg base):FX P w K mg base "read_line" lC ["text","words","line"] 4 gd:=fun hr=>⟨_,(af (gb (aX 1 sc_sreadline.nd (aI c5 hr rfl (au (pv 0) (au aF ah)))))
   (af (bD (PW.pt (mX (bi yl (dW K M.n_len (pv 1)) ao) (mX (bi (fG (K:=K) rfl hr.units) (bb K (pv 1) ao) aF) (mW (bi (fG (K:=K) rfl hr.units) (bb K (pv 1) (oH kL ao)) aF))))) (am (t5 Y0 I0 hr rfl)) aQ)
   (af (aX 2 sc_sreadline.nd (ki c6 hr rfl (au (gu (nl (K:=K) rfl) (pv 1) (fU ao) (fU (oH kL ao))) ah)))
   (af (si c9 hr rfl (au (pv 2) ah))
   (am (gb (aP (pv 2)))))))),
  (dP (gB (aG (fZ (aa (ac 0) (aa (aO _) ae)))))
   (dP (sj (jq (aR (ar ym (bv gm (aa (ac 1) ae)) (ap _))) (jq (aR (ar ro_neA (ar bz (ac 1) (ap _)) (aO _))) (aR (ar ro_neA (ar bz (ac 1) (oW kS (ap _))) (aO _))))) (la Y0.aC) (gB aT))
   (dP (vt (aa (gx j8 (ac 1) (d8 (ap _)) (d8 (oW kS (ap _)))) ae))
   (dP (vp (aa (ac 2) ae))
   (gB (aV (ac 2)))))))⟩
theorem sT (M:Md P w K mg):kZ P w K mg base "_law_flow" t8 G7 0 nQ:=fun hr=>⟨_,(am (aP (vf (lQ (fq (fH (K:=K) rfl rfl) rfl M.n_list cZ (au (pv 0) ah)) (lQ ao (lQ ao (lQ ao (lQ ao ve rfl) rfl) rfl) rfl) rfl)))),
  (aV (bm (aa (bv iC (aa (ac 0) ae)) (aa (ap _) (aa (ap _) (aa (ap _) (aa (ap _) ae)))))))⟩
theorem sU (M:Md P w K mg):kZ P w K mg base "_law_pick" t9 Iq 0 jD:=fun hr=>⟨_,(af (bD (PW.pt (kH (bi hU (bb K (pv 0) ao) ao) (jQ (bi yl (bb K (pv 0) ao) (dW K M.n_len (bb K (pv 0) ao)))))) (af (aX 2 sc_sLpick.nd (bb K (bb K (pv 0) ao) (bb K (pv 0) ao)))
   (af (ib (br K (bb K (pv 0) ao) ao) (jn (pv 0) ao set_list))
   (am (bD (bi Hi (pv 2) (ce EA ao ao)) (am (ib (pv 2) (jn (pv 0) ao set_list))) (am (ib (ce ie (br K (br K (ce j6 (bb K (pv 0) ao) ao) (ce ie (pv 2) ao)) ao) ao) (jn (pv 0) ao set_list))))))) aQ)
   (af (bD (bi Hh (bb K (pv 0) ao) ao) (af (aX 3 sc_sLpick.nd (ce ie (bb K (pv 0) ao) (pv 1)))
   (af (ib (ce mx (bb K (pv 0) ao) (pv 1)) (jn (pv 0) ao set_list))
   (am (aP (pv 3))))) aQ)
   (af (ib (br K (bb K (pv 0) ao) ao) (jn (pv 0) ao set_list))
   (af (ib (ce ie (br K (br K (ce j6 (bb K (pv 0) ao) ao) ao) (bb K (pv 0) ao)) ao) (jn (pv 0) ao set_list))
   (am (aP (ce ie (ce mx (ce ie (ce j6 (br K (ce ie (bb K (pv 0) ao) ao) ao) (br K (ce mx (bb K (pv 0) ao) ao) ao)) ao) ao) (pv 1)))))))),
  (av (bW (iS (aR (ar et (ar bz (ac 0) (ap _)) (ap _))) (aR (ar ym (ar bz (ac 0) (ap _)) (bv gm (aa (ar bz (ac 0) (ap _)) ae))))) (av (aG (ar bz (ar bz (ac 0) (ap _)) (ar bz (ac 0) (ap _))))
   (av (jr fw (ar ro_addA (ar bz (ac 0) (ap _)) (ap _)) (ap _))
   (bW (aR (ar HD (ac 2) (ar Ff (ap _) (ap _)))) (jr fw (ac 2) (ap _)) (jr fw (ar iz (ar ro_addA (ar ro_addA (ar j7 (ar bz (ac 0) (ap _)) (ap _)) (ar iz (ac 2) (ap _))) (ap _)) (ap _)) (ap _))))) aT)
   (av (bW (aR (ar HB (ar bz (ac 0) (ap _)) (ap _))) (av (aG (ar iz (ar bz (ac 0) (ap _)) (ac 1)))
   (av (jr fw (ar qf (ar bz (ac 0) (ap _)) (ac 1)) (ap _))
   (aV (ac 3)))) aT)
   (av (jr fw (ar ro_addA (ar bz (ac 0) (ap _)) (ap _)) (ap _))
   (av (jr fw (ar iz (ar ro_addA (ar ro_addA (ar j7 (ar bz (ac 0) (ap _)) (ap _)) (ap _)) (ar bz (ac 0) (ap _))) (ap _)) (ap _))
   (aV (ar iz (ar qf (ar iz (ar j7 (ar ro_addA (ar iz (ar bz (ac 0) (ap _)) (ap _)) (ap _)) (ar ro_addA (ar qf (ar bz (ac 0) (ap _)) (ap _)) (ap _))) (ap _)) (ap _)) (ac 1)))))))⟩
theorem oj (M:Md P w K mg) (c13:cc P w K mg base):kZ P w K mg base "_law_letters" i3 CQ 1 jf:=fun hr=>⟨_,(am (aP (ja PySem.F.plainAttrs_str PySem.F.slot_str_join PySem.F.type_str_join BX aF (au (iR (jp (osc:=(ak i3)) (ON:=CQ) (N:=["_law_k","_law_flow_here"]) (k:=1) (caps:=[0]) (by decide +kernel) rfl rfl) rfl (iP rfl M.n_range (au (pv 1) ah)) (fun _ _ _ _=>(eO 0 (by show(["_law_k","_law_flow_here"]:List Str).Nodup;decide +kernel))) (fun _ _ _ _=>iQ) (fun _ _ _ _=>(bb K aF (aI c13 hr rfl (au (pv 1) (au ao ah)))))) ah)))),
  (aV (oX Cb (aO _) (aa (iU (mG (aa (ac 1) ae)) (ci 0) (by decide) kP (ar bz (aO _) (bJ (aa (ap _) ae)))) ae)))⟩
theorem sV (M:Md P w K mg) (c13:cc P w K mg base) (c14:gp P w K mg base):kZ P w K mg base "_law_name" ua Ir 2 nR:=fun hr=>⟨_,(af (bD (bi (fG (K:=K) rfl hr.units) (pv 1) aF) (am (aP (br K (pv 1) (aI c14 hr rfl (au (pv 0) (au (br K ao (aI c13 hr rfl (au (pv 0) (au ao ah)))) ah)))))) aQ)
   (@af _ _ _ _ _ (bD (bi hU (aI c13 hr rfl (au (pv 0) (au ao ah))) ao) (@af _ _ _ _ _ (@aX _ _ _ _ 2 _ _ sc_sLname.nd (@bq _ _ _ _ (@dS _ _ _ (by rfl))) (by rfl) (by first|exact Or.inl rfl|exact Or.inr rfl) (by first|exact .inl rfl|exact .inr rfl) (by rfl) (by rfl) (by rfl))
   (af (aX 2 sc_sLname.nd (br K (pv 2) (@bq _ _ _ _ (@dS _ _ _ (by rfl)))))
   (am (aP (bb K (pv 2) (aI c13 hr rfl (au (pv 0) (au ao ah)))))))) aQ)
   (am (aP (aI c14 hr rfl (au (pv 0) (au (br K ao (aI c13 hr rfl (au (pv 0) (au ao ah)))) ah))))))),
  (av (bW (aR (ar ro_neA (ac 1) (aO _))) (aV (ar ro_addA (ac 1) (bJ (aa (ar ro_addA (ap _) (bJ (aa (ap _) ae))) ae)))) aT)
   (av (bW (aR (ar et (bJ (aa (ap _) ae)) (ap _))) (av (aG (bm eV))
   (av (aG (ar ro_addA (ac 2) (bm eV)))
   (aV (ar bz (ac 2) (bJ (aa (ap _) ae)))))) aT)
   (aV (bJ (aa (ar ro_addA (ap _) (bJ (aa (ap _) ae))) ae)))))⟩
theorem re (M:Md P w K mg) (c13:cc P w K mg base) (c14:gp P w K mg base) (c15:oa P w K mg base):kZ P w K mg base "_law_names" qH Iu 3 iH:=fun hr=>⟨_,(af (aX 2 sc_sLnames.nd aF)
   (af (bD (bi hU (aI c13 hr rfl (au (pv 0) (au ao ah))) ao) (am (aX 2 sc_sLnames.nd (aI c14 hr rfl (au (pv 0) (au (br K ao (aI c13 hr rfl (au (pv 0) (au ao ah)))) ah))))) aQ)
   (af (aX 3 sc_sLnames.nd (bq ah))
   (af (gF Ar rfl (iP rfl M.n_range (au (pv 1) ah)) (eO 4 sc_sLnames.nd) (af (aX 5 sc_sLnames.nd (aI c15 hr rfl (au (pv 0) (au (pv 2) ah))))
   (af (aX 6 sc_sLnames.nd ao)
   (af (rA Ar (gG (qj (K:=K) rfl) (pv 5) (pv 3) (by with_unfolding_all rfl)) (af (aX 5 sc_sLnames.nd (ce j6 (bb K aF (ce ie (pv 6) ao)) (br K ao (ce mx (pv 6) ao))))
   (am (aX 6 sc_sLnames.nd (br K (pv 6) ao)))))
   (am (cy (dB (pv 3) (pv 5))))))))
   (am (aP (pv 3))))))),
  (av (aG (aO _))
   (av (bW (aR (ar et (bJ (aa (ap _) ae)) (ap _))) (aG (bJ (aa (ar ro_addA (ap _) (bJ (aa (ap _) ae))) ae))) aT)
   (av (aG (bm ae))
   (av (iu (mG (aa (ac 1) ae)) (ci 4) (av (aG (bJ (aa (ac 2) ae)))
   (av (aG (ap _))
   (av (rM 200 (aR (ar qk (ac 5) (ac 3))) (av (aG (ar j7 (ar bz (aO _) (ar iz (ac 6) (ap _))) (ar ro_addA (ap _) (ar qf (ac 6) (ap _)))))
   (aG (ar ro_addA (ac 6) (ap _)))))
   (cD (jZ cw (aa (ac 5) ae)))))))
   (aV (ac 3))))))⟩
theorem mv (M:Md P w K mg) (c13:cc P w K mg base):kZ P w K mg base "_law_shuffled" jG Iv 1 iJ:=fun hr=>⟨_,(af (aX 2 sc_sLshuffled.nd (fq (fH (K:=K) rfl rfl) rfl M.n_list cZ (au (pv 1) ah)))
   (af (aX 3 sc_sLshuffled.nd (bq ah))
   (af (rA Ar (bi (fG (K:=K) rfl hr.units) (pv 2) (bq ah)) (am (cy (dB (pv 3) (ja PySem.F.plainAttrs_list PySem.F.slot_list_pop PySem.F.type_list_pop xO (pv 2) (au (aI c13 hr rfl (au (pv 0) (au (dW K M.n_len (pv 2)) ah))) ah))))))
   (am (aP (pv 3)))))),
  (av (aG (bv iC (aa (ac 1) ae)))
   (av (aG (bm ae))
   (av (rM 300 (aR (ar ro_neA (ac 2) (bm ae))) (cD (jZ cw (aa (jZ yk (aa (bJ (aa (bv gm (aa (ac 2) ae)) ae)) ae)) ae))))
   (aV (ac 3)))))⟩
theorem mw (M:Md P w K mg):kZ P w K mg base "_law_mirrored" jH ["_law_bead"] 0 iK:=fun hr=>⟨_,(af (bD (bi hU (bb K (pv 0) ao) aF) (am (aP (gu (nl (K:=K) rfl) (pv 0) (fU ao) my))) aQ)
   (am (aP (br K aF (pv 0))))),
  (av (bW (aR (ar et (ar bz (ac 0) (ap _)) (aO _))) (aV (gx j8 (ac 0) (d8 (ap _)) qh)) aT)
   (aV (ar ro_addA (aO _) (ac 0))))⟩
theorem sW (M:Md P w K mg) (c13:cc P w K mg base) (c17:iN P w K mg base):kZ P w K mg base "_law_line" qI Ip 2 nS:=fun hr=>⟨_,(am (aP (qp K M.n_tuple (iR (jp (osc:=(ak qI)) (ON:=Ip) (N:=["_law_name_here","_law_flow_here"]) (k:=1) (caps:=[0]) (by decide +kernel) rfl rfl) rfl (eE (K:=K) rfl (aI c17 hr rfl (au (pv 0) (au (pv 1) ah)))) (fun _ _ _ _=>(eO 0 (by show(["_law_name_here","_law_flow_here"]:List Str).Nodup;decide +kernel))) (fun _ _ _ _=>iQ) (fun _ _ _ _=>(br K (ce j6 aF (aI c13 hr rfl (au (pv 1) (au ao ah)))) (pv 0))))))),
  (aV (bv kW (aa (iU (eG (bJ (aa (ac 1) ae))) (ci 0) (by decide) kP (ar ro_addA (ar j7 (aO _) (bJ (aa (ap _) ae))) (ac 0))) ae)))⟩
theorem rg {n:Nat} {gs:List D->Option Rz} (M:Md P w K mg) (c20:Cal P w K mg base "_law_alike" n G8 (mE K gs)):kZ P w K mg base "_law_alike" mL G8 n (lX gs):=fun hr=>⟨_,(af (bD (bi xy (pv 1) xf) (am (aP (kg xy (pv 0) xf))) aQ)
   (af (bD (PW.pt (mX (cu (cq K M.n_isinstance (pv 1) (d9 rfl M.n_bool gJ))) (mW (cu (cq K M.n_isinstance (pv 0) (d9 rfl M.n_bool gJ)))))) (am (aP (kI (cq K M.n_isinstance (pv 1) (d9 rfl M.n_bool gJ)) (kI (cq K M.n_isinstance (pv 0) (d9 rfl M.n_bool gJ)) (mY (kg hU (pv 0) (pv 1))))))) aQ)
   (af (bD (cu (cq K M.n_isinstance (pv 1) (d9 rfl M.n_int oT))) (am (aP (kI (cq K M.n_isinstance (pv 0) (d9 rfl M.n_int oT)) (mY (kg hU (pv 0) (pv 1)))))) aQ)
   (af (bD (cu (cq K M.n_isinstance (pv 1) (d9 rfl M.n_str fv))) (am (aP (kI (cq K M.n_isinstance (pv 0) (d9 rfl M.n_str fv)) (mY (kg hU (pv 0) (pv 1)))))) aQ)
   (af (bD (PW.pt (mX (bi (fG (K:=K) rfl hr.units) (cq K M.n_isinstance (pv 1) (d9 rfl M.n_tuple ir)) (cq K M.n_isinstance (pv 0) (d9 rfl M.n_tuple ir))) (mW (bi (fG (K:=K) rfl hr.units) (cq K M.n_isinstance (pv 1) (d9 rfl M.n_list cZ)) (cq K M.n_isinstance (pv 0) (d9 rfl M.n_list cZ)))))) (am (aP i6)) aQ)
   (am (aP (kI (kg hU (dW K M.n_len (pv 0)) (dW K M.n_len (pv 1))) (mY (cF (m8 rfl) rfl M.n_all boot_all (au (iR (jp (osc:=(ak mL)) (ON:=G8) (N:=["_law_k","_law_found","_law_due"]) (k:=1) (caps:=[0,1]) (by decide +kernel) rfl rfl) rfl (iP rfl M.n_range (au (dW K M.n_len (pv 1)) ah)) (fun _ _ _ _=>(eO 0 (by show(["_law_k","_law_found","_law_due"]:List Str).Nodup;decide +kernel))) (fun _ _ _ _=>iQ) (fun _ _ _ _=>(aI c20 hr rfl (au (bb K (pv 1) (pv 0)) (au (bb K (pv 2) (pv 0)) ah)) (Wa _)))) ah))))))))))),
  (av (bW (aR (ar x9 (ac 1) xT)) (aV (ar x9 (ac 0) xT)) aT)
   (av (bW (jq (dg (bv bp (aa (ac 1) (aa (fS fun _ _=>.ty _) ae)))) (dg (bv bp (aa (ac 0) (aa (fS fun _ _=>.ty _) ae))))) (aV (iT (bv bp (aa (ac 1) (aa (fS fun _ _=>.ty _) ae))) (iT (bv bp (aa (ac 0) (aa (fS fun _ _=>.ty _) ae))) (ar et (ac 0) (ac 1))))) aT)
   (av (bW (dg (bv bp (aa (ac 1) (aa (fS fun _ _=>.ty _) ae)))) (aV (iT (bv bp (aa (ac 0) (aa (fS fun _ _=>.ty _) ae))) (ar et (ac 0) (ac 1)))) aT)
   (av (bW (dg (bv bp (aa (ac 1) (aa (fS fun _ _=>.ty _) ae)))) (aV (iT (bv bp (aa (ac 0) (aa (fS fun _ _=>.ty _) ae))) (ar et (ac 0) (ac 1)))) aT)
   (av (bW (jq (aR (ar ro_neA (bv bp (aa (ac 1) (aa (fS fun _ _=>.ty _) ae))) (bv bp (aa (ac 0) (aa (fS fun _ _=>.ty _) ae))))) (aR (ar ro_neA (bv bp (aa (ac 1) (aa (fS fun _ _=>.ty _) ae))) (bv bp (aa (ac 0) (aa (fS fun _ _=>.ty _) ae)))))) (aV (jb _)) aT)
   (aV (iT (ar et (bv gm (aa (ac 0) ae)) (bv gm (aa (ac 1) ae))) (bv tN (aa (iU (mG (aa (bv gm (aa (ac 1) ae)) ae)) (ci 0) (by decide) kP (dj (aa (ar bz (ac 1) (ac 0)) (aa (ar bz (ac 2) (ac 0)) ae)))) ae)))))))))⟩
theorem oD (M:Md P w K mg) (c13:cc P w K mg base):kZ P w K mg base "_law_spaced" nW Iw 1 kx:=fun hr=>⟨_,(af (aX 2 sc_sLspaced.nd aF)
   (af (aX 3 sc_sLspaced.nd i6)
   (@af _ _ _ _ _ (gF Ar rfl (eE (K:=K) rfl (pv 1)) (eO 4 sc_sLspaced.nd) (@af _ _ _ _ _ (@aX _ _ _ _ 5 _ _ sc_sLspaced.nd (@bq _ _ _ _ (@dS _ _ _ (by rfl))) (by rfl) (by first|exact Or.inl rfl|exact Or.inr rfl) (by first|exact .inl rfl|exact .inr rfl) (by rfl) (by rfl) (by rfl))
   (@af _ _ _ _ _ (bD (PW.pt (kH (cu (pv 3)) (jQ (gG (oZ (K:=K) rfl) (pv 4) (@bq _ _ _ _ (@dS _ _ _ (by rfl))) (by with_unfolding_all rfl))))) (am (@aX _ _ _ _ 5 _ _ sc_sLspaced.nd (@bq _ _ _ _ (@dS _ _ _ (by rfl))) (by rfl) (by first|exact Or.inl rfl|exact Or.inr rfl) (by first|exact .inl rfl|exact .inr rfl) (by rfl) (by rfl) (by rfl))) aQ)
   (af (aX 2 sc_sLspaced.nd (br K (br K (pv 2) (bb K (pv 5) (aI c13 hr rfl (au (pv 0) (au ao ah))))) (pv 4)))
   (am (aX 3 sc_sLspaced.nd (pR (oZ (K:=K) rfl) (pv 4) (@bq _ _ _ _ (@dS _ _ _ (by rfl))) (by with_unfolding_all rfl))))))))
   (am (aP (br K (pv 2) (bb K (@bq _ _ _ _ (@dS _ _ _ (by rfl))) (aI c13 hr rfl (au (pv 0) (au ao ah)))))))))),
  (av (aG (aO _))
   (av (aG (jb _))
   (av (iu (eG (ac 1)) (ci 4) (av (aG (bm eV))
   (av (bW (iS (dg (ac 3)) (aR (ar o0 (ac 4) (bm eV)))) (aG (bm eV)) aT)
   (av (aG (ar ro_addA (ar ro_addA (ac 2) (ar bz (ac 5) (bJ (aa (ap _) ae)))) (ac 4)))
   (aG (ar o0 (ac 4) (bm eV)))))))
   (aV (ar ro_addA (ac 2) (ar bz (bm eV) (bJ (aa (ap _) ae))))))))⟩
theorem ol (M:Md P w K mg) (c13:cc P w K mg base) (c18:iO P w K mg base):kZ P w K mg base "_law_doubled" lD Ix 1 jg:=fun hr=>⟨_,(af (aX 2 sc_sLdoubled.nd (fq (fH (K:=K) rfl rfl) rfl M.n_list cZ (au (pv 1) ah)))
   (af (gF Ar rfl (iP rfl M.n_range (au (br K ao (aI c13 hr rfl (au (pv 0) (au ao ah)))) ah)) (eO 3 sc_sLdoubled.nd) (af (aX 4 sc_sLdoubled.nd (bb K (pv 2) (aI c13 hr rfl (au (pv 0) (au (dW K M.n_len (pv 2)) ah)))))
   (af (bD (bi hU (aI c13 hr rfl (au (pv 0) (au ao ah))) ao) (am (aX 4 sc_sLdoubled.nd (aI c18 hr rfl (au (pv 4) ah)))) aQ)
   (am (cy (ja PySem.F.plainAttrs_list PySem.F.slot_list_insert PySem.F.type_list_insert wM (pv 2) (au (aI c13 hr rfl (au (pv 0) (au (br K (dW K M.n_len (pv 2)) ao) ah))) (au (pv 4) ah))))))))
   (am (aP (pv 2))))),
  (av (aG (bv iC (aa (ac 1) ae)))
   (av (iu (mG (aa (ar ro_addA (ap _) (bJ (aa (ap _) ae))) ae)) (ci 3) (av (aG (ar bz (ac 2) (bJ (aa (bv gm (aa (ac 2) ae)) ae))))
   (av (bW (aR (ar et (bJ (aa (ap _) ae)) (ap _))) (aG (dj (aa (ac 4) ae))) aT)
   (cD (jZ wN (aa (bJ (aa (ar ro_addA (bv gm (aa (ac 2) ae)) (ap _)) ae)) (aa (ac 4) ae)))))))
   (aV (ac 2))))⟩
theorem jP (M:Md P w K mg):kZ P w K mg base "_law_first_twice" g8 Iy 0 gf:=fun hr=>⟨_,(af (aX 1 sc_sLfirsttwice.nd (bq ah))
   (af (gF Ar rfl (eE (K:=K) rfl (pv 0)) (eO 2 sc_sLfirsttwice.nd) (af (bD (gG (qj (K:=K) rfl) (ja PySem.F.plainAttrs_str PySem.F.slot_str_strip PySem.F.type_str_strip nA (pv 2) (au aF ah)) (pv 1) (by with_unfolding_all rfl)) (am (aP (ja PySem.F.plainAttrs_str PySem.F.slot_str_strip PySem.F.type_str_strip nA (pv 2) (au aF ah)))) aQ)
   (am (cy (dB (pv 1) (ja PySem.F.plainAttrs_str PySem.F.slot_str_strip PySem.F.type_str_strip nA (pv 2) (au aF ah)))))))
   (am (aP aF)))),
  (av (aG (bm ae))
   (av (iu (eG (ac 0)) (ci 2) (av (bW (aR (ar qk (oX nB (ac 2) (aa (aO _) ae)) (ac 1))) (aV (oX nB (ac 2) (aa (aO _) ae))) aT)
   (cD (jZ cw (aa (oX nB (ac 2) (aa (aO _) ae)) ae)))))
   (aV (aO _))))⟩
theorem om (M:Md P w K mg) (c13:cc P w K mg base):kZ P w K mg base "_law_strands" lE Iz 1 jh:=fun hr=>⟨_,(af (aX 2 sc_sLstrands.nd (bq ah))
   (af (aX 3 sc_sLstrands.nd aF)
   (af (gF Ar rfl (eE (K:=K) rfl (pv 1)) (eO 4 sc_sLstrands.nd) (af (bD (bi hU (pv 3) aF) (af (aX 3 sc_sLstrands.nd (bb K aF (aI c13 hr rfl (au (pv 0) (au ao ah)))))
   (am (cy (dB (pv 2) (pv 3))))) aQ)
   (af (cy (dB (pv 2) (pv 4)))
   (am (bD (bi hU (aI c13 hr rfl (au (pv 0) (au ao ah))) ao) (af (cy (dB (pv 2) (r6 (uN hr) (uI (jS aF aF (jS aF aF uH)) rfl rfl (by simp) (by show 2<=15;decide)) (pv 3) (fun _ _=>rfl))))
   (am (aX 3 sc_sLstrands.nd aF))) aQ)))))
   (af (bD (bi (fG (K:=K) rfl hr.units) (pv 3) aF) (am (cy (dB (pv 2) (r6 (uN hr) (uI (jS aF aF (jS aF aF uH)) rfl rfl (by simp) (by show 2<=15;decide)) (pv 3) (fun _ _=>rfl))))) aQ)
   (am (aP (pv 2))))))),
  (av (aG (bm ae))
   (av (aG (aO _))
   (av (iu (eG (ac 1)) (ci 4) (av (bW (aR (ar et (ac 3) (aO _))) (av (aG (ar bz (aO _) (bJ (aa (ap _) ae))))
   (cD (jZ cw (aa (ac 3) ae)))) aT)
   (av (cD (jZ cw (aa (ac 4) ae)))
   (bW (aR (ar et (bJ (aa (ap _) ae)) (ap _))) (av (cD (jZ cw (aa (ar vd (sy _ _ _ _) (ac 3)) ae)))
   (aG (aO _))) aT))))
   (av (bW (aR (ar ro_neA (ac 3) (aO _))) (cD (jZ cw (aa (ar vd (sy _ _ _ _) (ac 3)) ae))) aT)
   (aV (ac 2))))))⟩
theorem sX (M:Md P w K mg) (c10:n8 P w K mg base) (c11:ma P w K mg base):FX P w K mg base "_law_read" ub G9 6 fO:=fun hr=>⟨_,(af (bD (cu (pv 0)) (am (aP (ki c11 hr rfl (au (pv 1) ah)))) aQ)
   (am (aP (ki c10 hr rfl (au (pv 1) ah))))),
  (dP (sj (dg (ac 0)) (vv (aa (ac 1) ae)) (gB aT))
   (vv (aa (ac 1) ae)))⟩
theorem sY (Y:Xk K mg "Twice" "name" "StrandError" cC cS cf) (Y0:Xb K mg "BadText" "StrandError" cB cS cg) (Z:Zs K mg cC cB c_Lacks c_NoName) (M:Md P w K mg) (c25:og P w K mg base):kZ P w K mg base "_law_word" uc IA 7 nU:=fun hr=>⟨_,(af (aX 2 sc_sLword.nd (gH (au aF (au aF ah))))
   (af (Cp (Cs:=Z2 cC cB) 3 (IC Y.hx Y0.hx) rfl rfl (yS c25 hr rfl (au (pv 0) (au (pv 1) ah))) rfl Y.mS sc_sLword.nd (fun a=>(af (aX 2 sc_sLword.nd (gH (au aF (au aF ah))))
   (am (bD (PW.pt (kH (cu (cF ((px rfl Y.xc sv Y.xh).or (px rfl Y0.xc sv Y0.xh)) rfl M.n_isinstance L2.boot_isinstance (au (pv 3) (au (d9 rfl M.n_ValueError Cz) ah)))) (kH (gi (cu (cF ((bZ rfl Y.xc sv Y.xh).or (bZ rfl Y0.xc sv Y0.xh)) rfl M.n_isinstance L2.boot_isinstance (au (pv 3) (au (lb rfl Z.m_Lacks) ah))))) (jQ (gi (cu (cF ((bZ rfl Y.xc sv Y.xh).or (bZ rfl Y0.xc sv Y0.xh)) rfl M.n_isinstance L2.boot_isinstance (au (pv 3) (au (lb rfl Z.m_NoName) ah))))))))) (af (bD (PW.pt (kH (cu (cF ((bZ rfl Y.xc sv Y.xh).or (bZ rfl Y0.xc sv Y0.xh)) rfl M.n_isinstance L2.boot_isinstance (au (pv 3) (au (lb rfl Y.mC) ah)))) (jQ (gi (cu (cF ((bZ rfl Y.xc sv Y.xh).or (bZ rfl Y0.xc sv Y0.xh)) rfl M.n_isinstance L2.boot_isinstance (au (pv 3) (au (lb rfl Y0.mC) ah)))))))) (am (aX 2 sc_sLword.nd (gH (au aF (au (FU rfl Y.xc sv Y.xh Y.fn (pv 3)) ah))))) aQ)
   (am (bD (PW.pt (kH (cu (cF ((bZ rfl Y.xc sv Y.xh).or (bZ rfl Y0.xc sv Y0.xh)) rfl M.n_isinstance L2.boot_isinstance (au (pv 3) (au (lb rfl Y0.mC) ah)))) (jQ (gi (cu (cF ((bZ rfl Y.xc sv Y.xh).or (bZ rfl Y0.xc sv Y0.xh)) rfl M.n_isinstance L2.boot_isinstance (au (pv 3) (au (lb rfl Y.mC) ah)))))))) (am (aX 2 sc_sLword.nd (gH (au aF (au aF ah))))) aQ))) aQ)))))
   (am (aP (pv 2))))),
  (av (aG (gL (aa (aO _) (aa (aO _) ae))))
   (av (Cq (aa (ac 0) (aa (ac 1) ae)) (av (aG (gL (aa (aO _) (aa (aO _) ae))))
   (bW (iS (dg (F7 (Cy Y.aC Y0.aC Z.k_VE Z.j_VE) (ac 3))) (iS (dU (dg (lh (lj Y.aC Y0.aC Z.k_Lacks Z.j_Lacks) (ac 3)))) (dU (dg (lh (lj Y.aC Y0.aC Z.k_NoName Z.j_NoName) (ac 3)))))) (av (bW (iS (dg (lh (lj Y.aC Y0.aC Z.k_Twice Z.j_Twice) (ac 3))) (dU (dg (lh (lj Y.aC Y0.aC Z.k_BadText Z.j_BadText) (ac 3))))) (aG (gL (aa (aO _) (aa (FZ Y.aC (ac 3)) ae)))) aT)
   (bW (iS (dg (lh (lj Y.aC Y0.aC Z.k_BadText Z.j_BadText) (ac 3))) (dU (dg (lh (lj Y.aC Y0.aC Z.k_Twice Z.j_Twice) (ac 3))))) (aG (gL (aa (aO _) (aa (aO _) ae)))) aT)) aT)) (ID Y.aC Y0.aC))
   (aV (ac 2))))⟩
theorem GW (M:Md P w K mg) (c12:n9 P w K mg base) (c13:cc P w K mg base) (c16:md P w K mg base) (c19:oe P w K mg base) (c20:me P w K mg base) (c21:kG P w K mg base) (c22:jk P w K mg base) (c23:gh P w K mg base) (c24:jl P w K mg base) (c26:oh P w K mg base):kZ P w K mg base "law" Gk IB 8 D9:=fun hr=>⟨_,(af (aX 1 sc_slaw.nd (aI c12 hr rfl (au (pv 0) ah)))
   (af (aX 2 sc_slaw.nd (aI c19 hr rfl (au (pv 1) (au (aI c16 hr rfl (au (pv 1) (au (ce (eY (K:=K) rfl) ao (aI c13 hr rfl (au (pv 1) (au ao ah)))) ah))) ah))))
   (af (aX 3 sc_slaw.nd (aI c22 hr rfl (au (pv 1) (au (pv 2) ah))))
   (af (aX 4 sc_slaw.nd (gH (au aF (au (aI c23 hr rfl (au (pv 3) ah)) ah))))
   (af (gF Ar rfl (eE (K:=K) rfl (bq (au i6 (au i6 ah)))) (eO 5 sc_slaw.nd) (af (aX 6 sc_slaw.nd (ce (eY (K:=K) rfl) (ce (eY (K:=K) rfl) (bq (au aF ah)) (fq (fH (K:=K) rfl rfl) rfl M.n_list cZ (au (pv 3) ah))) (bq (au aF ah))))
   (af (aX 7 sc_slaw.nd (ce (eY (K:=K) rfl) (ce (eY (K:=K) rfl) (bq (au aF ah)) (fq (fH (K:=K) rfl rfl) rfl M.n_list cZ (au (pv 2) ah))) (bq (au aF ah))))
   (af (bD (gi (cu (pv 5))) (af (aX 6 sc_slaw.nd (aI c24 hr rfl (au (pv 1) (au (pv 3) ah))))
   (am (aX 7 sc_slaw.nd (aI c24 hr rfl (au (pv 1) (au (pv 2) ah)))))) aQ)
   (af (bD (gi (cu (aI c20 hr rfl (au (aI c26 hr rfl (au (pv 5) (au (aI c21 hr rfl (au (pv 1) (au (pv 6) ah))) ah))) (au (pv 4) ah))))) (am (aP i6)) aQ)
   (af (aX 8 sc_slaw.nd (bb K (@bq _ _ _ _ (@dS _ _ _ (by rfl))) (aI c13 hr rfl (au (pv 1) (au ao ah)))))
   (af (aX 9 sc_slaw.nd (bb K (@bq _ _ _ _ (@dS _ _ _ (by rfl))) (aI c13 hr rfl (au (pv 1) (au ao ah)))))
   (af (aX 10 sc_slaw.nd (Gg (FM (uQ (K:=K) rfl) (Cl (lQ (ce (eY (K:=K) rfl) (bq (au (pv 8) ah)) (pv 6)) (lQ (ce (eY (K:=K) rfl) (pv 6) (bq (au (pv 8) ah))) (lQ (ce (eY (K:=K) rfl) (ce (eY (K:=K) rfl) (gu (va (K:=K) rfl) (pv 6) my (fU (oH kL ao))) (bq (au (pv 9) ah))) (gu (va (K:=K) rfl) (pv 6) (fU (oH kL ao)) my)) ve rfl) rfl) rfl)) (aI c13 hr rfl (au (pv 1) (au ao ah))) (fun _ _=>rfl))))
   (af (bD (bi (yx (K:=K) rfl hr.units) (aI c26 hr rfl (au (pv 5) (au (aI c21 hr rfl (au (pv 1) (au (pv 10) ah))) ah))) (gH (au aF (au aF ah)))) (am (aP i6)) aQ)
   (am (bD (bi (yx (K:=K) rfl hr.units) (aI c26 hr rfl (au (pv 5) (au (aI c21 hr rfl (au (pv 1) (au (pv 7) ah))) ah))) (gH (au aF (au aF ah)))) (am (aP i6)) aQ)))))))))))
   (am (aP i6))))))),
  (av (aG (fZ (aa (ac 0) ae)))
   (av (aG (bJ (aa (bJ (aa (ar eZ (ap _) (bJ (aa (ap _) ae))) ae)) ae)))
   (av (aG (bJ (aa (ac 2) ae)))
   (av (aG (gL (aa (aO _) (aa (dj (aa (ac 3) ae)) ae))))
   (av (iu (eG (bm (aa (jb _) (aa (jb _) ae)))) (ci 5) (av (aG (ar eZ (ar eZ (bm (aa (aO _) ae)) (bv iC (aa (ac 3) ae))) (bm (aa (aO _) ae))))
   (av (aG (ar eZ (ar eZ (bm (aa (aO _) ae)) (bv iC (aa (ac 2) ae))) (bm (aa (aO _) ae))))
   (av (bW (dU (dg (ac 5))) (av (aG (bJ (aa (ac 3) ae)))
   (aG (bJ (aa (ac 2) ae)))) aT)
   (av (bW (dU (dg (dj (aa (fZ (aa (ac 5) (aa (bJ (aa (ac 6) ae)) ae))) (aa (ac 4) ae))))) (aV (jb _)) aT)
   (av (aG (ar bz (bm eV) (bJ (aa (ap _) ae))))
   (av (aG (ar bz (bm eV) (bJ (aa (ap _) ae))))
   (av (aG (ar bz (bm (aa (ar eZ (bm (aa (ac 8) ae)) (ac 6)) (aa (ar eZ (ac 6) (bm (aa (ac 8) ae))) (aa (ar eZ (ar eZ (gx rZ (ac 6) qh (d8 (oW kS (ap _)))) (bm (aa (ac 9) ae))) (gx rZ (ac 6) (d8 (oW kS (ap _))) qh)) ae)))) (bJ (aa (ap _) ae))))
   (av (bW (aR (ar yy (fZ (aa (ac 5) (aa (bJ (aa (ac 10) ae)) ae))) (gL (aa (aO _) (aa (aO _) ae))))) (aV (jb _)) aT)
   (bW (aR (ar yy (fZ (aa (ac 5) (aa (bJ (aa (ac 7) ae)) ae))) (gL (aa (aO _) (aa (aO _) ae))))) (aV (jb _)) aT))))))))))
   (aV (jb _)))))))⟩
theorem Dl {mc:Value} {k:Nat} (Y:Xk K mg "Twice" "name" "StrandError" cC cS cf) (sg:PySem.W.specialIn K (.ref cS) "__getattribute__"=some (some (.builtin "type.__getattribute__"))) (sr:PySem.W.readsIn K cS mc=true) (sf:PySem.W.findCls K (.ref cS) mc "__init__"=some (.val (.builtin "ValueError.__init__"))):JX P w K mg base "Twice.__init__" "name" cC cf pE Jd k :=
 fun _=>af (cy (vi (mc:=mc) rfl Y.xc rfl Y.mS sg sr sf (au (pv 0) (au (pv 1) ah)))) (am (Cn rfl Y.xc Y.fn (pv 0) (pv 1)))
theorem Dm {mc:Value} {k:Nat} (Y0:Xb K mg "BadText" "StrandError" cB cS cg) (sg:PySem.W.specialIn K (.ref cS) "__getattribute__"=some (some (.builtin "type.__getattribute__"))) (sr:PySem.W.readsIn K cS mc=true) (sf:PySem.W.findCls K (.ref cS) mc "__init__"=some (.val (.builtin "ValueError.__init__"))):∀{cdv:Value} {A:Around} {outer:List Env} {s:Shared} {H:Hp} {E:XK},Room k (A.deeper (PyProof.Rows.envOfC "BadText.__init__" (ak lY) s.heap.objs.size cg cdv))->PSs (bw mD P w K mg base ["self"] "BadText.__init__" (ak lY) cg cdv A outer s H E).nox (cz lY) (D4 cB) :=
 fun _=>am (cy (vi (mc:=mc) rfl Y0.xc rfl Y0.mS sg sr sf (au (pv 0) ah)))
end
set_option maxHeartbeats 0 in
theorem all_mk {l:PySem.W.OpenLaw} {w:World} {K:PySem.W.Frag} {h:Heap} {mg:Str->Option Value} {fa cC cB cS cf cg c_Lacks c_NoName:Addr} (X:K.In h) (G:h.Ns mainGlobals mg) (hfa:mg "law"=some (.ref fa))
  (h1:FH K "is_name" mK) (h2:FH K "is_turned" lB) (h3:FH K "name_of" qF) (h4:FH K "is_bead" qG) (h5:FH K "beads_in" nV) (h6:FH K "words_of" ky) (h7:FH K "beads_of" kz) (h8:FH K "read_strand" iL) (h9:FH K "strand_words" gZ) (h10:FH K "refuse_twice" g7) (h11:FH K "read_set" kA) (h12:FH K "read_line" lC) (h13:FH K "_law_flow" t8) (h14:FH K "_law_pick" t9) (h15:FH K "_law_letters" i3) (h16:FH K "_law_name" ua) (h17:FH K "_law_names" qH) (h18:FH K "_law_shuffled" jG) (h19:FH K "_law_mirrored" jH) (h20:FH K "_law_line" qI) (h21:FH K "_law_alike" mL) (h22:FH K "_law_spaced" nW) (h23:FH K "_law_doubled" lD) (h24:FH K "_law_first_twice" g8) (h25:FH K "_law_strands" lE) (h26:FH K "_law_read" ub) (h27:FH K "_law_word" uc) (h28:FH K "law" Gk) {ct_LETTERS:Tok} (cv_LETTERS:PySem.W.nsIn K mainGlobals "LETTERS"=some (some (.str "abcdefghijklmnopqrstuvwxyz" ct_LETTERS))) {ct_LONGEST_NAME:Tok} (cv_LONGEST_NAME:PySem.W.nsIn K mainGlobals "LONGEST_NAME"=some (some (.int 6 ct_LONGEST_NAME))) {cA_KIND_OF:Addr} (ca_KIND_OF:PySem.W.nsIn K mainGlobals "KIND_OF"=some (some (.ref cA_KIND_OF))) (cg_KIND_OF:GD l.prog w K cA_KIND_OF [("[","open"),("(","ring")]) {cA_CLOSE_OF:Addr} (ca_CLOSE_OF:PySem.W.nsIn K mainGlobals "CLOSE_OF"=some (some (.ref cA_CLOSE_OF))) (cg_CLOSE_OF:GD l.prog w K cA_CLOSE_OF [("[","]"),("(",")")])
  {oc0 oc1:Value} {od0 an0 od1 an1:Option Addr} {kV0 dc0 pm0 cd0 ct0 mc0 kV1 dc1 pm1 cd1 ct1:Value} {sl0 sl1:Array (Option Value)}
  (aC:PySem.W.nsIn K mainGlobals "Twice"=some (some (.ref cC))) (aB:PySem.W.nsIn K mainGlobals "BadText"=some (some (.ref cB))) (aS:PySem.W.nsIn K mainGlobals "StrandError"=some (some (.ref cS))) (e_Lacks:PySem.W.nsIn K mainGlobals "Lacks"=some (some (.ref c_Lacks))) (e_NoName:PySem.W.nsIn K mainGlobals "NoName"=some (some (.ref c_NoName))) (p_Twice:PySem.W.kitOne K (.ref cC) (.ref cC)=some true) (r_Twice:PySem.W.kitOne K (.ref cB) (.ref cC)=some false) (p_BadText:PySem.W.kitOne K (.ref cC) (.ref cB)=some false) (r_BadText:PySem.W.kitOne K (.ref cB) (.ref cB)=some true) (p_Lacks:PySem.W.kitOne K (.ref cC) (.ref c_Lacks)=some false) (r_Lacks:PySem.W.kitOne K (.ref cB) (.ref c_Lacks)=some false) (p_NoName:PySem.W.kitOne K (.ref cC) (.ref c_NoName)=some false) (r_NoName:PySem.W.kitOne K (.ref cB) (.ref c_NoName)=some false) (p_VE:PySem.W.kitOne K (.ref cC) (.type "ValueError")=some true) (r_VE:PySem.W.kitOne K (.ref cB) (.type "ValueError")=some true)
  (xc:XC K cC cS cf xN "ValueError.__init__" "object.__setattr__" "object" "ValueError" mVE)
  (ga:PySem.W.findIn K (.ref cC) "__getattribute__"=some (some (.builtin "BaseException.__getattribute__"))) (gt:PySem.W.findIn K (.ref cC) "__getattr__"=some none) (hd:PySem.W.hasDictIn K cC=true) (ca:PySem.W.findIn K (.ref cC) "__class__"=some (some (.builtin "object.__class__"))) (cm:PySem.W.mroIn K cC (.type "object")=some true) (hx:PySem.W.exmOne K (.ref cC) (.ref cS)=some true)
  (xc9:XC K cB cS cg xN "ValueError.__init__" "object.__setattr__" "object" "ValueError" mVE)
  (ga9:PySem.W.findIn K (.ref cB) "__getattribute__"=some (some (.builtin "BaseException.__getattribute__"))) (gt9:PySem.W.findIn K (.ref cB) "__getattr__"=some none) (hd9:PySem.W.hasDictIn K cB=true) (ca9:PySem.W.findIn K (.ref cB) "__class__"=some (some (.builtin "object.__class__"))) (cm9:PySem.W.mroIn K cB (.type "object")=some true) (hx9:PySem.W.exmOne K (.ref cB) (.ref cS)=some true)
  (cn:PySem.W.specialIn K (.builtin "object.__class__") "__get__"=some (some (.builtin "getset_descriptor.__get__"))) (ck:PySem.W.takesIn K (.builtin "object.__class__")=some true) (fn:PySem.W.findIn K (.ref cC) "name"=some none)
  (sg:PySem.W.specialIn K (.ref cS) "__getattribute__"=some (some (.builtin "type.__getattribute__"))) (sr:PySem.W.readsIn K cS mc0=true) (sf:PySem.W.findCls K (.ref cS) mc0 "__init__"=some (.val (.builtin "ValueError.__init__")))
  (l0:K.lookup cf=some ⟨oc0,od0,.func (PySem.W.fnOf "__init__" "Twice.__init__" (fV pE) (cz pE) (ak pE) .none kV0 dc0 pm0 an0 cd0 ct0),sl0⟩) (c0':PySem.W.codeIn K cd0 "Twice.__init__"=true) (k0:PySem.W.keepIn K (.ref cf)=true)
  (l1:K.lookup cg=some ⟨oc1,od1,.func (PySem.W.fnOf "__init__" "BadText.__init__" (fV lY) (cz lY) (ak lY) .none kV1 dc1 pm1 an1 cd1 ct1),sl1⟩) (c1':PySem.W.codeIn K cd1 "BadText.__init__"=true) (k1:PySem.W.keepIn K (.ref cg)=true)
  (z_ValueError:PySem.W.nsIn K mainGlobals "ValueError"=some none) (z_all:PySem.W.nsIn K mainGlobals "all"=some none) (z_bool:PySem.W.nsIn K mainGlobals "bool"=some none) (z_int:PySem.W.nsIn K mainGlobals "int"=some none) (z_isinstance:PySem.W.nsIn K mainGlobals "isinstance"=some none) (z_len:PySem.W.nsIn K mainGlobals "len"=some none) (z_list:PySem.W.nsIn K mainGlobals "list"=some none) (z_range:PySem.W.nsIn K mainGlobals "range"=some none) (z_str:PySem.W.nsIn K mainGlobals "str"=some none) (z_tuple:PySem.W.nsIn K mainGlobals "tuple"=some none) :
  ∃fd:FuncData,(∀(s:Shared) (v:Value),BindsTo s fd ⟨[v],[]⟩ [("_law_script",v)])/\∀base:Heap,K.In base->base.Ns mainGlobals mg->FnOk l.prog w K mg base mD 9 fa fd G7 (u6 K):=by
 have M:Md l.prog w K mg:=⟨PySem.W.mg_none_of X G z_ValueError,PySem.W.mg_none_of X G z_all,PySem.W.mg_none_of X G z_bool,PySem.W.mg_none_of X G z_int,PySem.W.mg_none_of X G z_isinstance,PySem.W.mg_none_of X G z_len,PySem.W.mg_none_of X G z_list,PySem.W.mg_none_of X G z_range,PySem.W.mg_none_of X G z_str,PySem.W.mg_none_of X G z_tuple,⟨_,PySem.W.mg_of X G cv_LETTERS⟩,⟨_,PySem.W.mg_of X G cv_LONGEST_NAME⟩,⟨_,PySem.W.mg_of X G ca_KIND_OF,cg_KIND_OF⟩,⟨_,PySem.W.mg_of X G ca_CLOSE_OF,cg_CLOSE_OF⟩⟩;refine h28.law X G hfa sc_slaw (fun _ _ _ _ _ _=>r9 fun _=>rfl) Dk fun base=>?_;have Y:Xk K mg "Twice" "name" "StrandError" cC cS cf:=Id X G xc aC aS ga gt hd ca cn ck cm fn hx;have Y0:Xb K mg "BadText" "StrandError" cB cS cg:=Ih X G xc9 aB aS ga9 gt9 hd9 ca9 cn ck cm9 hx9;have Z:Zs K mg cC cB c_Lacks c_NoName:=⟨PySem.W.mg_of X G e_Lacks,PySem.W.mg_of X G e_NoName,p_Twice,r_Twice,p_BadText,r_BadText,p_Lacks,r_Lacks,p_NoName,r_NoName,p_VE,r_VE⟩;have F0:Fun K "__init__" "Twice.__init__" pE cf _:=⟨⟨_,_,_,_,_,_,_,_,_,rfl,l0,c0'⟩,k0⟩;have F1:Fun K "__init__" "BadText.__init__" lY cg _:=⟨⟨_,_,_,_,_,_,_,_,_,rfl,l1,c1'⟩,k1⟩;have I:CalJ l.prog w K mg base cC cf "name" 1:=⟨_,_,yU F0 CS rfl (Dl Y sg sr sf),F0.binds (ps:=Jd) (fun _ _ _ _ _ _=>vg fun _ _=>rfl)⟩;have I0:CalJ0 l.prog w K mg base cB cg 1:=⟨_,_,yZ F1 CT rfl (Dm Y0 sg sr sf),F1.binds (ps:=["self"]) (fun _ _ _ _ _ _=>r9 fun _=>rfl)⟩;have c0:pM l.prog w K mg base:=h1.cal X G ud (fun _ _ _ _ _ _=>r9 fun _=>rfl) (ut M);have c1:lZ l.prog w K mg base:=h2.cal X G qJ (fun _ _ _ _ _ _=>r9 fun _=>rfl) (rb M);have c2:lJ l.prog w K mg base:=h3.cal X G ue (fun _ _ _ _ _ _=>r9 fun _=>rfl) (uu M c1);have c3:pN l.prog w K mg base:=h4.cal X G uf (fun _ _ _ _ _ _=>r9 fun _=>rfl) (uv M c0 c2);have c4:n6 l.prog w K mg base:=h5.cal X G sc_sbeadsin (fun _ _ _ _ _ _=>r9 fun _=>rfl) (sP M);have c5:jN l.prog w K mg base:=h6.cal X G sc_swordsof (fun _ _ _ _ _ _=>vg fun _ _=>rfl) (sQ M);have c6:jO l.prog w K mg base:=pq h7 X G sH (fun _ _ _ _ _ _=>r9 fun _=>rfl) (sR Y0 I0 M c3);have c7:jj l.prog w K mg base:=pq h8 X G sc_sreadstrand (fun _ _ _ _ _ _=>r9 fun _=>rfl) (oi Y0 I0 M c6);have c8:iM l.prog w K mg base:=h9.cal X G sc_sstrandwords (fun _ _ _ _ _ _=>r9 fun _=>rfl) (mq M);have c9:fQ l.prog w K mg base:=pq h10 X G sc_srefusetwice (fun _ _ _ _ _ _=>r9 fun _=>rfl) (mt Y I M c2 c4);have c10:n8 l.prog w K mg base:=pq h11 X G sc_sreadset (fun _ _ _ _ _ _=>r9 fun _=>rfl) (sS M c5 c7 c8 c9);have c11:ma l.prog w K mg base:=pq h12 X G sc_sreadline (fun _ _ _ _ _ _=>r9 fun _=>rfl) (rd Y0 I0 M c5 c6 c9);have c12:n9 l.prog w K mg base:=h13.cal X G wT (fun _ _ _ _ _ _=>r9 fun _=>rfl) (sT M)
 have c13:cc l.prog w K mg base:=h14.calI X G sc_sLpick (fun _ _ _ _ _ _=>vg fun _ _=>rfl) (sU M);have c14:gp l.prog w K mg base:=h15.calI X G qK (fun _ _ _ _ _ _=>vg fun _ _=>rfl) (oj M c13);have c15:oa l.prog w K mg base:=h16.calI X G sc_sLname (fun _ _ _ _ _ _=>vg fun _ _=>rfl) (sV M c13 c14);have c16:md l.prog w K mg base:=h17.calI X G sc_sLnames (fun _ _ _ _ _ _=>vg fun _ _=>rfl) (re M c13 c14 c15);have c17:iN l.prog w K mg base:=h18.calI X G sc_sLshuffled (fun _ _ _ _ _ _=>vg fun _ _=>rfl) (mv M c13);have c18:iO l.prog w K mg base:=h19.cal X G oC (fun _ _ _ _ _ _=>r9 fun _=>rfl) (mw M);have c19:oe l.prog w K mg base:=h20.calI X G wU (fun _ _ _ _ _ _=>vg fun _ _=>rfl) (sW M c13 c17);have c20:me l.prog w K mg base:=h21.alike X G ug (fun _ _ _ _ _ _=>vg fun _ _=>rfl) 20 (fun n u h=>wZ h) (fun n gs hn=>rg M) 4 (by decide)
 have c21:kG l.prog w K mg base:=h22.calI X G sc_sLspaced (fun _ _ _ _ _ _=>vg fun _ _=>rfl) (oD M c13);have c22:jk l.prog w K mg base:=h23.calI X G sc_sLdoubled (fun _ _ _ _ _ _=>vg fun _ _=>rfl) (ol M c13 c18);have c23:gh l.prog w K mg base:=h24.cal X G sc_sLfirsttwice (fun _ _ _ _ _ _=>r9 fun _=>rfl) (jP M);have c24:jl l.prog w K mg base:=h25.calI X G sc_sLstrands (fun _ _ _ _ _ _=>vg fun _ _=>rfl) (om M c13);have c25:og l.prog w K mg base:=pq h26 X G wV (fun _ _ _ _ _ _=>vg fun _ _=>rfl) (sX M c10 c11);have c26:oh l.prog w K mg base:=h27.cal X G sc_sLword (fun _ _ _ _ _ _=>vg fun _ _=>rfl) (sY Y Y0 Z M c25);intro _ _ _ _ _ _ _;exact GW M c12 c13 c16 c19 c20 c21 c22 c23 c24 c26
end K06
open PySem PySem.W PyProof.Rows
set_option maxRecDepth 100000 in
set_option maxHeartbeats 0 in
theorem PySem.Challenge.cw_strandwright_k06_a_name_twice_holds : PySem.Challenge.rw_strandwright_k06_a_name_twice.Holds := by
 w_on;o_law;z_head;(case hw=>w_witness2)
 k_fill
 refine VF.walkZ (l:=PySem.Challenge.rw_strandwright_k06_a_name_twice) (k:=9) rfl rfl ⟨rfl,by decide,by decide⟩ (by decide) ?K ?F
 case K=>intro _;rfl
 case F =>
  intro w mg fa h KX G hmg;refine' K06.all_mk (mc0:=.type "type") KX G hmg (VF.fh ?a1 ?l1 ?c1 ?k1) (VF.fh ?a2 ?l2 ?c2 ?k2) (VF.fh ?a3 ?l3 ?c3 ?k3) (VF.fh ?a4 ?l4 ?c4 ?k4) (VF.fh ?a5 ?l5 ?c5 ?k5) (VF.fh ?a6 ?l6 ?c6 ?k6) (VF.fh ?a7 ?l7 ?c7 ?k7) (VF.fh ?a8 ?l8 ?c8 ?k8) (VF.fh ?a9 ?l9 ?c9 ?k9) (VF.fh ?a10 ?l10 ?c10 ?k10) (VF.fh ?a11 ?l11 ?c11 ?k11) (VF.fh ?a12 ?l12 ?c12 ?k12) (VF.fh ?a13 ?l13 ?c13 ?k13) (VF.fh ?a14 ?l14 ?c14 ?k14) (VF.fh ?a15 ?l15 ?c15 ?k15) (VF.fh ?a16 ?l16 ?c16 ?k16) (VF.fh ?a17 ?l17 ?c17 ?k17) (VF.fh ?a18 ?l18 ?c18 ?k18) (VF.fh ?a19 ?l19 ?c19 ?k19) (VF.fh ?a20 ?l20 ?c20 ?k20) (VF.fh ?a21 ?l21 ?c21 ?k21) (VF.fh ?a22 ?l22 ?c22 ?k22) (VF.fh ?a23 ?l23 ?c23 ?k23) (VF.fh ?a24 ?l24 ?c24 ?k24) (VF.fh ?a25 ?l25 ?c25 ?k25) (VF.fh ?a26 ?l26 ?c26 ?k26) (VF.fh ?a27 ?l27 ?c27 ?k27) (VF.fh ?a28 ?l28 ?c28 ?k28) ?cv_LETTERS ?cv_LONGEST_NAME ?ca_KIND_OF (VF22.gd_mk2 ?cb_KIND_OF ?cc_KIND_OF ?cd_KIND_OF) ?ca_CLOSE_OF (VF22.gd_mk2 ?cb_CLOSE_OF ?cc_CLOSE_OF ?cd_CLOSE_OF) ?aC ?aB ?aS ?e_Lacks ?e_NoName ?p_Twice ?r_Twice ?p_BadText ?r_BadText ?p_Lacks ?r_Lacks ?p_NoName ?r_NoName ?p_VE ?r_VE (VX.xc_mk ?xl (VX.nsOk_of ?xn ?xt) ?xi ?xl2 (VX.nsOk_of ?xn2 ?xt2) ?xi2 ?xst ?xlf ?xfc ?xkp) ?ga ?gt ?hd ?ca ?cm ?hx (VX.xc_mk ?xl9 (VX.nsOk_of ?xn9 ?xt9) ?xi9 ?xl29 (VX.nsOk_of ?xn29 ?xt29) ?xi29 ?xst9 ?xlf9 ?xfc9 ?xkp9) ?ga9 ?gt9 ?hd9 ?ca9 ?cm9 ?hx9 ?cn ?ck ?fn ?sg ?sr ?sf ?ul0 ?uc0 ?uk0 ?ul1 ?uc1 ?uk1 ?z_ValueError ?z_all ?z_bool ?z_int ?z_isinstance ?z_len ?z_list ?z_range ?z_str ?z_tuple
  (case aC=>k_is)
  (case aB=>k_is)
  (case aS=>k_is)
  (case e_Lacks=>k_is)
  (case e_NoName=>k_is)
  (case xl=>k_is)
  (case xn=>k_is)
  (case xt=>exact rfl)
  (case xi=>k_is)
  (case xlf=>k_is)
  (case xfc=>rfl)
  (case xl2=>k_is)
  (case xn2=>k_is)
  (case xt2=>exact rfl)
  (case hx=>kts_exm)
  (case xl9=>k_is)
  (case xn9=>k_is)
  (case xt9=>exact rfl)
  (case xi9=>k_is)
  (case xlf9=>k_is)
  (case xfc9=>rfl)
  (case xl29=>k_is)
  (case xn29=>k_is)
  (case xt29=>exact rfl)
  (case hx9=>kts_exm)
  (case p_Twice=>kit_is)
  (case p_BadText=>kit_is)
  (case p_Lacks=>kit_is)
  (case p_NoName=>kit_is)
  (case p_VE=>kit_is)
  (case r_Twice=>kit_is)
  (case r_BadText=>kit_is)
  (case r_Lacks=>kit_is)
  (case r_NoName=>kit_is)
  (case r_VE=>kit_is)
  all_goals try k_is
  all_goals decide

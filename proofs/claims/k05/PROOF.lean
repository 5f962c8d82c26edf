import PyProof.Rows.All
import Wide.All
import OpenK.AllK
import Wide.FinOn
import Lean
import PyProof.EqAt
import PyProof.EqKinds
import PyProof.TupleCall
import KE.KRevIter
import KE.KUnpack
import KE.KIntText
import PyProof.ExcInit
import PyProof.ExcClass2
import PyProof.ExcBaseAll.ValueError
import PyProof.InstStore
import PyProof.NsDelKeeps
import PyProof.ExcAttrAll.ValueError
import PyProof.InstStoreFacts
import KE.KTryMore
import PyProof.SeqI3
import PyProof.StrLawsReplace
import PySem.Challenge.RW_strandwright_k05_what_writes_none
set_option maxHeartbeats 20000000
set_option Elab.async false
set_option linter.all false
set_option maxRecDepth 100000
set_option genSizeOfSpec false
namespace PySem.W.Fast
def tw5729799384856198476:=0
def tw843332748335158168:=0
def tw2396368295778116575:=0
def tw15418172938733935190:=0
def tw5582162039136985589:=0
def tw6513099441316622886:=0
def tw11190037202981479161:=0
def tw2082365590402010453:=0
def tw7194031498375645052:=0
def tw8247073492868664060:=0
def tw5788036920273591760:=0
def tw9420638951687977201:=0
def tw14098153438452812575:=0
def tw9255029973318248475:=0
def tw2013807321499736310:=0
def tw15478297405413808135:=0
def tw13232787014014983905:=0
def tw7745620801023164794:=0
def tw10042483916351062807:=0
def tw17292043570796183487:=0
def tw16205067981061712661:=0
def tw8903259297634256099:=0
def tw11373154391111472881:=0
def tw13821376299183620560:=0
def tw5978452173079031078:=0
def tw6532484403531068616:=0
def tw14630056802393076903:=0
def tw16577235002903262454:=0
def tw5255388456882581353:=0
def tw955456300351663960:=0
def tw1641448730922388766:=0
def tw1661793124906566143:=0
def tw8915021008975789108:=0
def tw5909481057196930691:=0
def tw5438838787924995585:=0
def tw16739292695792552493:=0
def tw13566525754786361466:=0
def tw3395718785119095107:=0
end PySem.W.Fast
abbrev Aa:=@PySem.wpAny_bind
abbrev Ac:=@PySem.Heap.get?_push_of_some
abbrev Ad:=@PySem.Heap.lt_size
abbrev Ae:=@decide_eq_true
abbrev Af:=@if_pos
abbrev Ag:=@decide_eq_false
abbrev Ah:=@if_neg
abbrev Ai:=@PySem.wpAny_pure
abbrev Aj:=@PySem.Heap.get?_update_other
abbrev Ak:=@PySem.Heap.get?_push_size
abbrev Al:=@PySem.wpAny_mono
abbrev Am:=@Ne.symm
abbrev An:=@of_decide_eq_true
abbrev Ao:=@PySem.Str.length_append
abbrev Ap:=@PySem.wpAny_passesOwn
abbrev Aq:=@PySem.PassesOwn.never
abbrev Ar:=@PySem.Heap.get?_update_self
abbrev As:=@PySem.wpAny_field
abbrev At:=@PySem.wpAny_loadPart_at
abbrev Au:=@PySem.wpAny_Call_Name_kw
abbrev Av:=@PySem.Str.cps_append
abbrev Aw:=@PySem.wpAny_execs_nil
abbrev Ax:=@PySem.wpAny_truthy_bool
abbrev Ay:=@PySem.wpAny_newObj_type
abbrev Az:=@PyProof.Rows.slot_tuple_getitem
abbrev AA:=@PySem.codeAny_mono
abbrev AB:=@PySem.call_meets
abbrev AC:=@PySem.Calls.spliced_cons
abbrev AD:=@PySem.Calls.Constant_str
abbrev AE:=@PySem.wpAny_getItem_str_slice
abbrev AF:=@PySem.Calls.callWith_builtin
abbrev AG:=@PySem.Obj.isFreed_of_fields
abbrev AH:=@List.take_append_drop
abbrev AI:=@List.length_filter_le
abbrev AJ:=@PySem.typeIs_str
abbrev AK:=@decide_eq_decide
abbrev AL:=@Nat.lt_succ_self
abbrev AM:=@List.getElem_mem
abbrev AN:=@PySem.Heap.size_update
abbrev AO:=@PySem.wpAny_standAt
abbrev AQ:=@or_false
abbrev AR:=@List.mem_of_mem_take
abbrev AT:=@List.getElem?_set_ne
abbrev AU:=@PySem.Calls.evalArgs_plain
abbrev AV:=@List.length_nil
abbrev AW:=@Int.emod_nonneg
abbrev AX:=@PySem.wpAny_isSubtype_exc
abbrev AY:=@Nat.zero_add
abbrev AZ:=@PySem.wpAny_setField
abbrev A0:=@PySem.Obj.data_mapFields
abbrev A1:=@Nat.lt_of_le_of_lt
abbrev A2:=@PySem.Heap.size_push
abbrev A3:=@List.getElem?_append_left
abbrev A4:=@Classical.byContradiction
abbrev A5:=@Option.isSome_map
abbrev A6:=@PySem.wpAny_holding
abbrev A7:=@List.map_drop
abbrev A8:=@List.all_cons
abbrev A9:=@PySem.wpAny_execs_cons
abbrev Ba:=@Nat.le_add_right
abbrev Bb:=@List.lookup_cons
abbrev Bc:=@List.length_tail
abbrev Bd:=@PySem.wpAny_Name
abbrev Be:=@PySem.wpAny_Call_method_late
abbrev Bf:=@PySem.Txt.slice_le
abbrev Bg:=@List.drop_eq_nil_of_le
abbrev Bh:=@Bool.or_true
abbrev Bi:=@PySem.post_val_or_str
abbrev Bj:=@Nat.min_eq_left
abbrev Bk:=@List.mem_append_right
abbrev Bl:=@PySem.sizeLine_eq
abbrev Bm:=@Nat.le_succ
abbrev Bo:=@List.tail_cons
abbrev Bp:=@List.length_dropLast
abbrev Bq:=@List.dropLast_concat
abbrev Br:=@PySem.Heap.get?_none_of_le
abbrev Bs:=@ne_true_of_eq_false
abbrev Bt:=@List.filterMap_cons
abbrev Bv:=@List.map_take
abbrev Bw:=@PySem.SeqAt.EqAt.str_int
abbrev Bx:=@PySem.SeqAt.EqAt.int_str
abbrev By:=@Nat.lt_of_lt_of_le
abbrev Bz:=@List.append_of_mem
abbrev BB:=@Int.natCast_nonneg
abbrev BC:=@Int.emod_lt_of_pos
abbrev BD:=@PySem.wpAny_pyIter_list
abbrev BE:=@PySem.wpAny_assign_Name
abbrev BF:=@PySem.arm_evalEach_cons
abbrev BG:=@Nat.sub_self
abbrev BH:=@List.map_id'
abbrev BI:=@List.getElem?_map
abbrev BJ:=@List.ext_getElem?
abbrev BK:=@List.any_map
abbrev BL:=@PySem.Calls.spliced_nil
abbrev BM:=@PySem.noFill_tuple_add
abbrev BN:=@List.filter_cons
abbrev BO:=@List.of_mem_zip
abbrev BP:=@PyProof.Rows.callWith_type1
abbrev BQ:=@PySem.SeqAt.RcNeAt.lists_lengths
abbrev BR:=@List.getElem?_append_right
abbrev BS:=@PySem.Calls.Name_function_global
abbrev BT:=@List.eq_of_mem_replicate
abbrev BU:=@Bool.and_true
abbrev BV:=@List.getElem?_replicate
abbrev BW:=@Nat.lt_of_succ_lt_succ
abbrev BX:=@Nat.le_of_lt
abbrev BY:=@List.getElem?_set_self
abbrev BZ:=@List.getElem?_eq_none
abbrev Za:=@List.mem_singleton
abbrev Ya:=@Option.bind_some
abbrev Xa:=@List.length_map
abbrev Wa:=@List.length_append
abbrev Va:=@List.mem_cons_self
abbrev Qa:=@List.getElem?_eq_getElem
abbrev Yb:=@List.mem_cons_of_mem
abbrev Wb:=@Nat.le_refl
abbrev Vb:=@By
abbrev Qb:=@List.size_toArray
abbrev Zc:=@List.mem_append
abbrev Yc:=@Nat.le_trans
abbrev Xc:=@Bk
abbrev Wc:=@List.append_nil
abbrev Vc:=@List.mem_cons
abbrev Qc:=@List.mem_map
abbrev Zd:=@List.mem_append_left
abbrev Yd:=@Bool.false_ne_true
abbrev Xd:=@List.getElem?_eq_some_iff
abbrev Wd:=@List.append_assoc
abbrev Vd:=@List.length_cons
abbrev Qd:=@List.map_append
abbrev Ze:=@List.map_cons
abbrev Ye:=@List.getD_eq_getElem?_getD
abbrev Xe:=@Bool.false_eq_true
abbrev We:=@List.flatMap_cons
abbrev Ve:=@Nat.lt_irrefl
abbrev Qe:=@Bool.and_eq_true
abbrev Zf:=@Array.getElem?_eq_some_iff
abbrev Yf:=@List.getElem?_drop
abbrev Xf:=@List.length_drop
abbrev Wf:=@BR
abbrev Vf:=@Nat.ne_of_lt
abbrev Qf:=@List.all_eq_true
abbrev Zg:=@BI
abbrev Yg:=@List.mem_of_getElem?
abbrev Xg:=@List.mem_filter
abbrev Wg:=@Nat.succ_pos
abbrev Vg:=@Bool.eq_iff_iff
abbrev Qg:=@List.length_take
abbrev Zh:=@Option.map_eq_some_iff
abbrev Yh:=@List.drop_eq_getElem_cons
abbrev Xh:=@List.getLast?_eq_some_getLast
abbrev Wh:=@Array.length_toList
abbrev Vh:=@Array.toList_append
abbrev Qh:=@List.nil_append
abbrev Zi:=@List.not_mem_nil
abbrev Yi:=@List.exists_cons_of_ne_nil
abbrev Xi:=@List.flatMap_append
abbrev Wi:=@List.find?_cons
abbrev Vi:=@List.length_replicate
abbrev Qi:=@List.cons_append
abbrev Zj:=@List.nodup_cons
abbrev Yj:=@List.mem_range
abbrev Xj:=@List.length_singleton
abbrev Wj:=@A3
abbrev Vj:=@List.map_map
abbrev Qj:=@List.getLast?_append
abbrev Zk:=@List.mem_of_mem_drop
abbrev Yk:=@List.eq_nil_of_length_eq_zero
abbrev Xk:=@BV
abbrev Vk:=@List.map_congr_left
abbrev Qk:=@Nat.zero_le
abbrev Zl:=@List.getLast?_cons
abbrev Yl:=@AT
abbrev Xl:=@List.getElem?_of_mem
abbrev Wl:=@Nat.ne_of_gt
abbrev Vl:=@Nat.not_lt_of_le
abbrev Ql:=@List.length_pos_iff
abbrev Zm:=@Int.eq_ofNat_of_zero_le
abbrev Ym:=@List.any_cons
abbrev Xm:=@List.contains_cons
abbrev Wm:=@BY
abbrev Vm:=@List.take_of_length_le
abbrev Qm:=@Nat.le_succ_of_le
abbrev Zn:=@List.getElem?_set
abbrev Yn:=@List.length_range
abbrev Xn:=@List.count_append
abbrev Wn:=@List.lookup_cons_self
abbrev Vn:=@List.dropLast_concat_getLast
namespace PySem
theorem Runs.toks {M:Model} {Γ:Ctx} {p:Pos} {t:Sem Fin} {fs:List Frame} {s s':Shared} {e:End} (h:Runs M Γ p t fs s e s'):s.toks<=s'.toks:=by
 induction h with
 | done=>exact Wb _
 | raise=>exact Wb _
 | yield=>exact Wb _
 | fresh _ ih=>exact Nat.le_of_succ_le ih
 | call _ _ ih1 ih2=>exact Yc ih1 ih2
 | resumeFresh _ _ _ _ ih1 ih2=>exact Yc ih1 ih2
 | resumeSuspended _ _ _ _ ih1 ih2=>exact Yc ih1 ih2
 | segRet _ _ ih1 ih2=>exact Yc ih1 ih2
 | segGen _ _ ih1 ih2=>exact Yc ih1 ih2
 | segSuspGen _ _ _ _ ih1 ih2=>exact Yc ih1 ih2
 | _=>assumption
theorem Wakes.toks {M:Model} {Γ:Ctx} {p:Pos} {g:Nat} {r:Resume} {s s':Shared} {res:GenResult} (h:Wakes M Γ p g r s res s'):s.toks<=s'.toks:=by
 unfold Wakes at h;split at h
 ·exact h.elim
 ·split at h
  ·obtain⟨e,s1,h1,_,_,rfl⟩:=h;exact h1.toks
  ·rw[h.2];exact Wb _
  ·rw[h.2];exact Wb _
 ·obtain⟨e,s1,h1,_,_,rfl⟩:=h;exact h1.toks
 ·rw[h.2];exact Wb _
 ·rw[h.2];exact Wb _
open Sem in
theorem Jz {α:Type} {M:Model} {Γ:Ctx} {Q:α->Pos->Shared->Prop} {E:Value->Pos->Shared->Prop} {n:Nat} (t:Sem α):∀{p:Pos} {s:Shared},n<=s.toks->wp M Γ t (fun a p' s'=>n<=s'.toks->Q a p' s') (fun e p' s'=>n<=s'.toks->E e p' s') p s->wp M Γ t Q E p s:=by
 induction t with
 | pure a=>intro p s hs h;rw[wp]at h ⊢;exact h hs
 | raise e=>intro p s hs h;rw[wp]at h ⊢;exact h hs
 | unsupported w=>intro p s hs h;rw[wp]at h;exact h.elim
 | finish e=>intro p s hs h;rw[wp]at h;exact h.elim
 | rule tag k ih=>intro p s hs h;rw[wp]at h ⊢;exact ih _ hs h
 | «at» pos k ih=>intro p s hs h;rw[wp]at h ⊢;exact ih _ hs h
 | load a part k ih=>intro p s hs h;rw[wp]at h ⊢;obtain⟨o,e,h⟩:=h;exact⟨o,e,ih _ hs h⟩
 | update a part f k ih=>intro p s hs h;rw[wp]at h ⊢;exact⟨h.1,ih _ hs h.2⟩
 | alloc o k ih=>intro p s hs h;rw[wp]at h ⊢;exact ih _ hs h
 | loadIfAlive a k ih=>intro p s hs h;rw[wp]at h ⊢;exact ih _ hs h
 | point l k ih=>intro p s hs h;rw[wp]at h ⊢;exact ih _ hs h
 | register a k ih=>intro p s hs h;rw[wp]at h;exact h.elim
 | fresh k ih=>intro p s hs h;rw[wp]at h ⊢;exact ih _ (Qm hs) h
 | ask k ih=>intro p s hs h;rw[wp]at h ⊢;exact ih _ hs h
 | choose src n k ih=>intro p s hs h;rw[wp]at h ⊢;exact⟨h.1,ih _ hs h.2⟩
 | os q l k ih=>intro p s hs h;rw[wp]at h ⊢;exact ih _ hs h
 | call c hd g l k ih=>intro p s hs h;rw[wp]at h ⊢;obtain⟨r,s',h1,h2⟩:=h;exact⟨r,s',h1,ih _ (Yc hs h1.toks) h2⟩
 | handled own k ih=>intro p s hs h;rw[wp]at h ⊢;exact ih _ hs h
 | newGen c k ih=>intro p s hs h;rw[wp]at h ⊢;exact ih _ hs h
 | genState g k ih=>intro p s hs h;rw[wp]at h ⊢;obtain⟨st,e,h⟩:=h;exact⟨st,e,ih _ hs h⟩
 | resume g r l k ih=>intro p s hs h;rw[wp]at h ⊢;obtain⟨res,s',h1,h2⟩:=h;exact⟨res,s',h1,ih _ (Yc hs h1.toks) h2⟩
 | yield v g l k ih=>intro p s hs h;rw[wp]at h;exact h.elim
 | stack k ih=>intro p s hs h;rw[wp]at h ⊢;exact ih _ hs h
 | fork c k ih=>intro p s hs h;rw[wp]at h;exact h.elim
 | thread k ih=>intro p s hs h;rw[wp]at h ⊢;exact ih _ hs h
 | await a t b l k ih=>intro p s hs h;rw[wp]at h;exact h.elim
theorem bW {α:Type} {M:Model} {A:Around} {t:Sem α} {Q:α->Shared->Prop} {E:Value->Shared->Prop} {s:Shared} (h:wpAny M A t (fun a s'=>s.toks<=s'.toks->Q a s') (fun e s'=>s.toks<=s'.toks->E e s') s):wpAny M A t Q E s :=
 fun Γ p hi=>Jz t (Wb _) (h Γ p hi)
theorem k0 {M:Model} {A:Around} {c:Code} {R:Result->Shared->Prop} {s:Shared} (h:codeAny M A c (fun r s'=>s.toks<=s'.toks->R r s') s):codeAny M A c R s:=fun Γ p hc hb=>by
 obtain⟨r,s',h1,h2⟩:=h Γ p hc hb;exact⟨r,s',h1,h2 h1.toks⟩
end PySem
namespace L2
open PySem PySem.Spec PyProof.Rows
abbrev Key:=Sum Int Str
def qC:Key->Value->Bool
 | .inl k,v=>Value.isInt k v
 | .inr x,v=>Value.isStrOf x v
def LI (w:World):Key->Int
 | .inl k=>hashInt k
 | .inr x=>hashStr w x
theorem cM:∀{k:Key} {v:Value},qC k v=true->(∃i t,k=Sum.inl i/\v=Value.int i t)∨(∃x t,k=Sum.inr x/\v=Value.str x t)
 | .inl i,v,h=>by
  obtain⟨t,e⟩:=Value.isInt_shape (k:=i) (v:=v) h;exact .inl ⟨i,t,rfl,e⟩
 | .inr x,v,h=>by
  obtain⟨t,e⟩:=Value.isStrOf_shape (x:=x) (v:=v) h;exact .inr ⟨x,t,rfl,e⟩
theorem x6 (i:Int) (t:Tok):qC (.inl i) (.int i t)=true:=by simp[qC,Value.isInt]
theorem x8 (x:Str) (t:Tok):qC (.inr x) (.str x t)=true:=by simp[qC,Value.isStrOf]
theorem GS (a b:Int):decide ((Sum.inl a:Key)=Sum.inl b)=(a == b):=by
 by_cases e:a=b
 ·subst e;simp
 ·have h:¬ (Sum.inl a:Key)=Sum.inl b:=fun q=>e (Sum.inl.inj q);rw[Ag h];exact(beq_eq_false_iff_ne.mpr e).symm
theorem GU (a b:Str):decide ((Sum.inr a:Key)=Sum.inr b)=decide (a=b):=by
 by_cases e:a=b
 ·subst e;simp
 ·have h:¬ (Sum.inr a:Key)=Sum.inr b:=fun q=>e (Sum.inr.inj q);rw[Ag h,Ag e]
theorem GV (a:Int) (b:Str):decide ((Sum.inl a:Key)=Sum.inr b)=false:=Ag (fun q=>nomatch q)
theorem GW (a:Str) (b:Int):decide ((Sum.inr a:Key)=Sum.inl b)=false:=Ag (fun q=>nomatch q)
def cN (prog:Program) (w:World):PySem.KeyKind prog w Key where
 is:=qC
 hash:=LI w
 inj:=fun v a b ha hb=>by
  rcases cM ha with⟨i,t,rfl,rfl⟩|⟨x,t,rfl,rfl⟩
  ·rcases cM hb with⟨j,u,rfl,e⟩|⟨y,u,rfl,e⟩
   ·injection e with e1 _;rw[e1]
   ·exact nomatch e
  ·rcases cM hb with⟨j,u,rfl,e⟩|⟨y,u,rfl,e⟩
   ·exact nomatch e
   ·injection e with e1 _;rw[e1]
 byValue:=fun k v h=>by
  rcases cM h with⟨i,t,rfl,rfl⟩|⟨x,t,rfl,rfl⟩<;>rfl
 pyHash:=fun hv h=>by
  rcases cM hv with⟨i,t,rfl,rfl⟩|⟨x,t,rfl,rfl⟩
  ·exact wpAny_pyHash_int h
  ·exact wpAny_pyHash_str h
 eqBool:=fun hu hv h=>by
  rcases cM hu with⟨i,t,rfl,rfl⟩|⟨x,t,rfl,rfl⟩
  ·rcases cM hv with⟨j,u,rfl,rfl⟩|⟨y,u,rfl,rfl⟩
   ·rw[GS]at h;exact wpAny_eqBool_int h
   ·rw[GV]at h;exact Bx i t y u _ _ _ _ h
  ·rcases cM hv with⟨j,u,rfl,rfl⟩|⟨y,u,rfl,rfl⟩
   ·rw[GW]at h;exact Bw x t j u _ _ _ _ h
   ·rw[GU]at h;exact wpAny_eqBool_str h
 «strs»:=fun k x t v h=>by
  rcases cM h with⟨i,u,rfl,e⟩|⟨y,u,rfl,e⟩
  ·exact nomatch e
  ·injection e with e1 _
   subst e1;cases v<;>rfl
theorem tQ (prog:Program) (w:World) (i:Int) (t:Tok):(cN prog w).is (.inl i) (.int i t)=true:=x6 i t
theorem gw (prog:Program) (w:World) (x:Str) (t:Tok):(cN prog w).is (.inr x) (.str x t)=true:=x8 x t
end L2
namespace L2
open PySem PySem.Spec PyProof.Rows
inductive V where
 | non|bl (b:Bool)|int (i:Int)|str (x:Str)|byt (b:Array UInt8)|flt (b:UInt64)|ref (a:Addr)|ty (n:String)
 deriving DecidableEq
def RelV:V->Value->Prop
 | .non,u=>u=Value.none
 | .bl b,u=>u=Value.bool b
 | .int i,u=>∃t,u=Value.int i t
 | .str x,u=>∃t,u=Value.str x t
 | .byt b,u=>∃t,u=Value.bytes b t
 | .flt b,u=>∃t,u=Value.float b t
 | .ref a,u=>u=Value.ref a
 | .ty n,u=>u=Value.type n
abbrev Vals:List V->List Value->Prop:=Paired RelV
theorem Vals.length {xs:List V} {us:List Value} (r:Vals xs us):xs.length=us.length:=Paired.length r
theorem Vals.get:∀{xs:List V} {us:List Value} {i:Nat} {x:V},Vals xs us->xs[i]?=some x->∃u,us[i]?=some u/\RelV x u
 | _,_,_,_,.nil,e=>by simp at e
 | _,_,0,_,.cons r _,e=>by simp at e;subst e;exact⟨_,rfl,r⟩
 | _,_,i+1,x,.cons _ t,e=>by
  obtain⟨u,h1,h2⟩:=Vals.get (i:=i) (x:=x) t (by simpa using e)
  exact⟨u,by simpa using h1,h2⟩
theorem Vals.set {x:V} {u:Value} (r:RelV x u):∀{xs:List V} {us:List Value} (i:Nat),Vals xs us->Vals (xs.set i x) (us.set i u)
 | _,_,_,.nil=>.nil
 | _,_,0,.cons _ t=>.cons r t
 | _,_,i+1,.cons q t=>.cons q (Vals.set r i t)
theorem Vals.append:∀{xs ys:List V} {us ws:List Value},Vals xs us->Vals ys ws->Vals (xs++ys) (us++ws)
 | _,_,_,_,.nil,s=>s
 | _,_,_,_,.cons r t,s=>.cons r (Vals.append t s)
theorem Vals.take:∀{xs:List V} {us:List Value} (n:Nat),Vals xs us->Vals (xs.take n) (us.take n)
 | _,_,0,_=>.nil
 | _,_,_+1,.nil=>.nil
 | _,_,n+1,.cons r t=>.cons r (Vals.take n t)
theorem Vals.drop:∀{xs:List V} {us:List Value} (n:Nat),Vals xs us->Vals (xs.drop n) (us.drop n)
 | _,_,0,r=>r
 | _,_,_+1,.nil=>.nil
 | _,_,n+1,.cons _ t=>Vals.drop n t
def RelO:Option V->Option Value->Prop
 | some v,some u=>RelV v u
 | none,none=>True
 | _,_=>False
def KV {κ:Type}:List (κ×V)->List (κ×Value)->Prop:=Paired fun(p:κ×V) (q:κ×Value)=>p.1=q.1/\RelV p.2 q.2
def kV:Key->V
 | .inl i=>.int i
 | .inr x=>.str x
inductive HO where
  | lst (xs:List V)
  | tup (xs:List V)
  | dK (kvs:List (Key×V))|dT (ep:Nat×List Addr) (kvs:List (List Key×V))
  | set (S:Int->Bool) (n:Nat)
  | ins (C dx:Addr) (fs:List (Str×V))
  | own (x:Addr)
  | xd (fs:List (Str×V))
  | met (f x:Addr)
  | rng (lo hi:Int)
  | frz (o:Obj) (u:HO)
  | tbl (ps:Array Value)
  | ext (φ:Heap->Prop)
abbrev Hp:=Addr->Option HO
def upd (H:Hp) (a:Addr) (o:HO):Hp:=fun b=>if b=a then some o else H b
theorem aG {H:Hp} {a:Addr} {o:HO}:upd H a o a=some o:=by unfold upd;rw[Af rfl]
theorem ax {H:Hp} {a b:Addr} {o:HO} (h:b≠a):upd H a o b=H b:=by unfold upd;rw[Ah h]
theorem JA {H:Hp} {a b:Addr} {o u:HO} (h:H a=some o) (h':H b=some u) (d:o≠u):a≠b:=by
 intro e;subst e;rw[h]at h';exact d (Option.some.inj h')
theorem bw {H:Hp} {a b:Addr} {o:HO} (h:H a=some o) (h':H b=none):a≠b:=by
 intro e;subst e;rw[h]at h';cases h'
section
variable (P:Program) (w:World)
def ObjOk (H:Hp) (h:Heap) (a:Addr):HO->Prop
 | .lst xs=>xs.length<=sizeLine/\∃(its:List Value) (n:Nat),Vals xs its/\h.get? a=some { cls:=.type "list",data:=.seq its.toArray n }
 | .tup xs=>xs.length<=sizeLine/\∃its:List Value,Vals xs its/\IsTup h a its.toArray
 | .dK kvs=>kvs.length<=sizeLine/\(a == sysModules)=false/\∃vs,KV kvs vs/\h.DictOf (cN P w) a vs
 | .dT ep kvs=>kvs.length<=sizeLine/\(a == sysModules)=false/\∃xs:List (List Key×Addr×Value),
   Paired (fun(p:List Key×V) (q:List Key×Addr×Value)=>p.1=q.1/\H q.2.1=some (.tup (p.1.map kV))/\RelV p.2 q.2.2) kvs xs /\
   xs.map (·.2.1)=ep.2/\∃o es,h.get? a=some o/\o.ExactDict/\o.data=.dict es ep.1/\es.toList=xs.map (entryOfKey (tupleKind (cN P w)))/\(xs.map (·.1)).Nodup
 | .set S n=>h.SetOf (intKind P w) a S n
 | .ins C dx fs=>H dx=some (.own a)/\fs.length<=1000/\dx≠a/\h.get? a=some (PySem.W.instObj C dx) /\
   ∃mA,h.Ns1 dx mA/\(∀f,RelO (fs.lookup f) (mA f))/\PySem.Within mA (fs.map (·.1))
 | .own _=>∃o,h.get? a=some o
 | .xd fs=>∃mA,h.Ns1 a mA/\∀f,RelO (fs.lookup f) (mA f)
 | .rng lo hi=>∃t u v,h.get? a=some { cls:=.type "range",data:=.fields #[.int lo t,.int hi u,.int 1 v] }
 | .frz o u=>h.get? a=some o/\ObjOk H h a u
 | .tbl ps=>h.get? a=some { cls:=.none,data:=.fields ps }
 | .met f x=>h.get? a=some (PySem.W.methodObj (.ref f) (.ref x))
 | .ext φ=>φ h/\(∃o,h.get? a=some o)/\∀h1 h2:Heap,φ h1->(∀o,h1.get? a=some o->h2.get? a=some o)->φ h2
def HOk (H:Hp) (h:Heap):Prop:=∀a o,H a=some o->ObjOk P w H h a o
end
section
variable {P:Program} {w:World} {H H':Hp} {h h':Heap} {a:Addr} {o:HO}
theorem ObjOk.lt (x:ObjOk P w H h a o):a<h.objs.size:=by
 cases o with
 | lst xs=>obtain⟨_,_,_,_,e⟩:=x;exact Ad e
 | tup xs=>obtain⟨_,_,_,p⟩:=x;exact p.lt
 | dK kvs=>obtain⟨_,_,_,_,o,_,_,e,_⟩:=x;exact Ad e
 | dT ep kvs=>obtain⟨_,_,_,_,_,o,_,e,_⟩:=x;exact Ad e
 | set S n=>obtain⟨o,_,_,_,e,_⟩:=x;exact Ad e
 | ins C dx fs=>obtain⟨_,_,_,e,_⟩:=x;exact Ad e
 | own y=>obtain⟨_,e⟩:=x;exact Ad e
 | xd fs=>obtain⟨_,⟨_,_,_,e,_⟩,_⟩:=x;exact Ad e
 | rng lo hi=>obtain⟨_,_,_,e⟩:=x;exact Ad e
 | frz ob u=>obtain⟨e,_⟩:=x;exact Ad e
 | tbl ps=>exact Ad (show h.get? a=some _ from x)
 | met f y=>exact Ad (show h.get? a=some _ from x)
 | ext φ=>obtain⟨_,⟨_,e⟩,_⟩:=x;exact Ad e
theorem Paired.mapP {α β:Type} {F G:α->β->Prop}:∀{l₁:List α} {l₂:List β},Paired F l₁ l₂->(∀a b,F a b->G a b)->Paired G l₁ l₂
 | _,_,.nil,_=>.nil
 | _,_,.cons r t,f=>.cons (f _ _ r) (Paired.mapP t f)
theorem ObjOk.stay (x:ObjOk P w H h a o) (k:∀b u,(b=a∨H b=some (.own a))->h.get? b=some u->h'.get? b=some u)
  (ho:∀b,H b=some (.own a)->H' b=some (.own a)) (ht:∀b xs,H b=some (.tup xs)->H' b=some (.tup xs)):ObjOk P w H' h' a o:=by
 induction o with
 | lst xs=>obtain⟨z,its,n,r,e⟩:=x;exact⟨z,its,n,r,k _ _ (.inl rfl) e⟩
 | tup xs=>obtain⟨z,its,r,ob,e,c⟩:=x;exact⟨z,its,r,ob,k _ _ (.inl rfl) e,c⟩
 | dK kvs=>obtain⟨z,y,vs,r,ob,es,ep,e,c⟩:=x;exact⟨z,y,vs,r,ob,es,ep,k _ _ (.inl rfl) e,c⟩
 | dT ep kvs =>
  obtain⟨z,y,xs,r,ra,ob,es,e,c⟩:=x;exact⟨z,y,xs,Paired.mapP r fun p q z=>⟨z.1,ht _ _ z.2.1,z.2.2⟩,ra,ob,es,k _ _ (.inl rfl) e,c⟩
 | set S n=>obtain⟨ob,es,ep,t,e,c⟩:=x;exact⟨ob,es,ep,t,k _ _ (.inl rfl) e,c⟩
 | ins C dx fs =>
  obtain⟨d,z,ne,e,mA,⟨od,es,ep,e2,c⟩,r⟩:=x;exact⟨ho _ d,z,ne,k _ _ (.inl rfl) e,mA,⟨od,es,ep,k _ _ (.inr d) e2,c⟩,r⟩
 | own y=>obtain⟨ob,e⟩:=x;exact⟨ob,k _ _ (.inl rfl) e⟩
 | xd fs=>obtain⟨mA,⟨od,es,ep,e,c⟩,r⟩:=x;exact⟨mA,⟨od,es,ep,k _ _ (.inl rfl) e,c⟩,r⟩
 | rng lo hi=>obtain⟨t,u,v,e⟩:=x;exact⟨t,u,v,k _ _ (.inl rfl) e⟩
 | frz ob u ih=>obtain⟨e,q⟩:=x;exact⟨k _ _ (.inl rfl) e,ih q⟩
 | tbl ps =>
  have e:h.get? a=some { cls:=.none,data:=.fields ps }:=x;show h'.get? a=some { cls:=.none,data:=.fields ps };exact k a _ (.inl rfl) e
 | met f y =>
  have e:h.get? a=some (PySem.W.methodObj (.ref f) (.ref y)):=x;show h'.get? a=some (PySem.W.methodObj (.ref f) (.ref y));exact k a _ (.inl rfl) e
 | ext φ=>obtain⟨p,⟨o,e⟩,st⟩:=x;exact⟨st _ _ p fun o q=>k _ _ (.inl rfl) q,⟨o,k _ _ (.inl rfl) e⟩,st⟩
theorem HOk.lt (x:HOk P w H h) (e:H a=some o):a<h.objs.size:=(x a o e).lt
theorem HOk.fresh (x:HOk P w H h) (e:h.objs.size<=a):H a=none:=by
 cases q:H a with
 | none=>rfl
 | some u=>exact absurd (Vb (x.lt q) e) (Ve _)
theorem HOk.kept (x:HOk P w H h) (k:∀b u,h.get? b=some u->h'.get? b=some u):HOk P w H h':=fun a o e =>
 (x a o e).stay (fun b u _ q=>k b u q) (fun _ q=>q) fun _ _ q=>q
theorem HOk.laid (x:HOk P w H h) (k:∀b u,h.get? b=some u->h'.get? b=some u) (hp:h.objs.size<=a) (new:ObjOk P w (upd H a o) h' a o):HOk P w (upd H a o) h':=fun b u e=>by
 have hn:=x.fresh hp;by_cases hb:b=a
 ·subst hb;rw[aG]at e;cases e;exact new
 ·rw[ax hb]at e;exact(x b u e).stay (fun c v _ q=>k c v q) (fun c q=>by rw[ax (bw q hn)];exact q) fun c xs q=>by rw[ax (bw q hn)];exact q
end
def Rd (H:Hp) (a:Addr) (u:HO):Prop:=H a=some u∨∃o,H a=some (.frz o u)
theorem Rd.ok {P:Program} {w:World} {H:Hp} {h:Heap} {a:Addr} {u:HO} (r:Rd H a u) (x:HOk P w H h):ObjOk P w H h a u:=by
 rcases r with r|⟨o,r⟩
 ·exact x a u r
 ·obtain⟨_,q⟩:=x a _ r;exact q
def JB:Option HO->Prop
 | some (.lst _)=>True
 | some (.dK _)=>True
 | some (.dT _ _)=>True
 | some (.set _ _)=>True
 | some (.ins _ _ _)=>True
 | some (.ext _)=>True
 | _=>False
section
variable {P:Program} {w:World} {H:Hp} {h h':Heap} {x e:Addr} {o':HO}
theorem HOk.write (ok:HOk P w H h) (mu:JB (H x)) (he:e=x∨H e=some (.own x)) (k:∀b u,b≠e->h.get? b=some u->h'.get? b=some u) (heo:∃u,h'.get? e=some u)
  (new:ObjOk P w (upd H x o') h' x o'):HOk P w (upd H x o') h':=fun b u q=>by
 have nown:∀c y,H c=some (.own y)->c≠x:=fun c y r z=>by subst z;rw[r]at mu;exact mu
 have ntup:∀c xs,H c=some (.tup xs)->c≠x:=fun c xs r z=>by subst z;rw[r]at mu;exact mu
 by_cases hb:b=x
 ·subst hb;rw[aG]at q;cases q;exact new
 ·rw[ax hb]at q;by_cases hbe:b=e
  ·have q':H b=some (.own x):=by
    rcases he with z|z
    ·exact absurd (hbe.trans z) hb
    ·rw[hbe];exact z
   rw[q]at q';cases q';obtain⟨v,hv⟩:=heo;exact⟨v,by rw[hbe];exact hv⟩
  ·refine(ok b u q).stay (fun c v hc r=>k c v ?_ r) (fun c r=>by rw[ax (nown c b r)];exact r) fun c xs r=>by rw[ax (ntup c xs r)];exact r
   rcases hc with rfl|hc
   ·exact hbe
   ·rintro rfl;rcases he with z|z
    ·exact nown c b hc z
    ·rw[hc]at z;cases z;exact hb rfl
end
structure Un (fs ex:List Addr) (H H':Hp) (h h':Heap):Prop where
 keep:∀b o,h.get? b=some o->H b=none->b∉fs->b∉ex->h'.get? b=some o
 slot:∀b o,h.get? b=some o->H b=none->b∈fs->b∉ex->∃sl,h'.get? b=some { o with slots:=sl }
 free:∀b o,h.get? b=some o->H b=none->b∉ex->H' b=none
 there:∀b o,h.get? b=some o->b∉ex->∃o',h'.get? b=some o'
 tups:∀b xs,H b=some (.tup xs)->H' b=some (.tup xs)
 frzs:∀b o u,H b=some (.frz o u)->H' b=some (.frz o u)
 tbls:∀b ps,H b=some (.tbl ps)->∃more,H' b=some (.tbl (ps++more))
section
variable {fs fs' ex ex':List Addr} {H H1 H2:Hp} {h h1 h2 h':Heap} {a x e:Addr} {o:HO}
theorem Un.any (u:Un fs ex H H1 h h1) {b:Addr} {ob:Obj} (q:h.get? b=some ob) (n:H b=none) (hx:b∉ex):∃sl,h1.get? b=some { ob with slots:=sl }:=by
 by_cases hb:b∈fs
 ·exact u.slot b ob q n hb hx
 ·exact⟨ob.slots,u.keep b ob q n hb hx⟩
theorem Un.kept (k:∀b u,h.get? b=some u->h'.get? b=some u):Un fs ex H H h h' :=
 ⟨fun b ob q _ _ _=>k b ob q,fun b ob q _ _ _=>⟨ob.slots,k b ob q⟩,fun _ _ _ n _=>n,fun b ob q _=>⟨ob,k b ob q⟩,fun _ _ q=>q,fun _ _ _ q=>q,fun _ ps q=>⟨#[],by rw[q];simp⟩⟩
theorem Un.refl:Un fs ex H H h h:=Un.kept fun _ _ q=>q
theorem Un.laid (k:∀b u,h.get? b=some u->h'.get? b=some u) (hp:h.objs.size<=a) (hn:H a=none):Un fs ex H (upd H a o) h h' where
 keep:=fun b u q _ _ _=>k b u q
 slot:=fun b u q _ _ _=>⟨u.slots,k b u q⟩
 free:=fun b u q n _=>by rw[ax (Vf (Vb (Ad q) hp))];exact n
 there:=fun b u q _=>⟨u,k b u q⟩
 tups:=fun b xs q=>by rw[ax (bw q hn)];exact q
 frzs:=fun b u xs q=>by rw[ax (bw q hn)];exact q
 tbls:=fun b ps q=>⟨#[],by rw[ax (bw q hn),q];simp⟩
theorem Un.write (mu:JB (H x)) (he:e=x∨H e=some (.own x)) (k:∀b u,b≠e->h.get? b=some u->h'.get? b=some u) (heo:∃u,h'.get? e=some u):Un fs ex H (upd H x o) h h':=by
 have hx:∀b,H b=none->b≠x:=fun b n z=>by subst z;rw[n]at mu;exact mu
 have hb:∀b,H b=none->b≠e:=fun b n z=>by
  subst z;rcases he with r|r
  ·exact hx b n r
  ·rw[n]at r;cases r
 have hm:∀b u,H b=some u->¬ JB (some u)->b≠x:=fun b u q nm z=>by subst z;rw[q]at mu;exact nm mu
 refine⟨fun b u q n _ _=>k b u (hb b n) q,fun b u q n _ _=>⟨u.slots,k b u (hb b n) q⟩,fun b u q n _=>by rw[ax (hx b n)];exact n,fun b u q _=>?_,
  fun b xs q=>by rw[ax (hm b _ q fun z=>z)];exact q,fun b u xs q=>by rw[ax (hm b _ q fun z=>z)];exact q,fun b ps q=>⟨#[],by rw[ax (hm b _ q fun z=>z),q];simp⟩⟩
 by_cases hbe:b=e
 ·subst hbe;exact heo
 ·exact⟨u,k b u hbe q⟩
end
def Lz (h:Heap) (H:Hp):List Addr:=(List.range h.objs.size).filter fun a=>(H a).isSome
def rD (h:Heap) (H:Hp):Heap:=PySem.W.hideAll h (Lz h H)
theorem x9 (h:Heap) (H:Hp):(rD h H).objs.size=h.objs.size:=PySem.W.hideAll_size _ _
theorem zc {h:Heap} {H:Hp} {b:Addr} {o:Obj} (e:h.get? b=some o) (n:H b=none):(rD h H).get? b=some o :=
 PySem.W.hideAll_get _ e fun hm=>by
  have q:(H b).isSome=true:=(Xg.mp hm).2;rw[n]at q;simp at q
theorem Dz {h:Heap} {H:Hp} {b:Addr} {o:Obj} (e:(rD h H).get? b=some o):h.get? b=some o/\H b=none:=by
 have e':h.get? b=some o:=PySem.W.of_hideAll (Lz h H) e;refine⟨e',?_⟩;cases q:H b with
 | none=>rfl
 | some x =>
  have hm:b∈Lz h H:=Xg.mpr ⟨Yj.mpr (Ad e'),by simp[q]⟩
  have z:(rD h H).get? b=none:=PySem.W.hideAll_none (Lz h H) hm;rw[z]at e;cases e
end L2
namespace L2
open PySem PySem.Spec PyProof.Rows
structure Mod (K:PySem.W.Frag) (mg:Str->Option Value) (base:Heap):Prop where
 kin:K.In base
 glob:base.Ns mainGlobals mg
 blt:∃mb,base.Ns builtinsNs mb/\∀x:Str,x≠"__name__"->mb x=bootBuiltins x
 nolimit:base.NoLimit
structure Cx where
 prog:Program
 w:World
 K:PySem.W.Frag
 mg:Str->Option Value
 base:Heap
 A:Around
 N:List Str
 s₀:Shared
 H₀:Hp
 env:Env
 outer:List Env
 stack:List Env
 ex:List Addr
 fn:Str->Bool
 calm:Bool
 pn:List (Addr×Obj)
 xe:Value->Shared->Prop
def g5 (l:List Env):List Addr:=l.filterMap (·.frame)
abbrev Cx.fs (X:Cx):List Addr:=g5 X.outer
def LJ (sc:Scope) (x:Str):Prop:=sc.names.lookup x=some .local∨sc.names.lookup x=some .cell∨sc.names.lookup x=some .free
def Loc (sc:Scope) (x:Str):Prop:=sc.names.lookup x=some .local∨sc.names.lookup x=some .cell
def Look (env:Env) (h:Heap) (m:Str->Option Value) (x:Str) (u:Value):Prop :=
 (env.kindOf x=some .local/\m x=some u)∨((env.kindOf x=some .cell∨env.kindOf x=some .free)/\∃c,env.cells.lookup x=some c/\h.IsCell c (some u))
structure Cx.Ok (X:Cx):Prop where
 mod:Mod X.K X.mg X.base
 kind:X.env.scope.kind=.function
 glob:X.env.globals=mainGlobals
 blt:X.env.builtins=builtinsNs
 above:X.s₀.heap.objs.size<=X.env.locals
 inj:∀x y c,X.env.cells.lookup x=some c->X.env.cells.lookup y=some c->x=y
 has:∀x,(X.env.kindOf x=some .cell∨X.env.kindOf x=some .free)->∃c,X.env.cells.lookup x=some c
 cab:∀x c,X.fn x=true->X.env.cells.lookup x=some c->X.s₀.heap.objs.size<=c
 hd:X.calm=true->X.A.handled=none
 frames:X.A.frames=some X.stack
 stk:X.stack=X.outer∨(X.stack=X.env::X.outer/\X.env.frame=some X.env.locals)
 exf:∀b∈X.ex,b≠X.env.locals/\∀x c,X.env.cells.lookup x=some c->c≠b
 bs:∀b o,X.base.get? b=some o->X.s₀.heap.get? b=some o/\X.H₀ b=none
 bsz:X.base.objs.size<=X.s₀.heap.objs.size
 noex:∀b o,X.base.get? b=some o->b∉X.ex
 exfs:∀b∈X.ex,b∉X.fs
 funs:X.s₀.heap.FunFrames X.base X.outer
 frf:∀b∈X.fs,X.H₀ b=none
structure Inv (X:Cx) (pins:List (Addr×Obj)) (σ:List (Option V)) (H:Hp) (s:Shared):Prop where
 ok:X.Ok
 os:s.os=X.s₀.os
 bare:AllBare s.gens
 base:Un X.fs X.ex X.H₀ H X.s₀.heap s.heap
 loc:∃m,s.heap.Ns X.env.locals m/\∀(i:Nat) (x:Str) (v:V),X.N[i]?=some x->σ[i]?=some (some v)->LJ X.env.scope x->∃u,RelV v u/\Look X.env s.heap m x u
 cell:∀x c,X.env.cells.lookup x=some c->∃v,s.heap.IsCell c v
 free:H X.env.locals=none
 freeC:∀x c,X.env.cells.lookup x=some c->H c=none
 pin:∀p∈X.pn++pins,s.heap.get? p.1=some p.2/\H p.1=none/\p.1≠X.env.locals/\p.1∉X.fs/\∀v,p.2.data≠.cell v
 hok:HOk X.prog X.w H s.heap
 len:σ.length=X.N.length
 tk:0<s.toks
theorem Inv.tkl' {X:Cx} {pins:List (Addr×Obj)} {σ:List (Option V)} {H:Hp} {s:Shared} {n:Nat} (I:Inv X pins σ H s) (h:s.toks<=n):0<n:=Vb I.tk h
theorem Inv.tkl {X:Cx} {pins:List (Addr×Obj)} {σ:List (Option V)} {H:Hp} {s:Shared} {n:Nat} (h:s.toks<=n) (I:Inv X pins σ H s):0<n:=Vb I.tk h
section
variable {X:Cx} {pins:List (Addr×Obj)} {σ:List (Option V)} {H H':Hp} {s:Shared} {h':Heap}
theorem Cx.Ok.nofr (ok:X.Ok) {b:Addr} {o:Obj} (e:X.base.get? b=some o):b∉X.fs:=fun hb=>by
 have:=(ok.funs.mem hb).1;rw[e]at this;cases this
theorem Inv.bs (I:Inv X pins σ H s):∀b o,X.base.get? b=some o->s.heap.get? b=some o/\H b=none:=fun b o e =>
 ⟨I.base.keep b o (I.ok.bs b o e).1 (I.ok.bs b o e).2 (I.ok.nofr e) (I.ok.noex b o e),I.base.free b o (I.ok.bs b o e).1 (I.ok.bs b o e).2 (I.ok.noex b o e)⟩
theorem Inv.bk (I:Inv X pins σ H s):∀b o,X.base.get? b=some o->s.heap.get? b=some o:=fun b o e=>(I.bs b o e).1
theorem Inv.mod (I:Inv X pins σ H s):Mod X.K X.mg X.base:=I.ok.mod
theorem Inv.kIn (I:Inv X pins σ H s):X.K.In s.heap:=I.ok.mod.kin.keeps I.bk
theorem Inv.lt (I:Inv X pins σ H s):X.env.locals<s.heap.objs.size:=let ⟨_,hn,_⟩:=I.loc;hn.lt
theorem Inv.sz (I:Inv X pins σ H s):X.s₀.heap.objs.size<=s.heap.objs.size:=Yc I.ok.above (BX I.lt)
theorem Inv.nofs (I:Inv X pins σ H s) {a:Addr} (h:s.heap.objs.size<=a):a∉X.fs:=fun hb=>by
 obtain⟨_,o,ho,_⟩:=I.ok.funs.mem hb;exact absurd (Vb (Ad ho) (Yc I.sz h)) (Ve _)
theorem Inv.cne (I:Inv X pins σ H s):∀x c,X.env.cells.lookup x=some c->c≠X.env.locals:=fun x c e z=>by
 obtain⟨v,o,ho,hd⟩:=I.cell x c e;obtain⟨m,⟨o',es,ep,ho',hd',_⟩,_⟩:=I.loc;rw[z,ho']at ho;cases ho;rw[hd']at hd;cases hd
theorem Inv.funs (I:Inv X pins σ H s):s.heap.FunFrames X.base X.outer:=by
 have all:∀(l:List Env),(∀b∈g5 l,b∈X.fs)->X.s₀.heap.FunFrames X.base l->s.heap.FunFrames X.base l:=by
  intro l;induction l with
  | nil=>intro _ _;trivial
  | cons env r ih =>
   intro hs hl;obtain⟨hk,⟨L,o,hf,hn,ho,hd⟩,hr⟩:=hl;have hL:L∈X.fs:=hs L (by unfold g5;rw[Bt,hf];exact Va)
   obtain⟨sl,e⟩:=I.base.slot L o ho (I.ok.frf L hL) hL fun z=>I.ok.exfs L z hL;exact⟨hk,⟨L,_,hf,hn,e,hd⟩,ih (fun b hb=>hs b (by unfold g5;rw[Bt,hf];exact Yb _ hb)) hr⟩
 exact all X.outer (fun _ hb=>hb) I.ok.funs
theorem Inv.stack (I:Inv X pins σ H s):s.heap.FunFrames X.base X.stack:=by
 rcases I.ok.stk with e|⟨e,hf⟩
 ·rw[e];exact I.funs
 ·rw[e];obtain⟨m,hn,_⟩:=I.loc;refine .cons (by rw[I.ok.kind];decide) hf hn ?_ I.funs
  exact Br (Yc I.ok.bsz I.ok.above)
theorem Inv.stkSub (I:Inv X pins σ H s):∀b∈g5 X.stack,b∈X.env.locals::X.fs:=fun b hb=>by
 rcases I.ok.stk with e|⟨e,hf⟩
 ·rw[e]at hb;exact Yb _ hb
 ·rw[e]at hb;unfold g5 at hb;rw[Bt,hf]at hb;exact hb
theorem Inv.stkFree (I:Inv X pins σ H s):∀b∈g5 X.stack,H b=none:=fun b hb=>by
 rcases Vc.mp (I.stkSub b hb) with e|hb
 ·rw[e];exact I.free
 ·obtain⟨_,o,ho,_⟩:=I.ok.funs.mem hb;exact I.base.free b o ho (I.ok.frf b hb) fun z=>I.ok.exfs b z hb
theorem Inv.step {g':Array GenState} {t':Nat} {d':Drawn} {ch:List Addr} (I:Inv X pins σ H s)
  (hch:∀b∈ch,(b∈X.ex∨X.s₀.heap.objs.size<=b)/\b≠X.env.locals/\(∀x c,X.env.cells.lookup x=some c->c≠b)/\∀p∈X.pn++pins,p.1≠b)
  (keep:∀b o,b≠X.env.locals->b∉X.fs->b∉ch->s.heap.get? b=some o->H b=none->h'.get? b=some o)
  (slot:∀b o,b≠X.env.locals->b∈X.fs->b∉ch->s.heap.get? b=some o->H b=none->∃sl,h'.get? b=some { o with slots:=sl }) (free:∀b o,b∉ch->s.heap.get? b=some o->H b=none->H' b=none)
  (there:∀b o,b∉ch->s.heap.get? b=some o->∃o',h'.get? b=some o')
  (tups:∀b xs,H b=some (.tup xs)->H' b=some (.tup xs)) (frzs:∀b o u,H b=some (.frz o u)->H' b=some (.frz o u)) (tbls:∀b ps,H b=some (.tbl ps)->∃more,H' b=some (.tbl (ps++more)))
  (ns:∀m,s.heap.Ns X.env.locals m->h'.Ns X.env.locals m) (hok:HOk X.prog X.w H' h') (hg:AllBare g') (ht:0<t':=by first|assumption|exact Wg _|exact Inv.tk (by assumption)|exact Inv.tkl (by assumption) (by assumption)|lia) :
  Inv X pins σ H' { s with heap:=h',gens:=g',drawn:=d',toks:=t' }:=by
 have neL:∀b o,X.s₀.heap.get? b=some o->b≠X.env.locals:=fun b o e=>Vf (Vb (Ad e) I.ok.above);have neC:∀b o,X.s₀.heap.get? b=some o->b∉X.ex->b∉ch:=fun b o e hx hb=>by
  rcases(hch b hb).1 with z|z
  ·exact hx z
  ·exact absurd (Vb (Ad e) z) (Ve _)
 have cellK:∀x c,X.env.cells.lookup x=some c->∀v,s.heap.IsCell c v->h'.IsCell c v:=fun x c e v ⟨o,ho,hd⟩=>by
  have nch:c∉ch:=fun z=>(hch c z).2.2.1 x c e rfl;by_cases hc:c∈X.fs
  ·obtain⟨sl,q⟩:=slot c o (I.cne x c e) hc nch ho (I.freeC x c e);exact⟨_,q,hd⟩
  ·exact⟨o,keep c o (I.cne x c e) hc nch ho (I.freeC x c e),hd⟩
 refine⟨I.ok,I.os,hg,⟨fun b o e n hb hx=>?_,fun b o e n hb hx=>?_,fun b o e n hx=>?_,fun b o e hx=>?_,fun b xs e=>tups b xs (I.base.tups b xs e),fun b o xs e=>frzs b o xs (I.base.frzs b o xs e),fun b ps e=>?_⟩,?_,fun x c e=>?_,?_,fun x c e=>?_,fun p hp=>?_,hok,I.len,ht⟩
 ·exact keep b o (neL b o e) hb (neC b o e hx) (I.base.keep b o e n hb hx) (I.base.free b o e n hx)
 ·obtain⟨sl,e1⟩:=I.base.slot b o e n hb hx;obtain⟨sl',e2⟩:=slot b _ (neL b o e) hb (neC b o e hx) e1 (I.base.free b o e n hx);exact⟨sl',e2⟩
 ·obtain⟨o',e1⟩:=I.base.there b o e hx;exact free b o' (neC b o e hx) e1 (I.base.free b o e n hx)
 ·obtain⟨o',e1⟩:=I.base.there b o e hx;exact there b o' (neC b o e hx) e1
 ·obtain⟨m1,e1⟩:=I.base.tbls b ps e;obtain⟨m2,e2⟩:=tbls b _ e1;exact⟨m1++m2,by rw[e2,Array.append_assoc]⟩
 ·obtain⟨m,hn,hl⟩:=I.loc;refine⟨m,ns m hn,fun i x v e1 e2 e3=>?_⟩;obtain⟨u,r,l⟩:=hl i x v e1 e2 e3;refine⟨u,r,?_⟩;rcases l with l|⟨k,c,e,z⟩
  ·exact .inl l
  ·exact .inr ⟨k,c,e,cellK x c e _ z⟩
 ·obtain⟨v,z⟩:=I.cell x c e;exact⟨v,cellK x c e v z⟩
 ·obtain⟨m,⟨o,_,_,ho,_⟩,_⟩:=I.loc;exact free _ o (fun z=>(hch _ z).2.1 rfl) ho I.free
 ·obtain⟨v,o,ho,hd⟩:=I.cell x c e;exact free c o (fun z=>(hch c z).2.2.1 x c e rfl) ho (I.freeC x c e)
 ·obtain⟨e,n,ne,nf,d⟩:=I.pin p hp;have nch:p.1∉ch:=fun z=>(hch p.1 z).2.2.2 p hp rfl;exact⟨keep p.1 p.2 ne nf nch e n,free p.1 p.2 nch e n,ne,nf,d⟩
theorem Inv.un {t':Nat} (I:Inv X pins σ H s) (u:Un X.fs [] H H' s.heap h') (hok:HOk X.prog X.w H' h') (ht:0<t':=by first|assumption|exact Wg _|exact Inv.tk (by assumption)|exact Inv.tkl (by assumption) (by assumption)|lia):Inv X pins σ H' { s with heap:=h',toks:=t' }:=by
 obtain⟨m,⟨o,es,ep,ho,r⟩,_⟩:=id I.loc;obtain⟨sl,hL⟩:=u.any ho I.free (by simp)
 exact I.step (g':=s.gens) (d':=s.drawn) (ch:=[]) (fun _ z=>nomatch z) (fun b o _ hb _ e n=>u.keep b o e n hb (by simp)) (fun b o _ hb _ e n=>u.slot b o e n hb (by simp)) (fun b o _ e n=>u.free b o e n (by simp)) (fun b o _ e=>u.there b o e (by simp)) u.tups u.frzs u.tbls (fun m' hm=>by
  obtain⟨o',es',ep',ho',r'⟩:=hm;rw[ho]at ho';cases ho'
  exact⟨_,es',ep',hL,r'⟩) hok I.bare
theorem Inv.call {g':Array GenState} {t':Nat} {d':Drawn} {ch:List Addr} (I:Inv X pins σ H s) (u:Un (g5 X.stack) ch H H' s.heap h') (hok:HOk X.prog X.w H' h') (hg:AllBare g')
  (hch:∀b∈ch,(b∈X.ex∨X.s₀.heap.objs.size<=b)/\b≠X.env.locals/\(∀x c,X.env.cells.lookup x=some c->c≠b)/\∀p∈X.pn++pins,p.1≠b) (ht:0<t':=by first|assumption|exact Wg _|exact Inv.tk (by assumption)|exact Inv.tkl (by assumption) (by assumption)|lia) :
  Inv X pins σ H' { s with heap:=h',gens:=g',drawn:=d',toks:=t' }:=by
 obtain⟨m,⟨o,es,ep,ho,r⟩,_⟩:=id I.loc;obtain⟨sl,hL⟩:=u.any ho I.free fun z=>(hch _ z).2.1 rfl
 exact I.step (ch:=ch) hch (fun b o hL hb hc e n=>u.keep b o e n (fun z=>(Vc.mp (I.stkSub b z)).elim hL hb) hc) (fun b o _ _ hc e n=>u.any e n hc) (fun b o hc e n=>u.free b o e n hc) (fun b o hc e=>u.there b o e hc) u.tups u.frzs u.tbls (fun m' hm=>by
  obtain⟨o',es',ep',ho',r'⟩:=hm;rw[ho]at ho';cases ho'
  exact⟨_,es',ep',hL,r'⟩) hok hg
theorem Inv.turned {t':Nat} {it:Addr} (I:Inv X pins σ H s) (k:∀b o,b≠it->s.heap.get? b=some o->h'.get? b=some o) (hn:H it=none) (hL:it≠X.env.locals)
  (h1:it∈X.ex∨X.s₀.heap.objs.size<=it) (h2:∀x c,X.env.cells.lookup x=some c->c≠it) (h3:∀p∈X.pn++pins,p.1≠it) (ht:0<t':=by first|assumption|exact Wg _|exact Inv.tk (by assumption)|exact Inv.tkl (by assumption) (by assumption)|lia):Inv X pins σ H { s with heap:=h',toks:=t' }:=by
 have nit:∀b u,H b=some u->b≠it:=fun b u e z=>by rw[z,hn]at e;cases e
 refine I.step (g':=s.gens) (d':=s.drawn) (ch:=[it]) (fun b hb=>?_) (fun b o _ _ hc e _=>k b o (fun z=>hc (by simp[z])) e) (fun b o _ _ hc e _=>⟨o.slots,k b o (fun z=>hc (by simp[z])) e⟩) (fun _ _ _ _ n=>n)
  (fun b o hc e=>⟨o,k b o (fun z=>hc (by simp[z])) e⟩) (fun _ _ e=>e) (fun _ _ _ e=>e) (fun b ps e=>⟨#[],by rw[e];simp⟩) (fun m hm=>?_) (fun b u e=>?_) I.bare
 ·have e:b=it:=by simpa using hb
  subst e;exact⟨h1,hL,h2,h3⟩
 ·obtain⟨o,es,ep,ho,r⟩:=hm;exact⟨o,es,ep,k _ o (Am hL) ho,r⟩
 ·refine(I.hok b u e).stay (fun c v hc q=>k c v ?_ q) (fun _ q=>q) fun _ _ q=>q;rcases hc with z|z
  ·rw[z];exact nit b u e
  ·exact nit c _ z
theorem Inv.tok (I:Inv X pins σ H s) (t':Nat) (ht:0<t':=by first|assumption|exact Wg _|exact Inv.tk (by assumption)|exact Inv.tkl (by assumption) (by assumption)|lia):Inv X pins σ H { s with toks:=t' }:=I.un (h':=s.heap) (t':=t') Un.refl I.hok
theorem Inv.kept {t':Nat} (I:Inv X pins σ H s) (k:∀b u,s.heap.get? b=some u->h'.get? b=some u) (ht:0<t':=by first|assumption|exact Wg _|exact Inv.tk (by assumption)|exact Inv.tkl (by assumption) (by assumption)|lia):Inv X pins σ H { s with heap:=h',toks:=t' }:=I.un (Un.kept k) (I.hok.kept k)
theorem Inv.laid {a:Addr} {o:HO} {t':Nat} (I:Inv X pins σ H s) (k:∀b u,s.heap.get? b=some u->h'.get? b=some u) (hp:s.heap.objs.size<=a) (new:ObjOk X.prog X.w (upd H a o) h' a o) (ht:0<t':=by first|assumption|exact Wg _|exact Inv.tk (by assumption)|exact Inv.tkl (by assumption) (by assumption)|lia) :
  Inv X pins σ (upd H a o) { s with heap:=h',toks:=t' }:=I.un (Un.laid k hp (I.hok.fresh hp)) (I.hok.laid k hp new)
theorem Inv.write {x e:Addr} {o:HO} {t':Nat} (I:Inv X pins σ H s) (mu:JB (H x)) (he:e=x∨H e=some (.own x)) (k:∀b u,b≠e->s.heap.get? b=some u->h'.get? b=some u) (heo:∃u,h'.get? e=some u)
  (new:ObjOk X.prog X.w (upd H x o) h' x o) (ht:0<t':=by first|assumption|exact Wg _|exact Inv.tk (by assumption)|exact Inv.tkl (by assumption) (by assumption)|lia):Inv X pins σ (upd H x o) { s with heap:=h',toks:=t' }:=I.un (Un.write mu he k heo) (I.hok.write mu he k heo new)
theorem Inv.weak {σ':List (Option V)} (I:Inv X pins σ H s) (hl:σ'.length=σ.length) (w:∀(i:Nat) v,σ'[i]?=some (some v)->σ[i]?=some (some v)):Inv X pins σ' H s :=
 ⟨I.ok,I.os,I.bare,I.base,let ⟨m,hn,hl'⟩:=I.loc;⟨m,hn,fun i x v e1 e2 e3=>hl' i x v e1 (w i v e2) e3⟩,I.cell,I.free,I.freeC,I.pin,I.hok,hl.trans I.len,I.tk⟩
theorem Inv.pins_of {pins':List (Addr×Obj)} (I:Inv X pins σ H s) (h:∀p∈pins',s.heap.get? p.1=some p.2/\H p.1=none/\p.1≠X.env.locals/\p.1∉X.fs/\∀v,p.2.data≠.cell v):Inv X pins' σ H s :=
 ⟨I.ok,I.os,I.bare,I.base,I.loc,I.cell,I.free,I.freeC,fun p hp=>(Zc.mp hp).elim (fun z=>I.pin p (Zd _ z)) (h p),I.hok,I.len,I.tk⟩
theorem oX {N:List Str} (hN:N.Nodup) {i j:Nat} {x:Str} (a:N[i]?=some x) (b:N[j]?=some x):i=j:=by
 obtain⟨h1,e1⟩:=Xd.mp a;obtain⟨h2,e2⟩:=Xd.mp b;exact(List.getElem_inj hN).mp (e1.trans e2.symm)
theorem mX {M:Model} {A:Around} {E:Value->Shared->Prop} {i:Nat} {x:Str} {v:V} {u:Value} {Q:Unit->Shared->Prop} (I:Inv X pins σ H s) (hN:X.N.Nodup) (hi:X.N[i]?=some x) (hx:Loc X.env.scope x) (r:RelV v u)
  (h:∀s',Inv X pins (σ.set i (some v)) H s'->(∃a,Heap.SameBut a s.heap s'.heap/\(a=X.env.locals∨X.env.cells.lookup x=some a))->(∃m,s'.heap.Ns X.env.locals m/\Look X.env s'.heap m x u)->Q () s') (hf:X.fn x=true∨X.env.scope.names.lookup x=some .local:=by first|exact .inl rfl|exact .inr rfl|assumption):wpAny M A (storeName X.env x u) Q E s:=by
 obtain⟨m,hn,hl⟩:=id I.loc;have hcls:(X.env.scope.kind == .class||(X.env.scope.kind == .module&&X.env.locals != X.env.globals))=false:=by rw[I.ok.kind];rfl
 have hiσ:i<σ.length:=by rw[I.len];exact(Xd.mp hi).1
 have cne:=I.cne;have tracked:∀{a:Addr} {h':Heap},(∃o,s.heap.get? a=some o/\H a=none)->Heap.SameBut a s.heap h'->HOk X.prog X.w H h':=fun {a h'} ha hs b ob e=>by
  obtain⟨_,_,hfree⟩:=ha;refine(I.hok b ob e).stay (fun c w' hc q=>(hs.2 c ?_).trans q) (fun _ q=>q) fun _ _ q=>q;rintro rfl;rcases hc with rfl|hc
  ·rw[hfree]at e;cases e
  ·rw[hfree]at hc;cases hc
 rcases hx with hk|hk
 ·refine wpAny_storeName_local hk hn (fun h' hn' hs=>?_) hcls;obtain⟨oL,_,_,hoL,_⟩:=id hn;refine h _ ⟨I.ok,I.os,I.bare,⟨fun b o e n hb hx=>?_,fun b o e n hb hx=>?_,I.base.free,fun b o e hx=>?_,I.base.tups,I.base.frzs,I.base.tbls⟩,⟨_,hn',fun j y v' e1 e2 e3=>?_⟩,fun y c e=>?_,I.free,I.freeC,fun p hp=>?_,tracked ⟨oL,hoL,I.free⟩ hs,by simpa using I.len,Wg _⟩ ⟨_,hs,.inl rfl⟩ ⟨_,hn',.inl ⟨hk,by simp⟩⟩
  ·exact(hs.2 b (Vf (Vb (Ad e) I.ok.above))).trans (I.base.keep b o e n hb hx)
  ·obtain⟨sl,e1⟩:=I.base.slot b o e n hb hx;exact⟨sl,(hs.2 b (Vf (Vb (Ad e) I.ok.above))).trans e1⟩
  ·obtain⟨o',e1⟩:=I.base.there b o e hx;exact⟨o',(hs.2 b (Vf (Vb (Ad e) I.ok.above))).trans e1⟩
  ·by_cases hj:j=i
   ·subst hj;rw[hi]at e1;cases e1;rw[Wm hiσ]at e2;cases e2;exact⟨u,r,.inl ⟨hk,by simp⟩⟩
   ·rw[Yl (Am hj)]at e2;obtain⟨u',r',q⟩:=hl j y v' e1 e2 e3;refine⟨u',r',?_⟩;rcases q with⟨k,e⟩|⟨k,c,e,z⟩
    ·refine .inl ⟨k,?_⟩;have:y≠x:=fun e=>hj (oX hN e1 (e ▸ hi));simp[this,e]
    ·exact .inr ⟨k,c,e,z.sameBut hs (cne y c e)⟩
  ·obtain⟨w',z⟩:=I.cell y c e;exact⟨w',z.sameBut hs (cne y c e)⟩
  ·obtain⟨e,n,ne,nf,d⟩:=I.pin p hp;exact⟨(hs.2 p.1 ne).trans e,n,ne,nf,d⟩
 ·have hfn:X.fn x=true:=by
   rcases hf with z|z
   ·exact z
   ·rw[z]at hk;cases hk
  obtain⟨c,hc⟩:=I.ok.has x (.inl hk);obtain⟨w',z⟩:=I.cell x c hc;refine wpAny_storeName_cell I.ok.kind hk hc z (fun h' hc' hs=>?_);obtain⟨oc,hoc,hocd⟩:=id z;refine h { s with heap:=h' } ⟨I.ok,I.os,I.bare,⟨fun b o e n hb hx=>?_,fun b o e n hb hx=>?_,I.base.free,fun b o e hx=>?_,I.base.tups,I.base.frzs,I.base.tbls⟩,⟨m,hn.sameBut hs (Am (cne x c hc)),fun j y v' e1 e2 e3=>?_⟩,fun y c' e=>?_,I.free,I.freeC,fun p hp=>?_,tracked ⟨oc,hoc,I.freeC x c hc⟩ hs,by simpa using I.len,I.tk⟩ ⟨c,hs,.inr hc⟩ ⟨m,hn.sameBut hs (Am (cne x c hc)),.inr ⟨.inl hk,c,hc,hc'⟩⟩
  ·exact(hs.2 b (Vf (Vb (Ad e) (I.ok.cab x c hfn hc)))).trans (I.base.keep b o e n hb hx)
  ·obtain⟨sl,e1⟩:=I.base.slot b o e n hb hx;exact⟨sl,(hs.2 b (Vf (Vb (Ad e) (I.ok.cab x c hfn hc)))).trans e1⟩
  ·obtain⟨o',e1⟩:=I.base.there b o e hx;exact⟨o',(hs.2 b (Vf (Vb (Ad e) (I.ok.cab x c hfn hc)))).trans e1⟩
  ·by_cases hj:j=i
   ·subst hj;rw[hi]at e1;cases e1;rw[Wm hiσ]at e2;cases e2;exact⟨u,r,.inr ⟨.inl hk,c,hc,hc'⟩⟩
   ·rw[Yl (Am hj)]at e2;obtain⟨u',r',q⟩:=hl j y v' e1 e2 e3;refine⟨u',r',?_⟩;rcases q with q|⟨k,c',e,z'⟩
    ·exact .inl q
    ·refine .inr ⟨k,c',e,z'.sameBut hs ?_⟩;rintro rfl;exact hj (oX hN e1 (I.ok.inj _ _ _ e hc ▸ hi))
  ·by_cases hcc:c'=c
   ·subst hcc;exact⟨_,hc'⟩
   ·obtain⟨w2,z2⟩:=I.cell y c' e;exact⟨w2,z2.sameBut hs hcc⟩
  ·obtain⟨e,n,ne,nf,d⟩:=I.pin p hp;refine⟨(hs.2 p.1 ?_).trans e,n,ne,nf,d⟩;intro q;rw[q,hoc]at e;have q':oc=p.2:=Option.some.inj e;exact d w' (by rw[← q'];exact hocd)
theorem oY {M:Model} {A:Around} {E:Value->Shared->Prop} {i:Nat} {x:Str} {v:V} {u:Value} {Q:Unit->Shared->Prop} (I:Inv X pins σ H s) (hN:X.N.Nodup) (hi:X.N[i]?=some x) (hx:Loc X.env.scope x) (r:RelV v u)
  (h:∀s',Inv X pins (σ.set i (some v)) H s'->Q () s') (hf:X.fn x=true∨X.env.scope.names.lookup x=some .local:=by first|exact .inl rfl|exact .inr rfl|assumption):wpAny M A (storeName X.env x u) Q E s :=
 mX I hN hi hx r (fun s' I' _ _=>h s' I') hf
theorem Inv.call' {s':Shared} {ch:List Addr} (I:Inv X pins σ H s) (ho:s'.os=s.os) (u:Un (g5 X.stack) ch H H' s.heap s'.heap) (hok:HOk X.prog X.w H' s'.heap) (hg:AllBare s'.gens)
  (hch:∀b∈ch,(b∈X.ex∨X.s₀.heap.objs.size<=b)/\b≠X.env.locals/\(∀x c,X.env.cells.lookup x=some c->c≠b)/\∀p∈X.pn++pins,p.1≠b) (ht:0<s'.toks):Inv X pins σ H' s':=by
 obtain⟨h',g',d',t',o'⟩:=s';have e:o'=s.os:=ho;subst e;exact I.call (g':=g') (t':=t') (d':=d') u hok hg hch ht
end
abbrev XK:=Value->Option Addr->Hp->Prop
abbrev St:=List (Option V)
abbrev VK:=V->Hp->Prop
abbrev TE:=St->Hp->VK->Prop
abbrev TT:=St->Hp->(Bool->Hp->Prop)->Prop
abbrev TA:=St->Hp->(List V->Hp->Prop)->Prop
structure Ends where
 nx:St->Hp->Prop
 rt:VK
 bk:St->Hp->Prop:=fun _ _=>False
 ct:St->Hp->Prop:=fun _ _=>False
abbrev TS:=Ends->St->Hp->Prop
inductive EP (X:Cx) (pins:List (Addr×Obj)) (σ:St) (Q:VK) (u:Value) (s':Shared):Prop
 | mk (v:V) (H':Hp) (I:Inv X pins σ H' s') (r:RelV v u) (q:Q v H')
def TP (X:Cx) (pins:List (Addr×Obj)) (σ:St) (Q:Bool->Hp->Prop) (b:Bool) (s':Shared):Prop:=∃H',Inv X pins σ H' s'/\Q b H'
inductive AP (X:Cx) (pins:List (Addr×Obj)) (σ:St) (Q:List V->Hp->Prop) (us:List Value) (s':Shared):Prop
 | mk (vs:List V) (H':Hp) (I:Inv X pins σ H' s') (r:Vals vs us) (q:Q vs H')
def SP (X:Cx) (pins:List (Addr×Obj)) (D:Ends) (f:Flow) (s':Shared):Prop :=
 match f with
 | .next=>∃σ' H',Inv X pins σ' H' s'/\D.nx σ' H'
 | .brk=>∃σ' H',Inv X pins σ' H' s'/\D.bk σ' H'
 | .cont=>∃σ' H',Inv X pins σ' H' s'/\D.ct σ' H'
 | .ret u=>∃v σ' H',Inv X pins σ' H' s'/\RelV v u/\D.rt v H'
def PE (X:Cx) (e:Expr) (t:TE):Prop :=
 ∀(pins:List (Addr×Obj)) (s:Shared) (σ:St) (H:Hp) (Q:VK),Inv X pins σ H s->t σ H Q->wpAny (model X.prog X.w) X.A (eval e X.env) (EP X pins σ Q) X.xe s
def PT (X:Cx) (e:Expr) (t:TT):Prop :=
 ∀(pins:List (Addr×Obj)) (s:Shared) (σ:St) (H:Hp) (Q:Bool->Hp->Prop),Inv X pins σ H s->t σ H Q->wpAny (model X.prog X.w) X.A (isTrue e X.env (eval e X.env)) (TP X pins σ Q) X.xe s
def PW (X:Cx) (e:Expr) (t:TT):Prop :=
 ∀(whole:Sem Value) (pins:List (Addr×Obj)) (s:Shared) (σ:St) (H:Hp) (Q:Bool->Hp->Prop),Inv X pins σ H s->t σ H Q->wpAny (model X.prog X.w) X.A (isTrue e X.env whole) (TP X pins σ Q) X.xe s
theorem PW.pt {X:Cx} {e:Expr} {t:TT} (h:PW X e t):PT X e t:=h _
def PA (X:Cx) (es:List Expr) (t:TA):Prop :=
 ∀(pos:Pos) (pins:List (Addr×Obj)) (s:Shared) (σ:St) (H:Hp) (Q:List V->Hp->Prop),Inv X pins σ H s->t σ H Q->wpAny (model X.prog X.w) X.A (spliced (backTo pos (starEach es X.env))) (AP X pins σ Q) X.xe s
def PS (X:Cx) (st:Stmt) (t:TS):Prop :=
 ∀(pins:List (Addr×Obj)) (s:Shared) (σ:St) (H:Hp) (D:Ends),Inv X pins σ H s->t D σ H->wpAny (model X.prog X.w) X.A (exec st X.env) (SP X pins D) X.xe s
def PSs (X:Cx) (st:List Stmt) (t:TS):Prop :=
 ∀(pins:List (Addr×Obj)) (s:Shared) (σ:St) (H:Hp) (D:Ends),Inv X pins σ H s->t D σ H->wpAny (model X.prog X.w) X.A (execs st X.env) (SP X pins D) X.xe s
theorem dI {α:Type} {t:Sem α} {Q Q':α->Shared->Prop} {M:Model} {A:Around} {E:Value->Shared->Prop} {s:Shared} (h:wpAny M A t Q E s) (hQ:∀a s,Q a s->Q' a s):wpAny M A t Q' E s:=Al h hQ fun _ _ x=>x
end L2
namespace L2
open PySem PySem.Spec PyProof.Rows
section
variable {X:Cx}
def tR (i:Nat):TE:=fun σ H Q=>∃v,σ[i]?=some (some v)/\Q v H
def tC (v:V):TE:=fun _ H Q=>Q v H
theorem GX {i:Nat} {x:Str} {pos:Pos} (hN:X.N[i]?=some x) (hv:LJ X.env.scope x) (hd:(x == ("__debug__":Str))=false:=by decide) (hcd:(x == ("__classdict__":Str))=false:=by decide):PE X (.Name x pos) (tR i):=by
 intro pins s σ H Q I h;obtain⟨v,e,h⟩:=h;obtain⟨m,hn,hl⟩:=I.loc;obtain⟨u,r,l⟩:=hl i x v hN e hv;have fin:EP X pins σ Q u s:=⟨v,H,I,r,h⟩;rcases l with⟨hk,hm⟩|⟨hk,c,hc,hcell⟩
 ·exact Bd (wpAny_loadName_local I.ok.kind hk hn hm fin) hd
 ·rcases hk with hk|hk
  ·exact Bd (wpAny_loadName_cell I.ok.kind hk hc hcell fin) hd
  ·exact Bd (wpAny_loadName_free I.ok.kind hk hc hcell fin hcd) hd
theorem am {i j pos}:PE X (.Constant (.int i) j pos) (tC (.int i)):=fun _ _ _ H _ I h=>wpAny_Constant_int ⟨.int i,H,I.tok _,⟨_,rfl⟩,h⟩
theorem kL {b j pos}:PE X (.Constant (.bool b) j pos) (tC (.bl b)):=fun _ _ _ H _ I h=>Constant_bool ⟨.bl b,H,I,rfl,h⟩
theorem ve {j pos}:PE X (.Constant .none j pos) (tC .non):=fun _ _ _ H _ I h=>Constant_none ⟨.non,H,I,rfl,h⟩
theorem az {x j pos}:PE X (.Constant (.str x) j pos) (tC (.str x)):=fun _ _ _ H _ I h=>AD ⟨.str x,H,I.tok _,⟨_,rfl⟩,h⟩
def Gl (X:Cx) (x:Str):Prop:=X.env.kindOf x=some .globalImplicit
theorem gj {E:Value->Shared->Prop} {pins:List (Addr×Obj)} {s:Shared} {σ:St} {H:Hp} {x:Str} {u:Value} {pos:Pos} {Q:Value->Shared->Prop} (I:Inv X pins σ H s) (hg:Gl X x) (hm:X.mg x=some u) (h:Q u s)
  (hd:(x == ("__debug__":Str))=false:=by decide):wpAny (model X.prog X.w) X.A (eval (.Name x pos) X.env) Q E s :=
 BS I.ok.kind hg (Calls.loadGlobal_global (by rw[I.ok.glob];exact I.mod.glob.keeps I.bk) hm h) hd
theorem rE {E:Value->Shared->Prop} {pins:List (Addr×Obj)} {s:Shared} {σ:St} {H:Hp} {x:Str} {u:Value} {pos:Pos} {Q:Value->Shared->Prop} (I:Inv X pins σ H s) (hg:Gl X x) (hm:X.mg x=none) (hv:bootBuiltins x=some u) (h:Q u s)
  (hn:x≠"__name__":=by decide) (hd:(x == ("__debug__":Str))=false:=by decide):wpAny (model X.prog X.w) X.A (eval (.Name x pos) X.env) Q E s:=by
 obtain⟨mb,h1,h2⟩:=I.mod.blt;exact BS I.ok.kind hg (Calls.loadGlobal_builtin (by rw[I.ok.glob];exact I.mod.glob.keeps I.bk) hm (by rw[I.ok.blt];exact h1.keeps I.bk) ((h2 x hn).trans hv) h) hd
theorem rF {x:Str} {v:V} {u:Value} {pos:Pos} (hg:Gl X x) (hm:X.mg x=some u) (r:RelV v u) (hd:(x == ("__debug__":Str))=false:=by decide):PE X (.Name x pos) (tC v) :=
 fun _ _ _ H _ I h=>gj I hg hm ⟨v,H,I,r,h⟩ hd
theorem DB {x:Str} {v:V} {u:Value} {pos:Pos} (hg:Gl X x) (hm:X.mg x=none) (hv:bootBuiltins x=some u) (r:RelV v u) (hn:x≠"__name__":=by decide) (hd:(x == ("__debug__":Str))=false:=by decide):PE X (.Name x pos) (tC v) :=
 fun _ _ _ H _ I h=>rE I hg hm hv ⟨v,H,I,r,h⟩ hn hd
variable {a b:Expr} {ta tb:TE} {pos:Pos}
def tB (t:TE):TT:=fun σ H Q=>t σ H fun x H1=>∃c,x=.bl c/\Q c H1
theorem eE {e:Expr} {t:TE} (h:PE X e t) (he:∀whole,isTrue e X.env whole=(do let v ← whole;standAt e.pos;holding [v] (truthy v)):=by intro _;rfl):PT X e (tB t):=by
 intro pins s σ H Q I hw;refine isTrue_plain (dI (h pins s σ H _ I hw) fun v s1 zz9=>?_) (he _);obtain⟨x,H1,I1,r1,q1⟩:=zz9;obtain⟨d,rfl,q⟩:=q1;cases r1;exact Ax ⟨H1,I1,q⟩
variable {tA tB':TT} {rest:List Expr}
def JC (t u:TT):TT:=fun σ H Q=>t σ H fun c H1=>if c=true then u σ H1 Q else Q false H1
def Mb (t u:TT):TT:=fun σ H Q=>t σ H fun c H1=>if c=true then Q true H1 else u σ H1 Q
def JD (t:TT):TT:=fun σ H Q=>t σ H fun c H1=>Q (!c) H1
theorem rG (ha:PT X a tA):PW X (.BoolOp .And [a] pos) tA:=by
 intro wh pins s σ H Q I h;refine isTrue_and (dI (ha pins s σ H Q I h) fun c s1 e=>?_);cases c with
 | true=>exact isTrue_and_nil e
 | false=>exact e
theorem mY (ha:PT X a tA):PW X (.BoolOp .Or [a] pos) tA:=by
 intro wh pins s σ H Q I h;refine isTrue_or (dI (ha pins s σ H Q I h) fun c s1 e=>?_);cases c with
 | false=>exact isTrue_or_nil e
 | true=>exact e
theorem vf (ha:PT X a tA) (hb:PW X (.BoolOp .And (b::rest) pos) tB'):PW X (.BoolOp .And (a::b::rest) pos) (JC tA tB'):=by
 intro wh pins s σ H Q I h;refine isTrue_and (dI (ha pins s σ H _ I h) fun c s1 zz9=>?_);obtain⟨H1,I1,q1⟩:=zz9;cases c with
 | true=>exact hb wh pins s1 σ H1 Q I1 q1
 | false=>exact⟨H1,I1,q1⟩
theorem nO (ha:PT X a tA) (hb:PW X (.BoolOp .Or (b::rest) pos) tB'):PW X (.BoolOp .Or (a::b::rest) pos) (Mb tA tB'):=by
 intro wh pins s σ H Q I h;refine isTrue_or (dI (ha pins s σ H _ I h) fun c s1 zz9=>?_);obtain⟨H1,I1,q1⟩:=zz9;cases c with
 | true=>exact⟨H1,I1,q1⟩
 | false=>exact hb wh pins s1 σ H1 Q I1 q1
theorem jw (ha:PT X a tA):PT X (.UnaryOp .Not a pos) (JD tA):=by
 intro pins s σ H Q I h;exact isTrue_not (ha pins s σ H (fun c H1=>Q (!c) H1) I h)
def FC (ta tb:TE):TE:=fun σ H Q=>ta σ H fun x H1=>∃c,x=.bl c/\if c=true then tb σ H1 Q else Q (.bl false) H1
def FD (ta:TE):TE:=fun σ H Q=>ta σ H fun x H1=>∃c,x=.bl c/\Q (.bl (!c)) H1
theorem la {op} {t:TE} (h:PE X a t):PE X (.BoolOp op [a] pos) t:=fun pins s σ H Q I hw=>BoolOp_one (h pins s σ H Q I hw)
theorem i6 (ha:PE X a ta) (hb:PE X (.BoolOp .And (b::rest) pos) tb):PE X (.BoolOp .And (a::b::rest) pos) (FC ta tb):=by
 intro pins s σ H Q I h;refine BoolOp_and (dI (ha pins s σ H _ I h) fun v s1 zz9=>?_);obtain⟨x,H1,I1,r1,q1⟩:=zz9;obtain⟨c,rfl,q1⟩:=q1;cases r1;refine Ax ?_;cases c with
 | true=>exact hb pins s1 σ H1 Q I1 q1
 | false=>exact⟨.bl false,H1,I1,rfl,q1⟩
theorem zd (ha:PE X a ta):PE X (.UnaryOp .Not a pos) (FD ta):=by
 intro pins s σ H Q I h;refine UnaryOp_ (dI (ha pins s σ H _ I h) fun v s1 zz9=>?_);obtain⟨x,H1,I1,r1,q1⟩:=zz9;obtain⟨c,rfl,q1⟩:=q1;cases r1;exact not_of (Ax ⟨.bl (!c),H1,I1,rfl,q1⟩)
def Mc (t:TT) (ta tb:TE):TE:=fun σ H Q=>t σ H fun c H1=>if c=true then ta σ H1 Q else tb σ H1 Q
theorem ze {c:Expr} (hc:PT X c tA) (ha:PE X a ta) (hb:PE X b tb):PE X (.IfExp c a b pos) (Mc tA ta tb):=by
 intro pins s σ H Q I h;refine wpAny_IfExp (dI (hc pins s σ H _ I h) fun d s1 zz9=>?_);obtain⟨H1,I1,q1⟩:=zz9;cases d with
 | true=>exact ha pins s1 σ H1 Q I1 q1
 | false=>exact hb pins s1 σ H1 Q I1 q1
end
end L2
namespace L2
open PySem PySem.Spec PyProof.Rows
def i5 (K:PySem.W.Frag) (H:Hp) (a:Addr) (xs:List V):Prop :=
 Rd H a (.lst xs) ∨
  ∃(o:Obj) (its:Array Value) (n:Nat),K.lookup a=some o/\o.cls=.type "list"/\o.dict=none/\o.data=.seq its n/\its.size<=sizeLine/\Vals xs its.toList
def mV (K:PySem.W.Frag) (H:Hp) (a:Addr) (xs:List V):Prop :=
 Rd H a (.tup xs) ∨
  ∃(o:Obj) (its:Array Value) (n:Nat),K.lookup a=some o/\o.cls=.type "tuple"/\o.data=.seq its n/\its.size<=sizeLine/\Vals xs its.toList
def LK:Value->Option V
 | .none=>some .non
 | .bool b=>some (.bl b)
 | .int i _=>some (.int i)
 | .str x _=>some (.str x)
 | .bytes b _=>some (.byt b)
 | .float b _=>some (.flt b)
 | .ref a=>some (.ref a)
 | .type n=>some (.ty n)
 | _=>none
theorem RelV.abs {x:V} {u:Value} (r:RelV x u):LK u=some x:=by
 cases x with
 | non=>cases r;rfl
 | bl _=>cases r;rfl
 | int _=>obtain⟨t,rfl⟩:=r;rfl
 | str _=>obtain⟨t,rfl⟩:=r;rfl
 | byt _=>obtain⟨t,rfl⟩:=r;rfl
 | flt _=>obtain⟨t,rfl⟩:=r;rfl
 | ref _=>cases r;rfl
 | ty _=>cases r;rfl
theorem RelV.inj {x y:V} {u:Value} (r:RelV x u) (q:RelV y u):x=y:=Option.some.inj (r.abs.symm.trans q.abs)
theorem Vals.inj:∀{xs ys:List V} {us:List Value},Vals xs us->Vals ys us->xs=ys
 | _,_,_,.nil,.nil=>rfl
 | _,_,_,.cons r t,.cons r' t'=>by rw[r.inj r',Vals.inj t t']
section
variable {X:Cx} {pins:List (Addr×Obj)} {σ:St} {H:Hp} {s:Shared} {a:Addr} {xs ys:List V}
theorem Inv.list (I:Inv X pins σ H s) (h:i5 X.K H a xs):∃its:List Value,Vals xs its/\PlainL s.heap a its.toArray/\xs.length<=sizeLine:=by
 rcases h with h|⟨o,its,n,hk,hc,hd,hs,hz,r⟩
 ·obtain⟨z,its,n,r,e⟩:=h.ok I.hok;exact⟨its,r,⟨_,n,e,rfl,rfl,rfl⟩,z⟩
 ·refine⟨its.toList,r,⟨o,n,I.kIn a o hk,hc,hd,by simpa using hs⟩,?_⟩
  have e:=r.length;simp only[Wh]at e;lia
theorem Inv.tuple (I:Inv X pins σ H s) (h:mV X.K H a xs):∃its:List Value,Vals xs its/\IsTup s.heap a its.toArray/\xs.length<=sizeLine:=by
 rcases h with h|⟨o,its,n,hk,hc,hs,hz,r⟩
 ·obtain⟨z,its,r,p⟩:=h.ok I.hok;exact⟨its,r,p,z⟩
 ·refine⟨its.toList,r,⟨o,I.kIn a o hk,hc,n,by simpa using hs⟩,?_⟩
  have e:=r.length;simp only[Wh]at e;lia
theorem Inv.list_inj (I:Inv X pins σ H s) (h:i5 X.K H a xs) (h':i5 X.K H a ys):xs=ys:=by
 obtain⟨its,r,⟨o,n,e,_,_,d⟩,_⟩:=I.list h;obtain⟨its',r',⟨o',n',e',_,_,d'⟩,_⟩:=I.list h';rw[e]at e';cases e';rw[d]at d';injection d' with d1 _;have:its=its':=by simpa using congrArg Array.toList d1
 subst this;exact r.inj r'
theorem Inv.tuple_inj (I:Inv X pins σ H s) (h:mV X.K H a xs) (h':mV X.K H a ys):xs=ys:=by
 obtain⟨its,r,⟨o,e,_,n,d⟩,_⟩:=I.tuple h;obtain⟨its',r',⟨o',e',_,n',d'⟩,_⟩:=I.tuple h';rw[e]at e';cases e';rw[d]at d';injection d' with d1 _;have:its=its':=by simpa using congrArg Array.toList d1
 subst this;exact r.inj r'
end
abbrev Cx.wish (X:Cx) (E:Value->Shared->Prop):Cx:={ X with xe:=E }
abbrev Cx.nox (X:Cx):Cx:=X.wish fun _ _=>False
theorem Cx.Ok.wish {X:Cx} (ok:X.Ok) (E:Value->Shared->Prop):(X.wish E).Ok :=
 ⟨ok.mod,ok.kind,ok.glob,ok.blt,ok.above,ok.inj,ok.has,ok.cab,ok.hd,ok.frames,ok.stk,ok.exf,ok.bs,ok.bsz,ok.noex,ok.exfs,ok.funs,ok.frf⟩
theorem Cx.Ok.unwish {X:Cx} {E:Value->Shared->Prop} (ok:(X.wish E).Ok):X.Ok :=
 ⟨ok.mod,ok.kind,ok.glob,ok.blt,ok.above,ok.inj,ok.has,ok.cab,ok.hd,ok.frames,ok.stk,ok.exf,ok.bs,ok.bsz,ok.noex,ok.exfs,ok.funs,ok.frf⟩
section
variable {X:Cx} {pins:List (Addr×Obj)} {σ:St} {H:Hp} {s:Shared} {E:Value->Shared->Prop}
theorem Inv.wish (I:Inv X pins σ H s) (E:Value->Shared->Prop):Inv (X.wish E) pins σ H s:=⟨I.ok.wish E,I.os,I.bare,I.base,I.loc,I.cell,I.free,I.freeC,I.pin,I.hok,I.len,I.tk⟩
theorem Inv.unwish (I:Inv (X.wish E) pins σ H s):Inv X pins σ H s:=⟨I.ok.unwish,I.os,I.bare,I.base,I.loc,I.cell,I.free,I.freeC,I.pin,I.hok,I.len,I.tk⟩
theorem SP.unwish {D:Ends} {f:Flow} {s':Shared} (h:SP (X.wish E) pins D f s'):SP X pins D f s':=by
 cases f with
 | next=>obtain⟨σ',H',I,q⟩:=h;exact⟨σ',H',I.unwish,q⟩
 | brk=>obtain⟨σ',H',I,q⟩:=h;exact⟨σ',H',I.unwish,q⟩
 | cont=>obtain⟨σ',H',I,q⟩:=h;exact⟨σ',H',I.unwish,q⟩
 | ret u=>obtain⟨v,σ',H',I,r,q⟩:=h;exact⟨v,σ',H',I.unwish,r,q⟩
theorem PSs.nox {st:List Stmt} {t:TS} (h:PSs X.nox st t):PSs X st t:=fun pins s σ H D I hw =>
 Al (h pins s σ H D (I.wish _) hw) (fun _ _ q=>q.unwish) fun _ _ z=>False.elim z
end
section
variable {X:Cx} {st:Stmt} {rest:List Stmt} {t u:TS} {e:Expr} {te:TE} {pos:Pos}
def zf:TS:=fun D σ H=>D.nx σ H
def DC (t u:TS):TS:=fun D σ H=>t { D with nx:=u D } σ H
theorem bz:PSs X [] zf:=fun _ _ σ H _ I h=>Aw ⟨σ,H,I,h⟩
theorem ai (h1:PS X st t) (h2:PSs X rest u):PSs X (st::rest) (DC t u):=by
 intro pins s σ H D I h;refine A9 (dI (h1 pins s σ H { D with nx:=u D } I h) fun f s1 q=>?_);cases f with
 | next =>
  obtain⟨σ',H',I',q⟩:=q;exact h2 pins s1 σ' H' D I' q
 | ret v=>exact q
 | brk=>exact q
 | cont=>exact q
theorem aw (h1:PS X st t):PSs X [st] t:=by
 intro pins s σ H D I h;refine A9 (dI (h1 pins s σ H D I h) fun f s1 q=>?_);cases f with
 | next=>exact Aw q
 | ret v=>exact q
 | brk=>exact q
 | cont=>exact q
theorem Inv.quiet {pins:List (Addr×Obj)} {σ:St} {H:Hp} {s:Shared} (I:Inv X pins σ H s):interactive X.env=false:=by simp[interactive,I.ok.kind]
def zg (te:TE):TS:=fun D σ H=>te σ H fun _ H1=>D.nx σ H1
theorem dj (he:PE X e te) (hs:swapsWith e none pos.line X.env=pure false:=by rfl):PS X (.Expr e pos) (zg te):=by
 intro pins s σ H D I h;exact wpAny_Expr_any (dI (he pins s σ H _ I h) fun v s1 ⟨x,H1,I1,r1,q1⟩=>⟨σ,H1,I1,q1⟩) I.quiet hs
def GY (te:TE):TS:=fun D σ H=>te σ H D.rt
theorem aZ (he:PE X e te):PS X (.Return (some e) pos) (GY te):=by
 intro pins s σ H D I h;exact wpAny_Return_some (dI (he pins s σ H _ I h) fun v s1 ⟨x,H1,I1,r1,q1⟩=>⟨x,σ,H1,I1,r1,q1⟩)
def DD (c:TT) (t u:TS):TS:=fun D σ H=>c σ H fun b H1=>if b=true then t D σ H1 else u D σ H1
theorem b8 {c:Expr} {a b:List Stmt} {tc:TT} (hc:PT X c tc) (ha:PSs X a t) (hb:PSs X b u):PS X (.If c a b pos) (DD tc t u):=by
 intro pins s σ H D I h;refine wpAny_If (dI (hc pins s σ H _ I h) fun d s1 zz9=>?_);obtain⟨H1,I1,q1⟩:=zz9;cases d with
 | true=>exact ha pins s1 σ H1 D I1 q1
 | false=>exact hb pins s1 σ H1 D I1 q1
def zh:TS:=fun _ _ _=>False
theorem zi:PS X st zh:=fun _ _ _ _ _ _ h=>h.elim
end
abbrev TG:=V->St->Hp->(St->Hp->Prop)->Prop
abbrev FF:=List V->St->Hp->(St->Hp->Prop)->Prop
def PG (X:Cx) (target:Expr) (t:TG):Prop :=
 ∀(pins:List (Addr×Obj)) (s:Shared) (σ:St) (H:Hp) (v:V) (u:Value) (Q:St->Hp->Prop),Inv X pins σ H s->RelV v u->t v σ H Q ->
  wpAny (model X.prog X.w) X.A (assign target X.env u) (fun _ s'=>∃σ' H',Inv X pins σ' H' s'/\Q σ' H') X.xe s
def JE (X:Cx) (ts:List Expr) (t:FF):Prop :=
 ∀(pins:List (Addr×Obj)) (s:Shared) (σ:St) (H:Hp) (vs:List V) (us:List Value) (Q:St->Hp->Prop),Inv X pins σ H s->Vals vs us->t vs σ H Q ->
  wpAny (model X.prog X.w) X.A (assignInOrder ((assignEach ts X.env).map (·.2)) us) (fun _ s'=>∃σ' H',Inv X pins σ' H' s'/\Q σ' H') X.xe s
abbrev zj:=V->V->V->Hp->(Hp->Prop)->Prop
def GZ (X:Cx) (t:zj):Prop :=
 ∀(pins:List (Addr×Obj)) (s:Shared) (σ:St) (H:Hp) (o i v:V) (ov iv u:Value) (Q:Hp->Prop),Inv X pins σ H s->RelV o ov->RelV i iv->RelV v u->t o i v H Q ->
  wpAny (model X.prog X.w) X.A (setItem ov iv u) (fun _ s'=>∃H',Inv X pins σ H' s'/\Q H') X.xe s
section
variable {X:Cx} {pos:Pos}
def jr (i:Nat):TG:=fun v σ H Q=>Q (σ.set i (some v)) H
theorem wy {i:Nat} {x:Str} (hN:X.N.Nodup) (hi:X.N[i]?=some x) (hx:Loc X.env.scope x) (hf:X.fn x=true∨X.env.scope.names.lookup x=some .local:=by first|exact .inl rfl|exact .inr rfl|assumption):PG X (.Name x pos) (jr i):=by
 intro pins s σ H v u Q I r h;exact BE (oY I hN hi hx r (fun s' I'=>⟨_,H,I',h⟩) hf)
def JF:FF:=fun vs σ H Q=>vs=[]/\Q σ H
def FJ (t:TG) (u:FF):FF:=fun vs σ H Q=>∃v r,vs=v::r/\t v σ H fun σ' H'=>u r σ' H' Q
theorem DE:JE X [] JF:=by
 intro pins s σ H vs us Q I r h;obtain⟨e,h⟩:=h;subst e;cases r;exact assignInOrder_nil ⟨σ,H,I,h⟩
theorem tS {e:Expr} {es:List Expr} {t:TG} {u:FF} (h1:PG X e t) (h2:JE X es u)
  (hs:(assignEach (e::es) X.env).map (·.2)=assign e X.env::(assignEach es X.env).map (·.2):=by rfl):JE X (e::es) (FJ t u):=by
 intro pins s σ H vs us Q I r h;obtain⟨v,vr,e1,h⟩:=h;subst e1;cases r with
 | cons r rr =>
  rw[hs];refine assignInOrder_cons (dI (h1 pins s σ H _ _ _ I r h) fun _ s1 zz9=>?_);obtain⟨σ1,H1,I1,q1⟩:=zz9;exact h2 pins s1 σ1 H1 _ _ Q I1 rr q1
def G0 (K:PySem.W.Frag) (n:Nat) (t:FF):TG:=fun v σ H Q=>∃a xs,v=.ref a/\mV K H a xs/\xs.length=n/\t xs σ H Q
theorem G1 {es:List Expr} {k:Nat} {t:FF} {n:Nat} (hc:X.calm=true) (h:JE X es t)
  (hn:(assignEach es X.env).length=n:=by rfl) (hst:(assignEach es X.env).findIdx? (·.1)=none:=by rfl):PG X (.Tuple es k pos) (G0 X.K n t):=by
 intro pins s σ H v u Q I r hw;obtain⟨a,xs,e1,hq,hl,hw⟩:=hw;subst e1;cases r;obtain⟨its,rv,ht,hz⟩:=I.tuple hq;refine assign_Tuple_tuple (I.ok.hd hc) ht (by simp[hn,← hl,rv.length]) hst fun h' hx=>?_
 have I1:Inv X pins σ H { s with heap:=h' }:=I.kept (t':=s.toks) fun b o e=>hx b o (Vf (Ad e)) e;exact h pins _ σ H xs _ Q I1 (by simpa using rv) hw
def JG (to ti:TE) (t:zj):TG:=fun v σ H Q=>to σ H fun o H1=>ti σ H1 fun i H2=>t o i v H2 fun H3=>Q σ H3
theorem lb {o i:Expr} {to ti:TE} {t:zj} (ho:PE X o to) (hi:PE X i ti) (hs:GZ X t)
  (ha:∀v,assign (.Subscript o i pos) X.env v=(do
   let ov ← holding [v] (eval o X.env)
   let iv ← holding [v,ov] (eval i X.env)
   standAt pos
   holding [v,ov,iv] (setItem ov iv v)
   release [v,ov,iv] []):=by intro _;rfl):PG X (.Subscript o i pos) (JG to ti t):=by
 intro pins s σ H v u Q I r h;rw[ha];refine Aa (A6 (dI (ho pins s σ H _ I h) fun ov s1 zz9=>?_));obtain⟨x,H1,I1,r1,q1⟩:=zz9;refine Aa (A6 (dI (hi pins s1 σ H1 _ I1 q1) fun iv s2 zz9=>?_));obtain⟨y,H2,I2,r2,q2⟩:=zz9;refine Aa (AO (Aa (A6 (dI (hs pins s2 σ H2 x y v ov iv u _ I2 r1 r2 r q2) fun _ s3 zz9=>?_))));obtain⟨H3,I3,q3⟩:=zz9;exact wpAny_release ⟨σ,H3,I3,q3⟩
def rH (te:TE) (g:TG):TS:=fun D σ H=>te σ H fun x H1=>g x σ H1 D.nx
theorem jx {tg e:Expr} {te:TE} {g:TG} (he:PE X e te) (hg:PG X tg g) (hs:swapsWithSole [tg] e pos.line X.env=pure false:=by rfl) (hw:swappedStores [tg] e X.env=pure none:=by rfl)
  (h1:(assignEach [tg] X.env).map (·.2)=[assign tg X.env]:=by rfl):PS X (.Assign [tg] e pos) (rH te g):=by
 intro pins s σ H D I h;refine wpAny_Assign_stores (dI (he pins s σ H _ I h) fun v s1 zz9=>?_) hs hw;obtain⟨x,H1,I1,r1,q1⟩:=zz9;rw[h1];exact dI (hg pins s1 σ H1 x v _ I1 r1 q1) fun _ s2 q=>q
end
section
variable {X:Cx} {pos:Pos}
def zk (c:TT) (tb:TS):TS:=fun D σ H=>∃W:Nat->St->Hp->Prop,(∃m,W m σ H)/\∀m σ H,W m σ H ->
 c σ H fun b H1=>if b=true then ∃N:St->Hp->Prop,(∀σ' H',N σ' H'->∃m',m'<m/\W m' σ' H')/\tb { D with nx:=N,ct:=N,bk:=D.nx } σ H1 else D.nx σ H1
theorem tT {c:Expr} {body:List Stmt} {tc:TT} {tb:TS} (hp:PassesOwn (model X.prog X.w) X.A X.env X.xe) (hc:PT X c tc) (hb:PSs X body tb):PS X (.While c body [] pos) (zk tc tb):=by
 intro pins s σ H D I h;obtain⟨W,⟨m0,w0⟩,turn⟩:=h;refine wpAny_While (codeAny_whileLoop (fun n s'=>∃σ' H',Inv X pins σ' H' s'/\W n σ' H') ?_ m0 ⟨σ,H,I,w0⟩);rintro n s1 ⟨σ1,H1,I1,w1⟩;refine Ap hp (dI (hc pins s1 σ1 H1 _ I1 (turn n σ1 H1 w1)) fun b s2 zz9=>?_);obtain⟨H2,I2,q2⟩:=zz9;cases b with
 | true =>
  obtain⟨N,hN,q2⟩:=q2;rw[Af rfl];refine Ap hp (dI (hb pins s2 σ1 H2 _ I2 q2) fun f s3 q3=>?_);cases f with
  | next =>
   obtain⟨σ3,H3,I3,n3⟩:=q3;obtain⟨m',hm,w3⟩:=hN σ3 H3 n3;exact⟨m',hm,σ3,H3,I3,w3⟩
  | cont =>
   obtain⟨σ3,H3,I3,n3⟩:=q3;obtain⟨m',hm,w3⟩:=hN σ3 H3 n3;exact⟨m',hm,σ3,H3,I3,w3⟩
  | brk=>exact q3
  | ret v=>exact q3
 | false =>
  rw[Ah Yd];exact Aw ⟨σ1,H2,I2,q2⟩
end
structure It where
 go:Nat->Hp->Prop
 yld:Nat->Hp->V->Hp->Prop
 stop:Nat->Hp->Prop
def oZ (X:Cx) (pins:List (Addr×Obj)) (H:Hp) (b:Addr):Prop :=
 H b=none/\b≠X.env.locals/\b∉X.fs/\(b∈X.ex∨X.s₀.heap.objs.size<=b)/\(∀x c,X.env.cells.lookup x=some c->c≠b)/\∀p∈X.pn++pins,p.1≠b
theorem Inv.fpOk {X:Cx} {pins:List (Addr×Obj)} {σ:St} {H H':Hp} {s:Shared} {b:Addr} (I:Inv X pins σ H s) (hb:s.heap.objs.size<=b) (hn:H' b=none):oZ X pins H' b:=by
 refine⟨hn,Wl (Vb I.lt hb),I.nofs hb,.inr (Yc I.sz hb),fun x c e z=>?_,fun p hp z=>?_⟩
 ·obtain⟨v,q⟩:=I.cell x c e;exact absurd (Vb q.lt (by rw[z];exact hb)) (Ve _)
 ·exact absurd (Vb (Ad (I.pin p hp).1) (by rw[z];exact hb)) (Ve _)
structure Turn (P:Program) (w:World) (K:PySem.W.Frag) (tg:Expr) (J:It) (fp:List Addr) (it:Addr) (tn:Nat->Heap->Prop):Prop where
 mem:it∈fp
 obj:∀i h,tn i h->∀b∈fp,∃o,h.get? b=some o/\∀v,o.data≠.cell v
 keep:∀i h h',tn i h->(∀b∈fp,∀o,h.get? b=some o->h'.get? b=some o)->tn i h'
 item:∀(X:Cx),X.prog=P->X.w=w->X.K=K->X.calm=true->∀(i:Nat) (pins:List (Addr×Obj)) (s:Shared) (σ:St) (H:Hp) (E:Value->Shared->Prop),Inv X pins σ H s->(∀b∈fp,oZ X pins H b)->tn i s.heap->J.go i H ->
  wpAny (model P w) X.A (pyNext (.ref it)) (fun r s1=>∃u,r=some u /\
   wpAny (model P w) X.A (letOwnedTupleGo tg (.ref it) u) (fun _ s2=>∃x H',Inv X pins σ H' s2/\RelV x u/\J.yld i H x H'/\tn (i+1) s2.heap/\∀b∈fp,H' b=none) E s1) E s
 done:∀(X:Cx),X.prog=P->X.w=w->X.K=K->X.calm=true->∀(i:Nat) (pins:List (Addr×Obj)) (s:Shared) (σ:St) (H:Hp) (E:Value->Shared->Prop),Inv X pins σ H s->(∀b∈fp,oZ X pins H b)->tn i s.heap->J.stop i H ->
  wpAny (model P w) X.A (pyNext (.ref it)) (fun r s1=>r=none/\Inv X pins σ H s1) E s
 self:∀(A:Around) (i:Nat) (s:Shared) (Q:Value->Shared->Prop) (E:Value->Shared->Prop),tn i s.heap->Q (.ref it) s->wpAny (model P w) A (pyIter (.ref it)) Q E s
abbrev TI:=St->Hp->(It->Hp->Prop)->Prop
inductive PIE (X:Cx) (pins:List (Addr×Obj)) (σ:St) (tg:Expr) (R:It->Hp->Prop) (itv:Value) (s2:Shared):Prop
 | mk (it:Addr) (fp:List Addr) (tn:Nat->Heap->Prop) (J:It) (H':Hp) (e:itv=.ref it) (I:Inv X pins σ H' s2) (T:Turn X.prog X.w X.K tg J fp it tn) (t0:tn 0 s2.heap) (fo:∀b∈fp,oZ X pins H' b) (r:R J H')
def PI (X:Cx) (tg iter:Expr) (wi:TI):Prop :=
 ∀(pins:List (Addr×Obj)) (s:Shared) (σ:St) (H:Hp) (R:It->Hp->Prop),Inv X pins σ H s->wi σ H R ->
  wpAny (model X.prog X.w) X.A (eval iter X.env) (fun v s1=>wpAny (model X.prog X.w) X.A (pyIter v) (PIE X pins σ tg R) X.xe s1) X.xe s
theorem qD {M : Model} {A : Around} {E : Value → Shared → Prop} {s : Shared} {tg : Expr} {it : Addr} {u : Value} {o : Obj} {n : String} {vs : Array Value} {Q : Unit → Shared → Prop} (ho : s.heap.get? it = some o) (hc : o.cls = .type n) (hd : o.data = .fields vs)
    (hn : ["enumerate", "zip", "dict_itemiterator", "dict_reverseitemiterator", "odict_iterator", "itertools.zip_longest", "itertools.pairwise"].contains n = false) (hQ : Q () s) : wpAny M A (letOwnedTupleGo tg (.ref it) u) Q E s := by
  unfold letOwnedTupleGo;cases tg <;> first
    | exact Ai hQ
    | (cases u <;> first
        | exact Ai hQ
        | (refine Aa (wpAny_load ho ?_)
           rw [hc, hd];show wpAny M A (if (["enumerate", "zip", "dict_itemiterator", "dict_reverseitemiterator", "odict_iterator", "itertools.zip_longest", "itertools.pairwise"].contains n && vs[0]? == some (rawInt _)) = true then _ else _) Q E s;rw [Ah (by intro h; rw [hn, Bool.false_and] at h; cases h)]
           exact Ai hQ))
def Me (K:PySem.W.Frag) (a:Addr):It :=
 ⟨fun i H=>∃xs x,i5 K H a xs/\xs[i]?=some x,fun i H x H'=>H'=H/\∀xs,i5 K H a xs->xs[i]?=some x,fun i H=>∃xs,i5 K H a xs/\xs.length<=i⟩
def Mf (K:PySem.W.Frag) (a:Addr):It :=
 ⟨fun i H=>∃xs x,mV K H a xs/\xs[i]?=some x,fun i H x H'=>H'=H/\∀xs,mV K H a xs->xs[i]?=some x,fun i H=>∃xs,mV K H a xs/\xs.length<=i⟩
def LA (lo:Int) (n:Nat):It:=⟨fun i _=>i<n,fun i H x H'=>H'=H/\x=.int (lo+i),fun i _=>n<=i⟩
theorem ya {P:Program} {w:World} {K:PySem.W.Frag} {tg:Expr} (a it:Addr):Turn P w K tg (Me K a) [it] it (fun i h=>h.IsListIter it a i) where
 mem:=by simp
 obj:=fun i h st b hb=>by
  have e:b=it:=by simpa using hb
  subst e;obtain⟨o,e,c,d⟩:=st;exact⟨o,e,fun v z=>by rw[d]at z;cases z⟩
 keep:=fun i h h' st k=>st.at fun o e=>k it (by simp) o e
 item:=by
  intro X hP hw hK hc i pins s σ H E I hf st hg;subst hP hw hK;obtain⟨xs,x,hq,hx⟩:=hg;obtain⟨its,rv,p,hz⟩:=I.list hq;obtain⟨u,hu,ru⟩:=rv.get hx;obtain⟨f0,f1,f2,f3,f4,f5⟩:=hf it (by simp)
  refine wpAny_pyNext_list_item st p.isList (x:=u) (by simpa using hu) fun h' st' sb=>?_
  have I1:Inv X pins σ H { s with heap:=h' }:=I.turned (t':=s.toks) (fun b o hb e=>(sb.2 b hb).trans e) f0 f1 f3 f4 f5;obtain⟨o,e,c,d⟩:=id st';exact⟨u,rfl,qD (s:={ s with heap:=h' }) e c d (by decide) ⟨x,H,I1,ru,⟨rfl,fun ys hy=>by rw[I.list_inj hy hq];exact hx⟩,st',fun b hb=>(hf b hb).1⟩⟩
 done:=by
  intro X hP hw hK hc i pins s σ H E I hf st hg;subst hP hw hK;obtain⟨xs,hq,hx⟩:=hg;obtain⟨its,rv,p,hz⟩:=I.list hq;obtain⟨f0,f1,f2,f3,f4,f5⟩:=hf it (by simp)
  have hl:=rv.length;exact wpAny_pyNext_list_end (I.ok.hd hc) st p.isList (by simp;lia) fun h' eb=>⟨rfl,I.turned (t':=s.toks) (fun b o hb e=>eb b o hb e) f0 f1 f3 f4 f5⟩
 self:=fun _ _ _ _ _ st h=>wpAny_pyIter_listiter st h
theorem vg {P:Program} {w:World} {K:PySem.W.Frag} {tg:Expr} (a it:Addr):Turn P w K tg (Mf K a) [it] it (fun i h=>h.IsTupleIter it a i) where
 mem:=by simp
 obj:=fun i h st b hb=>by
  have e:b=it:=by simpa using hb
  subst e;obtain⟨o,e,c,d⟩:=st;exact⟨o,e,fun v z=>by rw[d]at z;cases z⟩
 keep:=fun i h h' st k=>st.at fun o e=>k it (by simp) o e
 item:=by
  intro X hP hw hK hc i pins s σ H E I hf st hg;subst hP hw hK;obtain⟨xs,x,hq,hx⟩:=hg;obtain⟨its,rv,p,hz⟩:=I.tuple hq;obtain⟨u,hu,ru⟩:=rv.get hx;obtain⟨f0,f1,f2,f3,f4,f5⟩:=hf it (by simp)
  refine wpAny_pyNext_tuple_item st (show s.heap.IsTuple a its.toArray from p) (x:=u) (by simpa using hu) fun h' st' sb=>?_
  have I1:Inv X pins σ H { s with heap:=h' }:=I.turned (t':=s.toks) (fun b o hb e=>(sb.2 b hb).trans e) f0 f1 f3 f4 f5;obtain⟨o,e,c,d⟩:=id st';exact⟨u,rfl,qD (s:={ s with heap:=h' }) e c d (by decide) ⟨x,H,I1,ru,⟨rfl,fun ys hy=>by rw[I.tuple_inj hy hq];exact hx⟩,st',fun b hb=>(hf b hb).1⟩⟩
 done:=by
  intro X hP hw hK hc i pins s σ H E I hf st hg;subst hP hw hK;obtain⟨xs,hq,hx⟩:=hg;obtain⟨its,rv,p,hz⟩:=I.tuple hq;obtain⟨f0,f1,f2,f3,f4,f5⟩:=hf it (by simp)
  have hl:=rv.length;exact wpAny_pyNext_tuple_end (I.ok.hd hc) st (show s.heap.IsTuple a its.toArray from p) (by simp;lia) fun h' eb=>⟨rfl,I.turned (t':=s.toks) (fun b o hb e=>eb b o hb e) f0 f1 f3 f4 f5⟩
 self:=fun _ _ _ _ _ st h=>wpAny_pyIter_tupleiter st h
theorem vh {P:Program} {w:World} {K:PySem.W.Frag} {tg:Expr} (it:Addr) (lo:Int) (n:Nat):Turn P w K tg (LA lo n) [it] it (fun i h=>IsRangeIter h it (lo+(i:Nat)*1) ((n:Int)-(i:Nat)) 1) where
 mem:=by simp
 obj:=fun i h st b hb=>by
  have e:b=it:=by simpa using hb
  subst e
  exact⟨_,st,fun v z=>by
   have z':Data.fields _=Data.cell v:=z
   cases z'⟩
 keep:=fun i h h' st k=>k it (by simp) _ st
 item:=by
  intro X hP hw hK hc i pins s σ H E I hf st hg;subst hP hw hK;obtain⟨f0,f1,f2,f3,f4,f5⟩:=hf it (by simp)
  have W:=Walks.range (prog:=X.prog) (w:=X.w) (I.ok.hd hc) it lo 1 n;refine bW (W.item i s _ _ hg st fun v h' tk hv st' kk hle=>?_);have hle:s.toks<=tk:=hle;obtain⟨t,rfl⟩:=hv;have I1:Inv X pins σ H { s with heap:=h',toks:=tk }:=I.turned (fun b o hb e=>kk b o (by simpa using hb) e) f0 f1 f3 f4 f5
  refine⟨_,rfl,qD (s:={ s with heap:=h',toks:=tk }) (n:="range_iterator") st' rfl rfl (by decide) ⟨.int (lo+i),H,I1,⟨t,?_⟩,⟨rfl,rfl⟩,st',fun b hb=>(hf b hb).1⟩⟩
  rw[Int.mul_one]
 done:=by
  intro X hP hw hK hc i pins s σ H E I hf st hg;subst hP hw hK;obtain⟨f0,f1,f2,f3,f4,f5⟩:=hf it (by simp)
  exact wpAny_pyNext_range_end (I.ok.hd hc) st (by have:n<=i:=hg;lia) fun h' eb=>⟨rfl,I.turned (t':=s.toks) (fun b o hb e=>eb b o hb e) f0 f1 f3 f4 f5⟩
 self:=fun _ _ _ _ _ st h=>wpAny_pyIter_rangeiter st h
end L2
namespace L2
open PySem PySem.Spec PyProof.Rows
section
variable {X:Cx} {tg:Expr}
def wz (K:PySem.W.Frag) (tl:TE):TI:=fun σ H R=>tl σ H fun x H1=>∃a,x=.ref a/\(∃xs,i5 K H1 a xs)/\R (Me K a) H1
def G2 (K:PySem.W.Frag) (tl:TE):TI:=fun σ H R=>tl σ H fun x H1=>∃a,x=.ref a/\(∃xs,mV K H1 a xs)/\R (Mf K a) H1
theorem DF {l:Expr} {tl:TE} (hl:PE X l tl):PI X tg l (wz X.K tl):=by
 intro pins s σ H R I h;refine dI (hl pins s σ H _ I h) fun v s1 zz9=>?_;obtain⟨x,H1,I1,r1,q1⟩:=zz9;obtain⟨a,e,⟨xs,hq⟩,q⟩:=q1;subst e;cases r1;obtain⟨its,rv,p,hz⟩:=I1.list hq;refine BD p.isList ?_;refine⟨s1.heap.objs.size,[s1.heap.objs.size],_,_,H1,rfl,I1.kept (t':=s1.toks) fun b o e=>Ac _ e,ya a _,⟨_,Ak _ rfl,rfl,rfl⟩,fun b hb=>?_,q⟩;have e:b=s1.heap.objs.size:=by simpa using hb
 subst e;exact I1.fpOk (Wb _) (I1.hok.fresh (Wb _))
theorem G6 {l:Expr} {tl:TE} (hl:PE X l tl):PI X tg l (G2 X.K tl):=by
 intro pins s σ H R I h;refine dI (hl pins s σ H _ I h) fun v s1 zz9=>?_;obtain⟨x,H1,I1,r1,q1⟩:=zz9;obtain⟨a,e,⟨xs,hq⟩,q⟩:=q1;subst e;cases r1;obtain⟨its,rv,p,hz⟩:=I1.tuple hq;refine wpAny_pyIter_tuple (show s1.heap.IsTuple a its.toArray from p) ?_;refine⟨s1.heap.objs.size,[s1.heap.objs.size],_,_,H1,rfl,I1.kept (t':=s1.toks) fun b o e=>Ac _ e,vg a _,⟨_,Ak _ rfl,rfl,rfl⟩,fun b hb=>?_,q⟩;have e:b=s1.heap.objs.size:=by simpa using hb
 subst e;exact I1.fpOk (Wb _) (I1.hok.fresh (Wb _))
theorem zl {pins:List (Addr×Obj)} {σ:St} {H:Hp} {s:Shared} {R:It->Hp->Prop} {E:Value->Shared->Prop} {lo hi:Int} {t u v:Tok} {tk:Nat} (I:Inv X pins σ H s) (h1:-(2 ^ 62)<=lo) (h2:lo<2 ^ 62) (h3:-(2 ^ 62)<=hi) (h4:hi<2 ^ 62) (ht:0<tk)
  (q:R (LA lo (hi-lo).toNat) H):wpAny (model X.prog X.w) X.A (pyIter (.ref s.heap.objs.size)) (PIE X pins σ tg R) E { s with heap:=s.heap.push { cls:=.type "range",data:=.fields #[.int lo t,.int hi u,.int 1 v] },toks:=tk }:=by
 refine wpAny_pyIter_range (IsRange.new ..) (small_one h1 h2 h3 h4) ?_;have I1:Inv X pins σ H { s with heap:=s.heap.push { cls:=.type "range",data:=.fields #[.int lo t,.int hi u,.int 1 v] },toks:=tk }:=I.kept fun b o e=>Ac _ e
 refine⟨(s.heap.push { cls:=.type "range",data:=.fields #[.int lo t,.int hi u,.int 1 v] }).objs.size,[(s.heap.push { cls:=.type "range",data:=.fields #[.int lo t,.int hi u,.int 1 v] }).objs.size],_,_,H,rfl,
  I1.kept (t':=tk) fun b o e=>Ac _ e,vh _ lo (hi-lo).toNat,?_,fun b hb=>?_,q⟩
 ·have e1:lo+((0:Nat):Int)*1=lo:=by simp
  have e2:(((hi-lo).toNat:Nat):Int)-((0:Nat):Int)=Builtin.Range.rangeSize lo hi 1:=by rw[rangeSize_one];split<;>lia
  show IsRangeIter _ _ (lo+((0:Nat):Int)*1) ((((hi-lo).toNat:Nat):Int)-((0:Nat):Int)) 1;rw[e1,e2];exact Ak _ rfl
 ·have e:b=(s.heap.push { cls:=.type "range",data:=.fields #[.int lo t,.int hi u,.int 1 v] }).objs.size:=by simpa using hb
  subst e;exact I1.fpOk (Wb _) (I1.hok.fresh (Wb _))
def FK (ta:TA):TI:=fun σ H R=>ta σ H fun vs H1=>∃j:Int,vs=[.int j]/\-(2 ^ 62)<=j/\j<2 ^ 62/\R (LA 0 j.toNat) H1
theorem gW {a:Expr} {ta:TA} {p pos:Pos} (hg:Gl X "range") (hm:X.mg "range"=none) (ha:PA X [a] ta) (hs:starEach [a] X.env=[(false,eval a X.env)]:=by rfl):PI X tg (.Call (.Name "range" p) [a] [] pos) (FK ta):=by
 intro pins s σ H R I h;refine Call_ (rE I hg hm boot_range (BP (dI (ha pos pins s σ H _ I h) fun us s1 zz9=>?_) hs rfl));obtain⟨vs,H1,I1,r1,q1⟩:=zz9;obtain⟨j,e,q1,q2,q⟩:=q1;subst e;cases r1 with
 | cons r rr =>
  cases rr;obtain⟨t,rfl⟩:=r;exact call_range_1 (zl I1 (by lia) (by lia) q1 q2 (Vb I1.tk (by first|exact Wb _|lia)) (by simpa using q))
def JH (wi:TI) (g:TG) (tb:TS):TS:=fun D σ H=>wi σ H fun J H1=>∃W:Nat->Nat->St->Hp->Prop,(∃m,W 0 m σ H1)/\∀i m σ H,W i m σ H ->
 (J.stop i H/\D.nx σ H)∨(J.go i H/\∃N:St->Hp->Prop,(∀σ' H',N σ' H'->∃m',m'<m/\W (i+1) m' σ' H')/\∀x H',J.yld i H x H'->g x σ H' fun σ2 H2=>tb { D with nx:=N,ct:=N,bk:=D.nx } σ2 H2)
def mZ (fp:List Addr) (h:Heap):List (Addr×Obj):=fp.filterMap fun b=>(h.get? b).map fun o=>(b,o)
theorem eU {fp:List Addr} {h:Heap} {b:Addr} {o:Obj} (hb:b∈fp) (e:h.get? b=some o):(b,o)∈mZ fp h:=List.mem_filterMap.mpr ⟨b,hb,by rw[e];rfl⟩
theorem yb {fp:List Addr} {h:Heap} {p:Addr×Obj} (hp:p∈mZ fp h):p.1∈fp/\h.get? p.1=some p.2:=by
 obtain⟨b,hb,e⟩:=List.mem_filterMap.mp hp;cases q:h.get? b with
 | none=>rw[q]at e;cases e
 | some o =>
  rw[q]at e;have e':(b,o)=p:=Option.some.inj e;subst e';exact⟨hb,q⟩
theorem Inv.pinned {pins:List (Addr×Obj)} {σ:St} {H:Hp} {s:Shared} {fp:List Addr} (I:Inv X pins σ H s) (hf:∀b∈fp,oZ X pins H b) (ho:∀b∈fp,∃o,s.heap.get? b=some o/\∀v,o.data≠.cell v):Inv X (pins++mZ fp s.heap) σ H s :=
 I.pins_of fun p hp=>(Zc.mp hp).elim (fun z=>I.pin p (Xc _ z)) fun z=>by
  obtain⟨hb,e⟩:=yb z;obtain⟨f0,f1,f2,_⟩:=hf p.1 hb;obtain⟨o,e',d⟩:=ho p.1 hb;rw[e]at e';cases e';exact⟨e,f0,f1,f2,d⟩
theorem Inv.unpinned {pins pl:List (Addr×Obj)} {σ:St} {H:Hp} {s:Shared} (I:Inv X (pins++pl) σ H s):Inv X pins σ H s:=I.pins_of fun p hp=>I.pin p (Xc _ (Zd _ hp))
theorem jy {iter:Expr} {body:List Stmt} {wi:TI} {g:TG} {tb:TS} {pos:Pos} (hp:PassesOwn (model X.prog X.w) X.A X.env X.xe) (hc:X.calm=true) (hi:PI X tg iter wi) (hg:PG X tg g) (hb:PSs X body tb)
  (hs:∀x,foldedSetIterable iter X.env x=pure x:=by intro _;rfl):PS X (.For tg iter body [] pos) (JH wi g tb):=by
 intro pins s σ H D I h;refine wpAny_For (dI (hi pins s σ H _ I h) fun v s1 h1=>dI h1 fun itv s2 h2=>?_) hs;obtain⟨it,fp,tn,J,H2,e,I2,T,st2,f2,W,⟨m0,w0⟩,turn⟩:=h2;subst e;have stat:∀{H':Hp},(∀b∈fp,H' b=none)->∀b∈fp,oZ X pins H' b:=fun hn b hb=>⟨hn b hb,(f2 b hb).2⟩;refine codeAny_forLoop_any (fun n s'=>∃i σ' H',Inv X pins σ' H' s'/\tn i s'.heap/\(∀b∈fp,H' b=none)/\W i n σ' H') ?_ m0 ⟨0,σ,H2,I2,st2,fun b hb=>(f2 b hb).1,w0⟩;rintro n s3 ⟨i,σ3,H3,I3,st3,fr3,w3⟩;rcases turn i n σ3 H3 w3 with⟨stop,qn⟩|⟨go,N,hN,step⟩
 ·refine Ap hp (dI (T.done X rfl rfl rfl hc i pins s3 σ3 H3 X.xe I3 (stat fr3) st3 stop) fun r s4 zz9=>?_);obtain⟨hr,I4⟩:=zz9;subst hr;exact Aw ⟨σ3,H3,I4,qn⟩
 ·refine Ap hp (dI (T.item X rfl rfl rfl hc i pins s3 σ3 H3 X.xe I3 (stat fr3) st3 go) fun r s4 zz9=>?_);obtain⟨u,hr,h4⟩:=zz9;subst hr;refine Ap hp (dI h4 fun _ s5 zz9=>?_);obtain⟨x,H5,I5,r5,y5,st5,fr5⟩:=zz9;have I5':=I5.pinned (stat fr5) (T.obj _ _ st5);refine Ap hp (dI (hg _ s5 σ3 H5 x u _ I5' r5 (step x H5 y5)) fun _ s6 zz9=>?_);obtain⟨σ6,H6,I6,q6⟩:=zz9;refine Ap hp (dI (hb _ s6 σ6 H6 _ I6 q6) fun f s7 q7=>?_);have again:∀{σ7:St} {H7:Hp},Inv X (pins++mZ fp s5.heap) σ7 H7 s7->N σ7 H7->∃m,m<n/\∃i σ' H',Inv X pins σ' H' s7/\tn i s7.heap/\(∀b∈fp,H' b=none)/\W i m σ' H':=fun {σ7 H7} I7 n7=>by
   obtain⟨m',hm,w7⟩:=hN σ7 H7 n7;refine⟨m',hm,i+1,σ7,H7,I7.unpinned,T.keep _ _ _ st5 fun b hb o e=>(I7.pin (b,o) (Xc _ (Xc _ (eU hb e)))).1,fun b hb=>?_,w7⟩;obtain⟨o,e,d⟩:=T.obj _ _ st5 b hb;exact(I7.pin (b,o) (Xc _ (Xc _ (eU hb e)))).2.1
  cases f with
  | next=>obtain⟨σ7,H7,I7,n7⟩:=q7;exact again I7 n7
  | cont=>obtain⟨σ7,H7,I7,n7⟩:=q7;exact again I7 n7
  | brk=>obtain⟨σ7,H7,I7,q7⟩:=q7;exact⟨σ7,H7,I7.unpinned,q7⟩
  | ret v=>obtain⟨x7,σ7,H7,I7,r7,q7⟩:=q7;exact⟨x7,σ7,H7,I7.unpinned,r7,q7⟩
end
end L2
namespace L2
open PySem PySem.Spec PyProof.Rows
abbrev R2:=V->V->Hp->VK->Prop
def OpR (X:Cx) (f:Value->Value->Sem Value) (r:R2):Prop :=
 ∀(pins:List (Addr×Obj)) (s:Shared) (σ:St) (H:Hp) (x y:V) (v u:Value) (Q:VK),Inv X pins σ H s->RelV x v->RelV y u->r x y H Q ->
  wpAny (model X.prog X.w) X.A (f v u) (EP X pins σ Q) X.xe s
def LL (X:Cx) (f:Value->Sem Value) (r:V->Hp->VK->Prop):Prop :=
 ∀(pins:List (Addr×Obj)) (s:Shared) (σ:St) (H:Hp) (x:V) (v:Value) (Q:VK),Inv X pins σ H s->RelV x v->r x H Q ->
  wpAny (model X.prog X.w) X.A (f v) (EP X pins σ Q) X.xe s
def CallR (X:Cx) (f:Value) (r:List V->Hp->VK->Prop):Prop :=
 ∀(pins:List (Addr×Obj)) (s:Shared) (σ:St) (H:Hp) (xs:List V) (us:List Value) (Q:VK),Inv X pins σ H s->Vals xs us->r xs H Q ->
  wpAny (model X.prog X.w) X.A (call f us) (EP X pins σ Q) X.xe s
def zm (r:R2) (ta tb:TE):TE:=fun σ H Q=>ta σ H fun x H1=>tb σ H1 fun y H2=>r x y H2 Q
def Mg (r:V->Hp->VK->Prop) (ta:TE):TE:=fun σ H Q=>ta σ H fun x H1=>r x H1 Q
def rI (C:Int->Int->Prop) (g:Int->Int->V):R2:=fun x y H Q=>∃i j,x=.int i/\y=.int j/\C i j/\Q (g i j) H
def tU (g:Int->Int->V):R2:=fun x y H Q=>∃i j,x=.int i/\y=.int j/\Q (g i j) H
def rU (g:Int->V):V->Hp->VK->Prop:=fun x H Q=>∃i,x=.int i/\Q (g i) H
section
variable {X:Cx} {a b c:Expr} {ta tb tc:TE} {pos:Pos}
theorem G7 (ha:PE X a ta) (hb:PE X b tb) {pins:List (Addr×Obj)} {s:Shared} {σ:St} {H:Hp} {R:V->V->Hp->Prop} (I:Inv X pins σ H s)
  (h:ta σ H fun x H1=>tb σ H1 fun y H2=>R x y H2) {Q:Value->Shared->Prop} {f:Value->Value->Sem Value}
  (hf:∀v u s2 x y H2,Inv X pins σ H2 s2->RelV x v->RelV y u->R x y H2->wpAny (model X.prog X.w) X.A (f v u) Q X.xe s2) :
  wpAny (model X.prog X.w) X.A (eval a X.env) (fun v s₁=>wpAny (model X.prog X.w) X.A (eval b X.env) (fun u s₂=>wpAny (model X.prog X.w) X.A (f v u) Q X.xe s₂) X.xe s₁) X.xe s:=by
 refine dI (ha pins s σ H _ I h) fun v s1 zz9=>?_;obtain⟨x,H1,I1,r1,q1⟩:=zz9;refine dI (hb pins s1 σ H1 _ I1 q1) fun u s2 zz9=>?_;obtain⟨y,H2,I2,r2,q2⟩:=zz9;exact hf v u s2 x y H2 I2 r1 r2 q2
theorem aQ {op:Operator} {r:R2} (ho:OpR X (binaryOp op) r) (ha:PE X a ta) (hb:PE X b tb):PE X (.BinOp a op b pos) (zm r ta tb):=by
 intro pins s σ H Q I h;exact wpAny_BinOp (G7 ha hb I h fun v u s2 x y H2 I2 rx ry q=>ho pins s2 σ H2 x y v u Q I2 rx ry q)
theorem wA {op:UnaryOp} {r:V->Hp->VK->Prop} (ho:LL X (unaryOp op) r) (ha:PE X a ta):PE X (.UnaryOp op a pos) (Mg r ta):=by
 intro pins s σ H Q I h;exact UnaryOp_ (dI (ha pins s σ H _ I h) fun v s1 ⟨x,H1,I1,r1,q1⟩=>ho pins s1 σ H1 x v Q I1 r1 q1)
theorem LB {f:Value->Value->Sem Value} {C:Int->Int->Prop} {g:Int->Int->Int}
  (rule:∀(i j:Int) (t u:Tok) (s:Shared) (Q:Value->Shared->Prop) (E:Value->Shared->Prop),C i j->Q (.int (g i j) s.toks) { s with toks:=s.toks+1 }->wpAny (model X.prog X.w) X.A (f (.int i t) (.int j u)) Q E s) :
  OpR X f (rI C fun i j=>.int (g i j)):=by
 intro pins s σ H x y v u Q I rx ry h;obtain⟨i,j,rfl,rfl,hc,q⟩:=h;obtain⟨t,rfl⟩:=rx;obtain⟨t',rfl⟩:=ry;exact rule i j t t' s _ _ hc ⟨.int (g i j),H,I.tok _,⟨_,rfl⟩,q⟩
theorem JI {f:Value->Value->Sem Value} {g:Int->Int->Int}
  (rule:∀(i j:Int) (t u:Tok) (s:Shared) (Q:Value->Shared->Prop) (E:Value->Shared->Prop),Q (.int (g i j) s.toks) { s with toks:=s.toks+1 }->wpAny (model X.prog X.w) X.A (f (.int i t) (.int j u)) Q E s) :
  OpR X f (tU fun i j=>.int (g i j)):=by
 intro pins s σ H x y v u Q I rx ry h;obtain⟨i,j,rfl,rfl,q⟩:=h;obtain⟨t,rfl⟩:=rx;obtain⟨t',rfl⟩:=ry;exact rule i j t t' s _ _ ⟨.int (g i j),H,I.tok _,⟨_,rfl⟩,q⟩
theorem DG {f:Value->Value->Sem Value} {g:Int->Int->Bool}
  (rule:∀(i j:Int) (t u:Tok) (s:Shared) (Q:Value->Shared->Prop) (E:Value->Shared->Prop),Q (.bool (g i j)) s->wpAny (model X.prog X.w) X.A (f (.int i t) (.int j u)) Q E s) :
  OpR X f (tU fun i j=>.bl (g i j)):=by
 intro pins s σ H x y v u Q I rx ry h;obtain⟨i,j,rfl,rfl,q⟩:=h;obtain⟨t,rfl⟩:=rx;obtain⟨t',rfl⟩:=ry;exact rule i j t t' s _ _ ⟨.bl (g i j),H,I,rfl,q⟩
def vk (i j:Int):Prop:=0<j/\j<1073741824
def zn (i j:Int):Prop:=0<=j/\j<=1000000/\i.natAbs<2 ^ 64
def CMul (i j:Int):Prop:=(-(2 ^ 64)<i/\i<2 ^ 64)∨(-(2 ^ 64)<j/\j<2 ^ 64)
theorem CMul.ok {i j:Int} (h:CMul i j):IntMulOk i j:=by
 rcases h with⟨h1,h2⟩|⟨h1,h2⟩
 ·exact .of_left (intBits_le_64 h1 h2)
 ·exact .of_right (intBits_le_64 h1 h2)
theorem op_add:OpR X (binaryOp .Add) (tU fun i j=>.int (i+j)):=JI fun _ _ _ _ _ _ _ q=>add_int q
theorem vm:OpR X (binaryOp .Sub) (tU fun i j=>.int (i-j)):=JI fun _ _ _ _ _ _ _ q=>sub_int q
theorem op_mul:OpR X (binaryOp .Mult) (rI CMul fun i j=>.int (i*j)):=LB fun _ _ _ _ _ _ _ hc q=>mul_int q hc.ok
theorem oz:OpR X (binaryOp .FloorDiv) (rI vk fun i j=>.int (i / j)):=LB fun i j _ _ _ _ _ hc q=>by
 have h1:(0:Int)<j:=hc.1;have h2:j<1073741824:=hc.2;exact floordiv_int (by lia) (by rw[Int.fdiv_eq_ediv_of_nonneg i (by lia)];exact q) (.inl (PyProof.noPylong_small (by lia)))
theorem jz:OpR X (binaryOp .Mod) (rI (fun _ j=>0<j) fun i j=>.int (i % j)):=LB fun i j _ _ _ _ _ hc q=>by
 have h1:(0:Int)<j:=hc;exact mod_int' (by lia) (by rw[Int.fmod_eq_emod_of_nonneg i (by lia)];exact q)
theorem G8:OpR X (binaryOp .Pow) (rI zn fun i j=>.int (i ^ j.toNat)):=LB fun _ _ _ _ _ _ _ hc q=>pow_int_small hc.1 hc.2.1 hc.2.2 q
theorem Mu {f:Value->Sem Value} {g:Int->Int}
  (rule:∀(i:Int) (t:Tok) (s:Shared) (Q:Value->Shared->Prop) (E:Value->Shared->Prop),Q (.int (g i) s.toks) { s with toks:=s.toks+1 }->wpAny (model X.prog X.w) X.A (f (.int i t)) Q E s) :
  LL X f (rU fun i=>.int (g i)):=by
 intro pins s σ H x v Q I rx h;obtain⟨i,rfl,q⟩:=h;obtain⟨t,rfl⟩:=rx;exact rule i t s _ _ ⟨.int (g i),H,I.tok _,⟨_,rfl⟩,q⟩
theorem rJ:LL X (unaryOp .USub) (rU fun i=>.int (-i)):=Mu fun _ _ _ _ _ q=>neg_int q
end
def G9:V->V->Bool
 | .non,.non=>true|.non,.int _=>true|.int _,.non=>true|.non,.bl _=>true|.bl _,.non=>true|.non,.str _=>true|.str _,.non=>true
 | .int _,.int _=>true|.bl _,.bl _=>true|.str _,.str _=>true|.byt _,.byt _=>true
 | .int _,.str _=>true|.str _,.int _=>true|.bl _,.str _=>true|.str _,.bl _=>true
 | _,_=>false
def JJ:R2:=fun x y H Q=>G9 x y=true/\Q (.bl (decide (x=y))) H
def LM:R2:=fun x y H Q=>G9 x y=true/\Q (.bl (!decide (x=y))) H
theorem wB {i j:Int}:decide (V.int i=V.int j)=(i == j):=by
 rw[Vg];simp
theorem zo {i j:Bool}:decide (V.bl i=V.bl j)=(i == j):=by
 rw[Vg];simp
theorem wC {i j:Str}:decide (V.str i=V.str j)=(i == j):=by
 rw[Vg];simp
theorem wD {i j:Array UInt8}:decide (V.byt i=V.byt j)=(i.toList == j.toList):=by
 rw[Vg];cases i;cases j;simp
section
variable {X:Cx} {a b c:Expr} {ta tb tc:TE} {pos:Pos}
theorem bO {pins:List (Addr×Obj)} {σ:St} {H:Hp} {s:Shared} {Q:VK} {k k':Bool} (I:Inv X pins σ H s) (q:Q (.bl k) H) (e:k=k'):EP X pins σ Q (.bool k') s:=by
 subst e;exact⟨.bl k,H,I,rfl,q⟩
theorem de:OpR X (compareOp .Eq) JJ:=by
 intro pins s σ H x y v u Q I rx ry h;obtain⟨hs,q⟩:=h;cases x with
 | non =>
  cases rx;cases y with
  | non=>cases ry;exact PySem.EqNone.eq_none_none (bO I q (by simp))
  | bl j=>cases ry;exact PySem.EqNone.eq_none_bool (bO I q (by simp))
  | int j=>obtain⟨t',rfl⟩:=ry;exact PySem.EqNone.eq_none_int (bO I q (by simp))
  | str j=>obtain⟨t',rfl⟩:=ry;exact PySem.EqNone.eq_none_str (bO I q (by simp))
  | _=>exact absurd (show false=true from hs) Yd
 | bl i =>
  cases rx;cases y with
  | non=>cases ry;exact PySem.EqNone.eq_bool_none (bO I q (by simp))
  | bl j=>cases ry;exact eq_bool (bO I q zo)
  | str j=>obtain⟨t',rfl⟩:=ry;exact PySem.EqMixed.eq_bool_str (bO I q (by simp))
  | _=>exact absurd (show false=true from hs) Yd
 | int i =>
  obtain⟨t,rfl⟩:=rx;cases y with
  | non=>cases ry;exact PySem.EqNone.eq_int_none (bO I q (by simp))
  | int j=>obtain⟨t',rfl⟩:=ry;exact eq_int (bO I q wB)
  | str j=>obtain⟨t',rfl⟩:=ry;exact PySem.EqMixed.eq_int_str (bO I q (by simp))
  | _=>exact absurd (show false=true from hs) Yd
 | str i =>
  obtain⟨t,rfl⟩:=rx;cases y with
  | non=>cases ry;exact PySem.EqNone.eq_str_none (bO I q (by simp))
  | bl j=>cases ry;exact PySem.EqMixed.eq_str_bool (bO I q (by simp))
  | int j=>obtain⟨t',rfl⟩:=ry;exact PySem.EqMixed.eq_str_int (bO I q (by simp))
  | str j=>obtain⟨t',rfl⟩:=ry;exact eq_str (bO I q wC)
  | _=>exact absurd (show false=true from hs) Yd
 | byt i =>
  obtain⟨t,rfl⟩:=rx;cases y with
  | byt j=>obtain⟨t',rfl⟩:=ry;exact PySem.W.eq_bytes (bO I q wD)
  | _=>exact absurd (show false=true from hs) Yd
 | _=>cases y<;>exact absurd (show false=true from hs) Yd
theorem op_ne:OpR X (compareOp .NotEq) LM:=by
 intro pins s σ H x y v u Q I rx ry h;obtain⟨hs,q⟩:=h;cases x with
 | non =>
  cases rx;cases y with
  | non=>cases ry;exact PySem.EqNone.ne_none_none (bO I q (by simp))
  | bl j=>cases ry;exact PySem.EqNone.ne_none_bool (bO I q (by simp))
  | int j=>obtain⟨t',rfl⟩:=ry;exact PySem.EqNone.ne_none_int (bO I q (by simp))
  | str j=>obtain⟨t',rfl⟩:=ry;exact PySem.EqNone.ne_none_str (bO I q (by simp))
  | _=>exact absurd (show false=true from hs) Yd
 | bl i =>
  cases rx;cases y with
  | non=>cases ry;exact PySem.EqNone.ne_bool_none (bO I q (by simp))
  | bl j=>cases ry;exact ne_bool (bO I q (congrArg not zo))
  | str j=>obtain⟨t',rfl⟩:=ry;exact PySem.EqMixed.ne_bool_str (bO I q (by simp))
  | _=>exact absurd (show false=true from hs) Yd
 | int i =>
  obtain⟨t,rfl⟩:=rx;cases y with
  | non=>cases ry;exact PySem.EqNone.ne_int_none (bO I q (by simp))
  | int j=>obtain⟨t',rfl⟩:=ry;exact ne_int (bO I q (congrArg not wB))
  | str j=>obtain⟨t',rfl⟩:=ry;exact PySem.EqMixed.ne_int_str (bO I q (by simp))
  | _=>exact absurd (show false=true from hs) Yd
 | str i =>
  obtain⟨t,rfl⟩:=rx;cases y with
  | non=>cases ry;exact PySem.EqNone.ne_str_none (bO I q (by simp))
  | bl j=>cases ry;exact PySem.EqMixed.ne_str_bool (bO I q (by simp))
  | int j=>obtain⟨t',rfl⟩:=ry;exact PySem.EqMixed.ne_str_int (bO I q (by simp))
  | str j=>obtain⟨t',rfl⟩:=ry;exact ne_str (bO I q (congrArg not wC))
  | _=>exact absurd (show false=true from hs) Yd
 | byt i =>
  obtain⟨t,rfl⟩:=rx;cases y with
  | byt j=>obtain⟨t',rfl⟩:=ry;exact PySem.W.ne_bytes (bO I q (congrArg not wD))
  | _=>exact absurd (show false=true from hs) Yd
 | _=>cases y<;>exact absurd (show false=true from hs) Yd
theorem op_lt:OpR X (compareOp .Lt) (tU fun i j=>.bl (decide (i<j))):=DG fun _ _ _ _ _ _ _ q=>lt_int q
theorem FL:OpR X (compareOp .LtE) (tU fun i j=>.bl (decide (i<=j))):=DG fun _ _ _ _ _ _ _ q=>le_int q
theorem FM:OpR X (compareOp .Gt) (tU fun i j=>.bl (decide (j<i))):=DG fun _ _ _ _ _ _ _ q=>gt_int q
theorem JK:OpR X (compareOp .GtE) (tU fun i j=>.bl (decide (j<=i))):=DG fun _ _ _ _ _ _ _ q=>ge_int q
theorem yc:OpR X (compareOp .Lt) (fun x y H Q=>∃i j,x=.str i/\y=.str j/\Q (.bl (decide (i.cps.toList<j.cps.toList))) H):=by
 intro pins s σ H x y v u Q I rx ry h;obtain⟨i,j,rfl,rfl,q⟩:=h;obtain⟨t,rfl⟩:=rx;obtain⟨t',rfl⟩:=ry;exact lt_str (bO I q rfl)
theorem op_in_str:OpR X (compareOp .In) (fun x y H Q=>∃i j,x=.str i/\y=.str j/\Q (.bl (!(Builtin.Str.occurrences j i 0 j.length 1).isEmpty)) H):=by
 intro pins s σ H x y v u Q I rx ry h;obtain⟨i,j,rfl,rfl,q⟩:=h;obtain⟨t,rfl⟩:=rx;obtain⟨t',rfl⟩:=ry;exact in_str (bO I q rfl)
theorem zp:OpR X (compareOp .Is) (fun x y H Q=>y=.non/\Q (.bl (decide (x=.non))) H):=by
 intro pins s σ H x y v u Q I rx ry h;obtain⟨rfl,q⟩:=h;cases ry;refine is_none_gen (bO I q ?_);cases x<;>first
  | (cases rx;rfl)
  | (obtain⟨t,rfl⟩:=rx;rfl)
theorem op_notin_str:OpR X (compareOp .NotIn) (fun x y H Q=>∃i j,x=.str i/\y=.str j/\Q (.bl (!(!(Builtin.Str.occurrences j i 0 j.length 1).isEmpty))) H):=by
 intro pins s σ H x y v u Q I rx ry h;obtain⟨i,j,rfl,rfl,q⟩:=h;obtain⟨t,rfl⟩:=rx;obtain⟨t',rfl⟩:=ry;exact notIn_str (bO I q rfl)
theorem OpR.or {f:Value->Value->Sem Value} {r r':R2} (h:OpR X f r) (h':OpR X f r'):OpR X f (fun x y H Q=>r x y H Q∨r' x y H Q):=by
 intro pins s σ H x y v u Q I rx ry q;rcases q with q|q
 ·exact h pins s σ H x y v u Q I rx ry q
 ·exact h' pins s σ H x y v u Q I rx ry q
theorem zq (b:Expr) {op:CmpOp} (h:op≠.In:=by decide) (h2:op≠.NotIn:=by decide):behindInMarks op b=false:=by
 have e1:(op == CmpOp.In)=false:=by cases op<;>first|rfl|exact absurd rfl h
 have e2:(op == CmpOp.NotIn)=false:=by cases op<;>first|rfl|exact absurd rfl h2
 cases b<;>simp[behindInMarks,e1,e2]
theorem rK {op:CmpOp} {r:R2} (ho:OpR X (compareOp op) r) (ha:PE X a ta) (hb:PE X b tb) (hm:behindInMarks op b=false):PE X (.Compare a [op] [b] pos) (zm r ta tb):=by
 intro pins s σ H Q I h;exact wpAny_Compare1 (G7 ha hb I h fun v u s2 x y H2 I2 rx ry q=>ho pins s2 σ H2 x y v u Q I2 rx ry q) hm
def wE (t:TE):TT:=fun σ H Q=>t σ H fun x H'=>∃k,x=.bl k/\Q k H'
theorem gM {op:CmpOp} {r:R2} (ho:OpR X (compareOp op) r) (ha:PE X a ta) (hb:PE X b tb) (hm:behindInMarks op b=false):PT X (.Compare a [op] [b] pos) (wE (zm r ta tb)):=by
 intro pins s σ H Q I h
 refine wpAny_isTrue_Compare1 (dI (ha pins s σ H _ I h) fun v s1 ⟨x,H1,I1,r1,q1⟩=>dI (hb pins s1 σ H1 _ I1 q1) fun u s2 ⟨y,H2,I2,r2,q2⟩ =>
  dI (ho pins s2 σ H2 x y v u _ I2 r1 r2 q2) fun c s3 ⟨z,H3,I3,r3,k,e,q3⟩=>?_) hm
 subst e;cases r3;exact Ax ⟨H3,I3,q3⟩
def zr (r r':R2) (ta tb tc:TE):TE:=fun σ H Q=>ta σ H fun x H1=>tb σ H1 fun y H2=>r x y H2 fun z H3=>∃k,z=.bl k /\
 (if k=true then tc σ H3 fun w' H4=>r' y w' H4 Q else Q (.bl false) H3)
theorem zt {op op':CmpOp} {r r':R2} (ho:OpR X (compareOp op) r) (ho':OpR X (compareOp op') r') (ha:PE X a ta) (hb:PE X b tb) (hc:PE X c tc)
  (hm:lastMarks [op,op'] [b,c]=false:=by with_unfolding_all rfl):PT X (.Compare a [op,op'] [b,c] pos) (wE (zr r r' ta tb tc)):=by
 intro pins s σ H Q I h
 refine isTrue_chain (dI (ha pins s σ H _ I h) fun v s1 ⟨x,H1,I1,r1,q1⟩=>test_link (dI (hb pins s1 σ H1 _ I1 q1) fun u s2 ⟨y,H2,I2,r2,q2⟩ =>
  dI (ho pins s2 σ H2 x y v u _ I2 r1 r2 q2) fun d s3 ⟨z,H3,I3,r3,k,e,q3⟩=>?_)) hm
 subst e;cases r3;refine Ax ?_;cases k with
 | false =>
  obtain⟨k',e',q'⟩:=q3;cases e';exact ite_ff ⟨H3,I3,q'⟩
 | true =>
  refine ite_tt (test_last (dI (hc pins s3 σ H3 _ I3 q3) fun w' s4 ⟨z',H4,I4,r4,q4⟩=>dI (ho' pins s4 σ H4 y z' u w' _ I4 r2 r4 q4) fun d' s5 zz9=>?_));obtain⟨z2,H5,I5,r5,k2,e2,q5⟩:=zz9;subst e2;cases r5;exact Ax ⟨H5,I5,q5⟩
theorem m3:(sizeLine:Nat)<2 ^ 63:=by rw[Bl];decide
theorem op_add_str:OpR X (binaryOp .Add) (fun x y H Q=>∃i j,x=.str i/\y=.str j/\i.length+j.length<=sizeLine/\Q (.str (i++j)) H):=by
 intro pins s σ H x y v u Q I rx ry h;obtain⟨i,j,rfl,rfl,hz,q⟩:=h;obtain⟨t,rfl⟩:=rx;obtain⟨t',rfl⟩:=ry;exact bW (add_str (fun t' tk hle=>⟨.str (i++j),H,I.tok _ (I.tkl' hle),⟨_,rfl⟩,q⟩) hz)
theorem vals1 {x:V} {us:List Value} (r:Vals [x] us):∃u,us=[u]/\RelV x u:=by
 cases r with
 | cons r1 r2=>cases r2;exact⟨_,rfl,r1⟩
theorem vals2 {x y:V} {us:List Value} (r:Vals [x,y] us):∃u w',us=[u,w']/\RelV x u/\RelV y w':=by
 cases r with
 | cons r1 r2 =>
  cases r2 with
  | cons r3 r4=>cases r4;exact⟨_,_,rfl,r1,r3⟩
end
end L2
namespace L2
open PySem PySem.Spec PyProof.Rows
structure ObjM (h:Heap) (x dx C:Addr) (mA:Str->Option Value):Prop where
 obj:h.get? x=some (PySem.W.instObj C dx)
 ns:h.Ns1 dx mA
 ne:dx≠x
theorem qE {h:Heap} {dx:Addr} {mA:Str->Option Value} (n:h.Ns1 dx mA):∃od,h.get? dx=some od/\∀name,PySem.W.lookIn name od=some (mA name):=by
 obtain⟨o,es,ep,ho,hd,hk,_,hm⟩:=n;refine⟨o,ho,fun name=>?_⟩;have e:=hm name;unfold nsFind findBy at e;rw[← Array.find?_toList]at e;unfold PySem.W.lookIn;rw[hd];dsimp only;split
 ·rename_i y q
  rw[q]at e;exact congrArg some e
 ·rename_i q
  rw[q]at e;have a:es.toList.any (·.refKey)=false:=by
   rw[List.any_eq_false];intro y hy;obtain⟨z,t,hkey⟩:=hk y (Array.mem_toList_iff.mp hy);simp[DictEntry.refKey,hkey]
  have a':¬ es.toList.any (·.refKey)=true:=by rw[a];exact Yd
  rw[Ah a'];exact congrArg some e
theorem ObjM.look {h:Heap} {x dx C:Addr} {mA:Str->Option Value} (I:ObjM h x dx C mA):∃od,PySem.W.InstAt h x (PySem.W.instObj C dx) C (some od)/\∀name,PySem.W.lookIn name od=some (mA name) :=
 let ⟨od,ho,hl⟩:=qE I.ns
 ⟨od,⟨I.obj,rfl,rfl,ho⟩,hl⟩
theorem RelO.some_of {v:V} {o:Option Value} (r:RelO (some v) o):∃u,o=some u/\RelV v u:=by
 cases o with
 | none=>exact(show False from r).elim
 | some u=>exact⟨u,rfl,r⟩
section
variable {P:Program} {w:World} {H H':Hp} {h h':Heap} {a C dx:Addr} {fs fs':List (Str×V)}
theorem DH (hok:HOk P w H h) (e:H a=some (.ins C dx fs)):∃mA,ObjM h a dx C mA/\(∀f,RelO (fs.lookup f) (mA f))/\PySem.Within mA (fs.map (·.1))/\fs.length<=1000/\H dx=some (.own a):=by
 obtain⟨d,z,ne,ob,mA,n,r,q⟩:=(show ObjOk P w H h a (.ins C dx fs) from hok a _ e);exact⟨mA,⟨ob,n,ne⟩,r,q,z,d⟩
end
structure Cls (K:PySem.W.Frag) (C:Addr):Prop where
 pg:PySem.W.plainGet K C Str.empty=true
 hd:PySem.W.hasDictIn K C=true
 po:PySem.W.plainOver K C=true
 sa:PySem.W.findIn K (.ref C) "__setattr__"=some (some (.builtin "object.__setattr__"))
theorem Cls.get {K:PySem.W.Frag} {C:Addr} (c:Cls K C) (f:Str):PySem.W.plainGet K C f=true:=c.pg
section
variable {X:Cx} {pins:List (Addr×Obj)} {σ:St} {H:Hp} {s:Shared} {A:Around} {E:Value->Shared->Prop} {Q:Value->Shared->Prop} {c:Value} {b:Bool}
inductive TyOf (K:PySem.W.Frag) (H:Hp):V->Value->Prop where
 | non:TyOf K H .non (.type "NoneType")
 | bl (x:Bool):TyOf K H (.bl x) (.type "bool")
 | int (i:Int):TyOf K H (.int i) (.type "int")
 | str (x:Str):TyOf K H (.str x) (.type "str")
 | flt (x:UInt64):TyOf K H (.flt x) (.type "float")
 | lst {a:Addr} {xs:List V} (e:H a=some (.lst xs)):TyOf K H (.ref a) (.type "list")
 | frz {a:Addr} {o:Obj} {xs:List V} (e:H a=some (.frz o (.lst xs))):TyOf K H (.ref a) (.type "list")
 | tup {a:Addr} {xs:List V} (e:H a=some (.tup xs)):TyOf K H (.ref a) (.type "tuple")
 | dK {a:Addr} {kvs:List (Key×V)} (e:H a=some (.dK kvs)):TyOf K H (.ref a) (.type "dict")
 | dT {a:Addr} {ep:Nat×List Addr} {kvs:List (List Key×V)} (e:H a=some (.dT ep kvs)):TyOf K H (.ref a) (.type "dict")
 | ins {a C dx:Addr} {fs:List (Str×V)} (e:H a=some (.ins C dx fs)) (cl:Cls K C) (ha:PySem.W.findIn K (.ref C) "__class__"=some (some (.builtin "object.__class__")))
   (hn:PySem.W.specialIn K (.builtin "object.__class__") "__get__"=some (some (.builtin "getset_descriptor.__get__"))) (htk:PySem.W.takesIn K (.builtin "object.__class__")=some true)
   (hm:PySem.W.mroIn K C (.type "object")=some true):TyOf K H (.ref a) (.ref C)
theorem fW {x:V} {u t:Value} (I:Inv X pins σ H s) (rx:RelV x u) (ty:TyOf X.K H x t) (e:PySem.W.kitOne X.K t c=some b) (h:∀tk,Q (.bool b) { s with toks:=tk }) :
  wpAny (model X.prog X.w) A (call (.builtin "isinstance") [u,c]) Q E s:=by
 cases ty with
 | non=>cases (show u=Value.none from rx);exact PySem.W.kia_one PySem.W.kitx_none I.kIn True.intro e (fun z=>nomatch z) h
 | bl y=>cases (show u=Value.bool y from rx);exact PySem.W.kia_one PySem.W.kitx_bool I.kIn True.intro e (fun z=>nomatch z) h
 | int i=>obtain⟨t,q⟩:=(show ∃t,u=Value.int i t from rx);cases q;exact PySem.W.kia_one PySem.W.kitx_int I.kIn True.intro e (fun z=>nomatch z) h
 | str y=>obtain⟨t,q⟩:=(show ∃t,u=Value.str y t from rx);cases q;exact PySem.W.kia_one PySem.W.kitx_str I.kIn True.intro e (fun z=>nomatch z) h
 | flt y=>obtain⟨t,q⟩:=(show ∃t,u=Value.float y t from rx);cases q;exact PySem.W.kia_one PySem.W.kitx_float I.kIn True.intro e (fun z=>nomatch z) h
 | @lst a xs ea =>
  cases (show u=Value.ref a from rx);obtain⟨_,_,n,_,h1⟩:=(show ObjOk X.prog X.w H s.heap a (.lst xs) from I.hok a _ ea);exact PySem.W.kia_one PySem.W.kitx_list I.kIn ⟨_,h1,rfl⟩ e (fun z=>nomatch z) h
 | @frz a ob xs ea =>
  cases (show u=Value.ref a from rx);obtain⟨_,_,_,n,_,h1⟩:=(show ObjOk X.prog X.w H s.heap a (.frz ob (.lst xs)) from I.hok a _ ea);exact PySem.W.kia_one PySem.W.kitx_list I.kIn ⟨_,h1,rfl⟩ e (fun z=>nomatch z) h
 | @tup a xs ea =>
  cases (show u=Value.ref a from rx);obtain⟨_,_,_,p⟩:=(show ObjOk X.prog X.w H s.heap a (.tup xs) from I.hok a _ ea);obtain⟨o,h1,h2,_⟩:=p;exact PySem.W.kia_one PySem.W.kitx_tuple I.kIn ⟨o,h1,h2⟩ e (fun z=>nomatch z) h
 | @dK a kvs ea =>
  cases (show u=Value.ref a from rx);obtain⟨_,_,vs,_,p⟩:=(show ObjOk X.prog X.w H s.heap a (.dK kvs) from I.hok a _ ea);obtain⟨o,es,ep,h1,h2,_⟩:=p;exact PySem.W.kia_one PySem.W.kitx_dict I.kIn ⟨o,h1,h2.1⟩ e (fun z=>nomatch z) h
 | @dT a ep kvs ea =>
  cases (show u=Value.ref a from rx);obtain⟨_,_,xs,_,_,o,es,h1,h2,_⟩:=(show ObjOk X.prog X.w H s.heap a (.dT ep kvs) from I.hok a _ ea);exact PySem.W.kia_one PySem.W.kitx_dict I.kIn ⟨o,h1,h2.1⟩ e (fun z=>nomatch z) h
 | @ins a C dx fs ea cl ha hn htk hm =>
  cases (show u=Value.ref a from rx);obtain⟨mA,O,_⟩:=DH I.hok ea;obtain⟨od,J,_⟩:=O.look;exact PySem.W.kia_one (PySem.W.kitx_own (cl.get _) cl.hd ha hn htk hm) I.kIn J e (fun z=>nomatch z) h
end
end L2
namespace L2
open PySem PySem.Spec PyProof.Rows
structure Room (k:Nat) (A:Around):Prop where
 hd:A.handled=none
 dp:A.depth+3*k+5<recursionLimit
 un:A.units+16*k+200<cLine
theorem Room.mono {j k:Nat} {A:Around} (r:Room k A) (h:j<=k):Room j A:=⟨r.hd,by have:=r.dp;lia,by have:=r.un;lia⟩
theorem Room.deeper {k:Nat} {A:Around} (r:Room (k+1) A) (env:Env):Room k (A.deeper env) :=
 ⟨r.hd,by have:=r.dp;show A.depth+1+3*k+5<_;lia,by have:=r.un;show A.units+3+16*k+200<_;lia⟩
theorem vn {A:Around} {C:Addr} {us:List Value} {kw:List (Str×Value)}:(A.under (.builtin "type.__call__" ⟨.ref C::us,kw⟩)).depth=A.depth+1:=by
 first|rfl|simp[Around.under,Code.weight,Code.isCreation,Code.isGuard,Code.isCaller,Code.frames,Code.isFrame,guardIds]
theorem vo {A:Around} {C:Addr} {us:List Value} {kw:List (Str×Value)}:(A.under (.builtin "type.__call__" ⟨.ref C::us,kw⟩)).units=A.units+1:=by
 first|rfl|simp[Around.under,Code.cUnits,Code.frames,Code.isFrame]
theorem Room.make {k:Nat} {A:Around} (r:Room (k+1) A) (C:Addr) (us:List Value) (kw:List (Str×Value)):Room k (A.under (.builtin "type.__call__" ⟨.ref C::us,kw⟩)) :=
 ⟨r.hd,by have:=r.dp;rw[vn];lia,by have:=r.un;rw[vo];lia⟩
theorem Room.depth {k:Nat} {A:Around} (r:Room k A):A.depth<recursionLimit:=by have:=r.dp;lia
theorem Room.units {k:Nat} {A:Around} (r:Room k A):A.units+64<cLine:=by have:=r.un;lia
def eG:TA:=fun _ H Q=>Q [] H
def br (ta:TE) (tr:TA):TA:=fun σ H Q=>ta σ H fun x H1=>tr σ H1 fun xs H2=>Q (x::xs) H2
section
variable {X:Cx} {e:Expr} {es:List Expr} {te:TE} {t:TA} {pos:Pos}
theorem ah:PA X [] eG:=fun _ _ _ _ H Q I h=>BL ⟨[],H,I,.nil,h⟩
theorem wF (ha:PE X e te) (hr:PA X es t) (hs:starEach (e::es) X.env=(false,eval e X.env)::starEach es X.env:=by rfl):PA X (e::es) (br te t):=by
 intro pos pins s σ H Q I h;rw[hs];show wpAny _ _ (spliced ((false,eval e X.env)::backTo pos (starEach es X.env))) _ _ s;refine AC (dI (ha pins s σ H _ I h) fun u s1 zz9=>?_);obtain⟨x,H1,I1,r1,q1⟩:=zz9;exact dI (hr pos pins s1 σ H1 _ I1 q1) fun us s2 ⟨xs,H2,I2,r2,q2⟩=>⟨x::xs,H2,I2,.cons r1 r2,q2⟩
def Ha (t:TA):TE:=fun σ H Q=>t σ H fun xs H1=>xs.length<=sizeLine/\∀p,H1 p=none->Q (.ref p) (upd H1 p (.tup xs))
def g6 (t:TA):TE:=fun σ H Q=>t σ H fun xs H1=>xs.length<=sizeLine/\∀p,H1 p=none->Q (.ref p) (upd H1 p (.lst xs))
theorem jA {x1} (h:PA X es t):PE X (.Tuple es x1 pos) (Ha t):=by
 intro pins s σ H Q I hq;refine wpAny_Tuple_spliced (dI (h pos pins s σ H _ I hq) fun us s1 ⟨xs,H1,I1,r,z,q⟩=>⟨by rw[← r.length];exact z,?_⟩)
 have hf:H1 s1.heap.objs.size=none:=I1.hok.fresh (Wb _);refine⟨.ref s1.heap.objs.size,upd H1 s1.heap.objs.size (.tup xs),I1.laid (t':=s1.toks) (fun b u e=>Ac _ e) (Wb _) ?_,rfl,q _ hf⟩;exact⟨z,us,r,⟨_,Ak _ rfl,rfl,_,rfl⟩⟩
theorem be (h:PA X es t):PE X (.List es pos) (g6 t):=by
 intro pins s σ H Q I hq;refine wpAny_List_spliced (dI (h pos pins s σ H _ I hq) fun us s1 ⟨xs,H1,I1,r,z,q⟩=>⟨by rw[← r.length];exact z,?_⟩)
 have hf:H1 s1.heap.objs.size=none:=I1.hok.fresh (Wb _);refine⟨.ref s1.heap.objs.size,upd H1 s1.heap.objs.size (.lst xs),I1.laid (t':=s1.toks) (fun b u e=>Ac _ e) (Wb _) ?_,rfl,q _ hf⟩;exact⟨z,us,0,r,Ak _ rfl⟩
end
abbrev Sp:=List V->Hp->VK->XK->Prop
abbrev y6:=List Env->Hp->Shared->XK->Value->Shared->Prop
structure Env0 (P:Program) (w:World) (K:PySem.W.Frag) (mg:Str->Option Value) (base:Heap) (A:Around) (outer:List Env) (s:Shared) (H:Hp):Prop where
 frames:A.frames=some outer
 mod:Mod K mg base
 bs:∀b o,base.get? b=some o->s.heap.get? b=some o/\H b=none
 bsz:base.objs.size<=s.heap.objs.size
 funs:s.heap.FunFrames base outer
 frf:∀b∈g5 outer,H b=none
 hok:HOk P w H s.heap
 bare:AllBare s.gens
 tk:0<s.toks
def CE (outer:List Env) (P:Program) (w:World) (H:Hp) (s:Shared) (Q:VK) (u:Value) (s':Shared):Prop :=
 ∃v H',s'.os=s.os/\AllBare s'.gens/\Un (g5 outer) [] H H' s.heap s'.heap/\HOk P w H' s'.heap/\RelV v u/\Q v H'
def CR (CX:y6) (outer:List Env) (P:Program) (w:World) (H:Hp) (s:Shared) (Q:VK) (E:XK) (r:Result) (s':Shared):Prop :=
 match r with
 | .ok (.ret u)=>CE outer P w H s Q u s'
 | .ok _=>False
 | .error e=>CX outer H s E e s'
structure FnOk (P:Program) (w:World) (K:PySem.W.Frag) (mg:Str->Option Value) (base:Heap) (CX:y6) (k:Nat) (f:Addr) (fd:FuncData) (ps:List Str) (sp:Sp):Prop where
 len:∀vs H Q E,sp vs H Q E->vs.length=ps.length
 run:∀(A:Around) (outer:List Env) (s:Shared) (H:Hp) (args:Args) (us:List Value) (vs:List V) (Q:VK) (E:XK),Room k A->Env0 P w K mg base A outer s H->BindsTo s fd args (ps.zip us)->Vals vs us->sp vs H Q E ->
  codeAny (model P w) A (.call (.ref f) args) (CR CX outer P w H s Q E) s
theorem FnOk.imp {P:Program} {w:World} {K:PySem.W.Frag} {mg:Str->Option Value} {base:Heap} {CX:y6} {k:Nat} {f:Addr} {fd:FuncData} {ps:List Str} {sp sp':Sp} (F:FnOk P w K mg base CX k f fd ps sp)
  (h:∀vs H Q E,sp' vs H Q E->sp vs H Q E):FnOk P w K mg base CX k f fd ps sp' :=
 ⟨fun vs H Q E q=>F.len vs H Q E (h _ _ _ _ q),fun A outer s H args us vs Q E hr he hb hv hs=>F.run A outer s H args us vs Q E hr he hb hv (h _ _ _ _ hs)⟩
theorem Env0.make {P:Program} {w:World} {K:PySem.W.Frag} {mg:Str->Option Value} {base:Heap} {A:Around} {outer:List Env} {s:Shared} {H:Hp} (e:Env0 P w K mg base A outer s H) (C:Addr) (us:List Value) (kw:List (Str×Value)) :
  Env0 P w K mg base (A.under (.builtin "type.__call__" ⟨.ref C::us,kw⟩)) outer s H:=⟨by first|exact e.frames|(simpa[Around.under,Code.envs,Code.isFrame,pushEnvs]using e.frames),e.mod,e.bs,e.bsz,e.funs,e.frf,e.hok,e.bare,e.tk⟩
section
variable {X:Cx} {pins:List (Addr×Obj)} {σ:St} {H:Hp} {s s':Shared}
theorem Inv.env0 (I:Inv X pins σ H s):Env0 X.prog X.w X.K X.mg X.base X.A X.stack s H :=
 ⟨I.ok.frames,I.ok.mod,I.bs,Yc I.ok.bsz I.sz,I.stack,I.stkFree,I.hok,I.bare,I.tk⟩
theorem Inv.after {Q:VK} {u:Value} (I:Inv X pins σ H s) (h:CE X.stack X.prog X.w H s Q u s') (hle:s.toks<=s'.toks):EP X pins σ Q u s':=by
 obtain⟨v,H',os,bare,un,hok,r,q⟩:=h;obtain⟨hh,g,d,t,os'⟩:=s';obtain rfl:os'=s.os:=os;exact⟨v,H',I.call (h':=hh) (g':=g) (d':=d) (t':=t) (ch:=[]) un hok bare (fun b z=>absurd z (by simp)) (I.tkl' hle),r,q⟩
end
def zu (sp:Sp) (dvs:List V) (E:XK) (t:TA):TE:=fun σ H Q=>t σ H fun vs H1=>sp (vs++dvs) H1 Q E
def Binds (K:PySem.W.Frag) (fd:FuncData) (ps:List Str) (ds:List Value):Prop :=
 ∀(s:Shared) (us:List Value),K.In s.heap->(us++ds).length=ps.length->BindsTo s fd ⟨us,[]⟩ (ps.zip (us++ds))
theorem Binds.all {K:PySem.W.Frag} {fd:FuncData} {ps:List Str} (h:∀us:List Value,us.length=ps.length->bindArgs fd ⟨us,[]⟩=pure (ps.zip us)):Binds K fd ps []:=fun s us _ hl=>by
 rw[Wc]at hl ⊢;exact .of_eq (h us hl)
def vp (CX:y6) (X:Cx) (E:XK):Prop:=∀(pins:List (Addr×Obj)) (σ:St) (H:Hp) (s:Shared) (e:Value) (s':Shared),Inv X pins σ H s->CX X.stack H s E e s'->X.xe e s'
section
variable {X:Cx} {CX:y6} {k:Nat} {f C:Addr} {fd:FuncData} {ps:List Str} {sp:Sp} {dvs:List V} {ds:List Value} {E:XK} {x m:Str} {p pos apos:Pos} {e o:Expr} {es:List Expr} {ta:TE} {t:TA}
theorem Hb {pins:List (Addr×Obj)} {σ:St} {H:Hp} {s:Shared} {Q:VK} {us:List Value} {vs:List V} (F:FnOk X.prog X.w X.K X.mg X.base CX k f fd ps sp) (hr:Room k X.A) (hb:Binds X.K fd ps ds) (hd:Vals dvs ds) (hx:vp CX X E)
  (I:Inv X pins σ H s) (r:Vals vs us) (h:sp (vs++dvs) H Q E):wpAny (model X.prog X.w) X.A (call (.ref f) us) (EP X pins σ Q) X.xe s:=by
 have r2:Vals (vs++dvs) (us++ds):=r.append hd;have hl:(us++ds).length=ps.length:=by rw[← r2.length];exact F.len _ _ _ _ h
 refine wpAny_call (k0 (AA (F.run X.A X.stack s H ⟨us,[]⟩ (us++ds) (vs++dvs) Q E hr I.env0 (hb s us I.kIn hl) r2 h) fun r s' hq hle=>?_));cases r with
 | error e=>exact hx pins σ H s e s' I hq
 | ok fl =>
  cases fl with
  | ret u=>exact I.after hq hle
  | next=>exact False.elim hq
  | brk=>exact False.elim hq
  | cont=>exact False.elim hq
theorem wG (F:FnOk X.prog X.w X.K X.mg X.base CX k f fd ps sp) (hr:Room k X.A) (hg:Gl X x) (hm:X.mg x=some (.ref f)) (hk:PySem.W.keepIn X.K (.ref f)=true) (hb:Binds X.K fd ps ds) (hd:Vals dvs ds) (hx:vp CX X E)
  (ha:PA X (e::es) t) (hdb:(x == ("__debug__":Str))=false:=by decide) (he:starEach (e::es) X.env=(false,eval e X.env)::starEach es X.env:=by rfl) (hpl:(backTo pos (starEach es X.env)).any (·.1)=false:=by rfl) :
  PE X (.Call (.Name x p) (e::es) [] pos) (zu sp dvs E t):=by
 intro pins s σ H Q I h;refine Au (gj I hg hm ?_ hdb);refine PySem.W.callWith_K (h₀:=X.base) I.ok.mod.kin hk (dI (ha pos pins s σ H _ I h) fun us s1 ⟨vs,H1,I1,r,q⟩=>⟨I1.kIn,?_⟩) he hpl;exact Hb F hr hb hd hx I1 r q
end
structure FnScope (N P:List Str) (sc:Scope):Prop where
 kind:sc.kind=.function
 co:sc.isCoroutine=false
 gen:sc.isGenerator=false
 nd:N.Nodup
 pre:N.take P.length=P
 par:∀x∈P,sc.names.lookup x=some .local∨sc.names.lookup x=some .cell
 nofree:∀y∈sc.names,y.2≠.free
theorem qF {kindOf:Str->Option NameKind} {x:Str}:∀{binds:List (Str×Value)} {m:Str->Option Value},(∀v,(x,v)∉binds)->bindL kindOf binds m x=m x
 | [],_,_=>rfl
 | (n,v)::r,m,h=>by
  unfold bindL;rw[qF fun w hw=>h w (Yb _ hw)];split
  ·have:x≠n:=by rintro rfl;exact h v Va
   simp[this]
  ·rfl
theorem qG {kindOf:Str->Option NameKind} {x:Str}:∀{binds:List (Str×Value)} {m:Str->Option Value},(∀v,(x,v)∉binds)->bindC kindOf binds m x=m x
 | [],_,_=>rfl
 | (n,v)::r,m,h=>by
  unfold bindC;rw[qG fun w hw=>h w (Yb _ hw)];split
  ·rfl
  ·have:x≠n:=by rintro rfl;exact h v Va
   simp[this]
theorem qH {kindOf:Str->Option NameKind} {x:Str} {v:Value}:∀{P:List Str} {vs:List Value} {i:Nat} {m:Str->Option Value},P.Nodup->P[i]?=some x->vs[i]?=some v->kindOf x=some .local ->
  bindL kindOf (P.zip vs) m x=some v
 | [],_,_,_,_,h,_,_=>by simp at h
 | _::_,[],_,_,_,_,h,_=>by simp at h
 | p::P,w::vs,0,m,nd,h1,h2,hk=>by
  simp at h1 h2;subst h1;subst h2;show bindL kindOf ((p,w)::P.zip vs) m p=_;unfold bindL;rw[qF fun v hv=>(Zj.mp nd).1 (BO hv).1,Af hk];simp
 | p::P,w::vs,i+1,m,nd,h1,h2,hk=>by
  show bindL kindOf ((p,w)::P.zip vs) m x=_;unfold bindL;exact qH (i:=i) (Zj.mp nd).2 (by simpa using h1) (by simpa using h2) hk
theorem qI {kindOf:Str->Option NameKind} {x:Str} {v:Value}:∀{P:List Str} {vs:List Value} {i:Nat} {m:Str->Option Value},P.Nodup->P[i]?=some x->vs[i]?=some v->kindOf x≠some .local ->
  bindC kindOf (P.zip vs) m x=some v
 | [],_,_,_,_,h,_,_=>by simp at h
 | _::_,[],_,_,_,_,h,_=>by simp at h
 | p::P,w::vs,0,m,nd,h1,h2,hk=>by
  simp at h1 h2;subst h1;subst h2;show bindC kindOf ((p,w)::P.zip vs) m p=_;unfold bindC;rw[qG fun v hv=>(Zj.mp nd).1 (BO hv).1,Ah hk];simp
 | p::P,w::vs,i+1,m,nd,h1,h2,hk=>by
  show bindC kindOf ((p,w)::P.zip vs) m x=_;unfold bindC;exact qI (i:=i) (Zj.mp nd).2 (by simpa using h1) (by simpa using h2) hk
def start (N:List Str) (vs:List V):St:=vs.map some++List.replicate (N.length-vs.length) none
def dP (CX:y6) (P:Program) (w:World) (K:PySem.W.Frag) (mg:Str->Option Value) (base:Heap) (N:List Str) (qual:Str) (scope:Scope) (f:Addr) (cd:Value) (A:Around) (outer:List Env) (s:Shared) (H:Hp) (E:XK):Cx where
 prog:=P
 w:=w
 K:=K
 mg:=mg
 base:=base
 A:=A.deeper (envOfC qual scope s.heap.objs.size f cd)
 N:=N
 s₀:=s
 H₀:=H
 env:=envOfC qual scope s.heap.objs.size f cd
 outer:=outer
 stack:=envOfC qual scope s.heap.objs.size f cd::outer
 ex:=[]
 calm:=true
 fn:=fun _=>true
 pn:=[]
 xe:=fun e s'=>wpAny (model P w) (A.deeper (envOfC qual scope s.heap.objs.size f cd)) (leaving (envOfC qual scope s.heap.objs.size f cd) e) (fun _ s''=>CX outer H s E e s'') (fun e' s''=>CX outer H s E e' s'') s'
theorem tV {sc:Scope} {n:Nat} {x:Str} (h:sc.names.lookup x=some .cell):∃c,(cellsFrom n sc.names []).lookup x=some c:=by
 have q:=PySem.W.cellsFrom_some sc.names n [] (.inl h);exact Option.isSome_iff_exists.mp q
theorem yd {CX:y6} {P:Program} {w:World} {K:PySem.W.Frag} {mg:Str->Option Value} {base:Heap} {N ps:List Str} {qual:Str} {scope:Scope} {f:Addr} {cd:Value} {A:Around} {outer:List Env} {s s1:Shared} {H:Hp} {E:XK} {us:List Value} {vs:List V}
  (S:FnScope N ps scope) (hd:A.handled=none) (e0:Env0 P w K mg base A outer s H) (hl:vs.length=ps.length) (r:Vals vs us)
  (x:InCallC s s.heap.objs.size (bindL (envOfC qual scope s.heap.objs.size f cd).kindOf (ps.zip us) fun _=>none) (cellsFrom (s.heap.objs.size+1) scope.names []) (bindC (envOfC qual scope s.heap.objs.size f cd).kindOf (ps.zip us) fun _=>none) s1) (ht:0<s1.toks) :
  Inv (dP CX P w K mg base N qual scope f cd A outer s H E) [] (start N vs) H s1:=by
 have hpl:ps.length<=N.length:=by have:=congrArg List.length S.pre;rw[Qg]at this;lia
 obtain⟨h1,tk,rfl,hk⟩:=x.done;have noA:∀b:Addr,b∉(dP CX P w K mg base N qual scope f cd A outer s H E).ex:=fun b z=>absurd (show b∈([]:List Addr) from z) (by simp)
 refine⟨⟨e0.mod,S.kind,rfl,rfl,Wb _,fun y z c h1 h2=>?_,fun y hy=>?_,fun y c _ h=>?_,fun _=>hd,Around.frames_deeper e0.frames,.inr ⟨rfl,rfl⟩,fun b z=>absurd z (noA b),e0.bs,e0.bsz,fun b _ _=>noA b,fun b z=>absurd z (noA b),e0.funs,e0.frf⟩,
  rfl,e0.bare,Un.kept hk,⟨_,x.toInCall.ns,fun i y v h1 h2 h3=>?_⟩,fun y c h=>⟨_,x.cell y c h⟩,e0.hok.fresh (Wb _),fun y c h=>?_,fun p hp=>absurd (show p∈([]:List (Addr×Obj)) from hp) (by simp),e0.hok.kept hk,?_,ht⟩
 ·exact name_of_addr x.apart (PySem.mem_of_lookup h1) (PySem.mem_of_lookup h2)
 ·have hy:scope.names.lookup y=some .cell∨scope.names.lookup y=some .free:=hy;rcases hy with hy|hy
  ·exact tV hy
  ·exact absurd rfl (S.nofree _ (PySem.mem_of_lookup hy))
 ·exact BX (x.above y c (PySem.mem_of_lookup h))
 ·have hi:i<vs.length:=by
   unfold start at h2;by_cases hi:i<vs.length
   ·exact hi
   ·rw[Wf (by simpa using hi)]at h2
    rw[Xk]at h2;split at h2<;>cases h2
  have ha:vs[i]?=some v:=by
   unfold start at h2;rw[Wj (by simpa using hi),Zg]at h2
   cases e:vs[i]? with
   | none=>rw[e]at h2;cases h2
   | some a=>rw[e]at h2;cases h2;rfl
  obtain⟨u,hu,rv⟩:=r.get ha;have hp:ps[i]?=some y:=by
   rw[← S.pre,List.getElem?_take_of_lt (by lia)];exact h1
  have ndP:ps.Nodup:=by rw[← S.pre];exact S.nd.sublist (List.take_sublist _ _)
  refine⟨u,rv,?_⟩;rcases S.par y (Yg hp) with k|k
  ·exact .inl ⟨k,qH ndP hp hu k⟩
  ·obtain⟨c,e⟩:=tV (n:=s.heap.objs.size+1) k;refine .inr ⟨.inl k,c,e,?_⟩;have q:=x.cell y c e;rw[qI ndP hp hu (by show scope.names.lookup y≠_;rw[k];decide)]at q
   exact q
 ·exact e0.hok.fresh (BX (x.above y c (PySem.mem_of_lookup h)))
 ·unfold start;show _=N.length;rw[Wa,Xa,Vi];lia
theorem zv {CX:y6} {P:Program} {w:World} {K:PySem.W.Frag} {mg:Str->Option Value} {base:Heap} {k:Nat} {f:Addr} {name qual:Str} {params:Arguments} {body:List Stmt} {scope:Scope} {dV kV doc pm cdv ct oc:Value} {an od:Option Addr}
  {osl:Array (Option Value)} {N ps:List Str} {sp:Sp} (lk:K.lookup f=some ⟨oc,od,.func (PySem.W.fnOf name qual params body scope dV kV doc pm an cdv ct),osl⟩) (hcd:PySem.W.codeIn K cdv qual=true) (S:FnScope N ps scope)
  (len:∀vs H Q E,sp vs H Q E->vs.length=ps.length)
  (hbody:∀(A:Around) (outer:List Env) (s:Shared) (H:Hp) (vs:List V) (Q:VK) (E:XK),Room k (A.deeper (envOfC qual scope s.heap.objs.size f cdv))->sp vs H Q E ->
   ∃t,PSs (dP CX P w K mg base N qual scope f cdv A outer s H E) body t/\t { nx:=fun _ H'=>Q .non H',rt:=Q } (start N vs) H) :
  FnOk P w K mg base CX (k+1) f (PySem.W.fnOf name qual params body scope dV kV doc pm an cdv ct) ps sp:=by
 refine⟨len,fun A outer s H args us vs Q E hr e0 hb r hsp=>?_⟩;have hl:=len _ _ _ _ hsp;have KX:K.In s.heap:=e0.mod.kin.keeps fun b o e=>(e0.bs b o e).1;have lim:s.heap.NoLimit:=e0.mod.nolimit.keeps fun b o e=>(e0.bs b o e).1;have hkind:∀y∈ps.zip us,scope.names.lookup y.1=some .local∨(scope.names.lookup y.1=some .cell/\((cellsFrom (s.heap.objs.size+1) scope.names []).lookup y.1).isSome=true):=fun⟨n,v⟩ hy=>by
  rcases S.par n (BO hy).1 with q|q
  ·exact .inl q
  ·exact .inr ⟨q,PySem.W.cellsFrom_some _ _ _ (.inl q)⟩
 refine codeAny_call_function hr.depth (KX _ _ lk) rfl S.co S.gen rfl (PySem.W.codeRec_of KX hcd) (hb _ _ _ _ ?_);refine bW (wpAny_newFunctionEnv_cells S.kind hkind fun env he s1 x hle=>?_);subst he;refine⟨lim.keeps x.toInCall.keep,codeAny_func ?_⟩;obtain⟨t,ht,hq⟩:=hbody A outer s H vs Q E (hr.deeper _) hsp;have I:Inv (dP CX P w K mg base N qual scope f cdv A outer s H E) [] (start N vs) H s1:=yd S hr.hd e0 hl r x (Vb e0.tk hle);refine Al (ht [] s1 (start N vs) H _ I hq) (fun fl s' hs=>?_) fun e s' hs=>hs;have fin:∀{σ':St} {H':Hp} {v:V} {u:Value},Inv (dP CX P w K mg base N qual scope f cdv A outer s H E) [] σ' H' s'->RelV v u->Q v H'->CE outer P w H s Q u s' :=
  fun {σ' H' v u} J rv q=>⟨v,H',J.os,J.bare,J.base,J.hok,rv,q⟩
 cases fl with
 | ret u =>
  obtain⟨v,σ',H',J,rv,q⟩:=hs;exact fin J rv q
 | next =>
  obtain⟨σ',H',J,q⟩:=hs;exact fin (v:=V.non) (u:=Value.none) J rfl q
 | brk =>
  obtain⟨_,_,_,q⟩:=hs;exact False.elim q
 | cont =>
  obtain⟨_,_,_,q⟩:=hs;exact False.elim q
end L2
namespace L2
open PySem PySem.Spec PyProof.Rows
section
variable {X:Cx} {x:Str} {p pos:Pos} {e:Expr} {es:List Expr} {t:TA} {id T:String} {r:List V->Hp->VK->Prop}
def Ds (r:List V->Hp->VK->Prop) (t:TA):TE:=fun σ H Q=>t σ H fun vs H1=>r vs H1 Q
theorem dS (hc:CallR X (.builtin id) r) (hg:Gl X x) (hm:X.mg x=none) (hv:bootBuiltins x=some (.builtin id)) (ha:PA X (e::es) t) (hn:x≠"__name__":=by decide) (hdb:(x == ("__debug__":Str))=false:=by decide)
  (he:starEach (e::es) X.env=(false,eval e X.env)::starEach es X.env:=by rfl) (hpl:(backTo pos (starEach es X.env)).any (·.1)=false:=by rfl):PE X (.Call (.Name x p) (e::es) [] pos) (Ds r t):=by
 intro pins s σ H Q I h;refine Au (rE I hg hm hv ?_ hn hdb);exact PyProof.Rows.callWith_builtin1 (dI (ha pos pins s σ H _ I h) fun us s1 ⟨vs,H1,I1,r1,q1⟩=>hc pins s1 σ H1 vs us Q I1 r1 q1) he hpl
theorem fX (hc:CallR X (.type T) r) (hg:Gl X x) (hm:X.mg x=none) (hv:bootBuiltins x=some (.type T)) (ha:PA X (e::es) t) (hn:x≠"__name__":=by decide) (hdb:(x == ("__debug__":Str))=false:=by decide)
  (he:starEach (e::es) X.env=(false,eval e X.env)::starEach es X.env:=by rfl) (hpl:(backTo pos (starEach es X.env)).any (·.1)=false:=by rfl):PE X (.Call (.Name x p) (e::es) [] pos) (Ds r t):=by
 intro pins s σ H Q I h;refine Au (rE I hg hm hv ?_ hn hdb);exact BP (dI (ha pos pins s σ H _ I h) fun us s1 ⟨vs,H1,I1,r1,q1⟩=>hc pins s1 σ H1 vs us Q I1 r1 q1) he hpl
end
end L2
namespace L2
open PySem PySem.Spec PyProof.Rows
section
variable {κ:Type} [DecidableEq κ]
def jB (kvs:List (κ×V)) (k:κ):Option V:=(kvs.find? fun kv=>decide (kv.1=k)).map (·.2)
def putK (kvs:List (κ×V)) (k:κ) (v:V):List (κ×V) :=
 if (kvs.any fun kv=>decide (kv.1=k))=true then kvs.map (fun kv=>if kv.1=k then(kv.1,v) else kv) else kvs++[(k,v)]
theorem jC {p:κ×V} {r:List (κ×V)} {k:κ} (e:p.1=k):jB (p::r) k=some p.2:=by simp[jB,Wi,e]
theorem jD {p:κ×V} {r:List (κ×V)} {k:κ} (e:¬ p.1=k):jB (p::r) k=jB r k:=by simp[jB,Wi,e]
theorem tW (k:κ):∀kvs:List (κ×V),(kvs.any fun kv=>decide (kv.1=k))=(jB kvs k).isSome
 | []=>rfl
 | p::r=>by
  rw[Ym];by_cases e:p.1=k
  ·simp only[jC e,Ae e,Bool.true_or,Option.isSome_some]
  ·rw[jD e,Ag e,Bool.false_or];exact tW k r
theorem nP (kvs:List (κ×V)) (k:κ) (v:V):(putK kvs k v).length<=kvs.length+1:=by
 unfold putK;split
 ·rw[Xa];lia
 ·rw[Wa,Vd,AV];lia
theorem RelO.isSome_eq {o:Option V} {u:Option Value} (r:RelO o u):o.isSome=u.isSome:=by
 cases o with
 | none=>cases u with
  | none=>rfl
  | some _=>exact(show False from r).elim
 | some _=>cases u with
  | none=>exact(show False from r).elim
  | some _=>rfl
theorem KV.val {kvs:List (κ×V)} {vs:List (κ×Value)} (r:KV kvs vs) (k:κ):RelO (jB kvs k) (valueAt vs k):=by
 unfold KV at r;induction r with
 | nil=>exact True.intro
 | @cons p q ps qs h t ih =>
  obtain⟨h1,h2⟩:=h;by_cases e:p.1=k
  ·have e':q.1=k:=h1.symm.trans e;have b:valueAt (q::qs) k=some q.2:=by simp[valueAt,Wi,e']
   rw[jC e,b];exact h2
  ·have e':¬ q.1=k:=fun z=>e (h1.trans z);have b:valueAt (q::qs) k=valueAt qs k:=by simp[valueAt,Wi,e']
   rw[jD e,b];exact ih
theorem KV.any {kvs:List (κ×V)} {vs:List (κ×Value)} (r:KV kvs vs) (k:κ):(kvs.any fun kv=>decide (kv.1=k))=vs.any fun kv=>decide (kv.1=k):=by
 unfold KV at r;induction r with
 | nil=>rfl
 | cons h t ih=>rw[Ym,Ym,ih,h.1]
theorem KV.repl {kvs:List (κ×V)} {vs:List (κ×Value)} (r:KV kvs vs) (k:κ) {y:V} {u:Value} (ry:RelV y u) :
  KV (kvs.map fun kv=>if kv.1=k then(kv.1,y) else kv) (vs.map fun kv=>if kv.1=k then(kv.1,u) else kv):=by
 unfold KV at r ⊢;induction r with
 | nil=>exact .nil
 | @cons p q ps qs h t ih =>
  rw[Ze,Ze];refine .cons ?_ ih;obtain⟨h1,h2⟩:=h;by_cases e:p.1=k
  ·rw[Af e,Af (h1.symm.trans e)];exact⟨h1,ry⟩
  ·rw[Ah e,Ah (fun z=>e (h1.trans z))];exact⟨h1,h2⟩
theorem KV.put {kvs:List (κ×V)} {vs:List (κ×Value)} (r:KV kvs vs) (k:κ) {y:V} {u:Value} (ry:RelV y u):KV (putK kvs k y) (stored vs k u):=by
 unfold putK stored;rw[r.any k];by_cases e:(vs.any fun kv=>decide (kv.1=k))=true
 ·rw[Af e,Af e];exact r.repl k ry
 ·rw[Ah e,Ah e];exact Paired.snoc r ⟨rfl,ry⟩
theorem KV.length {kvs:List (κ×V)} {vs:List (κ×Value)} (r:KV kvs vs):kvs.length=vs.length:=Paired.length r
end
theorem tX {P:Program} {w:World} {k:Key} {u:Value} (r:RelV (kV k) u):(cN P w).is k u=true:=by
 cases k with
 | inl i=>obtain⟨t,e⟩:=(show ∃t,u=Value.int i t from r);subst e;exact tQ P w i t
 | inr x=>obtain⟨t,e⟩:=(show ∃t,u=Value.str x t from r);subst e;exact gw P w x t
theorem qJ {P:Program} {w:World}:∀{ks:List Key} {us:List Value},Vals (ks.map kV) us->ItemsAre (cN P w) ks us
 | [],_,r=>by rw[List.map_nil]at r;cases r;exact .nil
 | k::ks,_,r=>by
  rw[Ze]at r;cases r with
  | cons h t=>exact .cons (tX h) (qJ t)
abbrev KT (H:Hp):List (List Key×V)->List (List Key×Addr×Value)->Prop:=Paired fun p q=>p.1=q.1/\H q.2.1=some (.tup (p.1.map kV))/\RelV p.2 q.2.2
theorem KT.val {H:Hp} {kvs:List (List Key×V)} {xs:List (List Key×Addr×Value)} (r:KT H kvs xs) (k:List Key):RelO (jB kvs k) ((atKey xs k).map (·.2)):=by
 induction r with
 | nil=>exact True.intro
 | @cons p q ps qs h t ih =>
  obtain⟨h1,_,h2⟩:=h;by_cases e:p.1=k
  ·have e':q.1=k:=h1.symm.trans e;have b:atKey (q::qs) k=some q.2:=by simp[atKey,Wi,e']
   rw[jC e,b];exact h2
  ·have e':¬ q.1=k:=fun z=>e (h1.trans z);have b:atKey (q::qs) k=atKey qs k:=by simp[atKey,Wi,e']
   rw[jD e,b];exact ih
theorem KT.repl {H:Hp} {kvs:List (List Key×V)} {xs:List (List Key×Addr×Value)} (r:KT H kvs xs) (k:List Key) {y:V} {u:Value} (ry:RelV y u) :
  KT H (kvs.map fun kv=>if kv.1=k then(kv.1,y) else kv) (xs.map (putAt k u)):=by
 induction r with
 | nil=>exact .nil
 | @cons p q ps qs h t ih =>
  rw[Ze,Ze];refine .cons ?_ ih;obtain⟨h1,h2,h3⟩:=h;unfold putAt;by_cases e:p.1=k
  ·rw[Af e,Af (h1.symm.trans e)];exact⟨h1,h2,ry⟩
  ·rw[Ah e,Ah (fun z=>e (h1.trans z))];exact⟨h1,h2,h3⟩
theorem KT.put {H:Hp} {kvs:List (List Key×V)} {xs:List (List Key×Addr×Value)} (r:KT H kvs xs) (k:List Key) {b:Addr} {y:V} {u:Value} (hb:H b=some (.tup (k.map kV))) (ry:RelV y u) :
  KT H (putK kvs k y) (storedH xs k b u):=by
 have e:(kvs.any fun kv=>decide (kv.1=k))=(atKey xs k).isSome:=by
  rw[tW,(r.val k).isSome_eq,A5]
 unfold putK storedH;rw[e];by_cases q:(atKey xs k).isSome=true
 ·rw[Af q,Af q];exact r.repl k ry
 ·rw[Ah q,Ah q];exact Paired.snoc r ⟨rfl,hb,ry⟩
theorem KT.keeps {H H':Hp} {kvs:List (List Key×V)} {xs:List (List Key×Addr×Value)} (r:KT H kvs xs) (ht:∀b ys,H b=some (.tup ys)->H' b=some (.tup ys)):KT H' kvs xs :=
 Paired.mapP r fun _ _ z=>⟨z.1,ht _ _ z.2.1,z.2.2⟩
section
variable {P:Program} {w:World} {H:Hp} {h:Heap} {a:Addr}
theorem FN {u:HO} (ok:HOk P w H h) (e:Rd H a u):ObjOk P w H h a u:=e.ok ok
theorem FP {kvs:List (Key×V)} (ok:HOk P w H h) (e:Rd H a (.dK kvs)):kvs.length<=sizeLine/\(a == sysModules)=false/\∃vs,KV kvs vs/\h.DictOf (cN P w) a vs :=
 show ObjOk P w H h a (.dK kvs) from FN ok e
theorem JL {kvs:List (Key×V)} (ok:HOk P w H h) (e:H a=some (.dK kvs)):kvs.length<=sizeLine/\(a == sysModules)=false/\∃vs,KV kvs vs/\h.DictOf (cN P w) a vs:=FP ok (.inl e)
theorem rL {ks:List Key} (ok:HOk P w H h) (e:H a=some (.tup (ks.map kV))):(tupleKind (cN P w)).is h ks a:=by
 obtain⟨_,its,r,o,h1,h2,n,h3⟩:=(show ObjOk P w H h a (.tup (ks.map kV)) from ok a _ e);exact⟨o,its.toArray,n,h1,h2,h3,by simpa using qJ r⟩
theorem JM {ep:Nat×List Addr} {kvs:List (List Key×V)} (ok:HOk P w H h) (e:Rd H a (.dT ep kvs)):kvs.length<=sizeLine/\(a == sysModules)=false /\
  ∃xs,KT H kvs xs/\h.DictOfH (tupleKind (cN P w)) a xs:=by
 obtain⟨z,y,xs,r,_,o,es,h1,h2,h3,h4,h5⟩:=(show ObjOk P w H h a (.dT ep kvs) from FN ok e);refine⟨z,y,xs,r,o,es,ep.1,h1,h2,h3,h4,fun x hx=>?_,h5⟩;have all:∀{l:List (List Key×V)} {m:List (List Key×Addr×Value)},KT H l m->∀x∈m,(tupleKind (cN P w)).is h x.1 x.2.1:=by
  intro l m q;induction q with
  | nil=>intro x hx;exact nomatch hx
  | @cons p q ps qs hq t ih =>
   intro x hx;rcases Vc.mp hx with e|hx
   ·subst e;exact rL ok (by rw[← hq.1];exact hq.2.1)
   ·exact ih x hx
 exact all r x hx
end
section
variable {P:Program} {w:World} {H:Hp} {h:Heap} {a:Addr}
theorem JN {ep:Nat×List Addr} {kvs:List (List Key×V)} (ok:HOk P w H h) (e:H a=some (.dT ep kvs)):kvs.length<=sizeLine/\(a == sysModules)=false /\
  ∃xs,KT H kvs xs/\xs.map (·.2.1)=ep.2/\h.DictOfH (tupleKind (cN P w)) a xs:=by
 obtain⟨z,y,xs,r,ra,o,es,h1,h2,h3,h4,h5⟩:=(show ObjOk P w H h a (.dT ep kvs) from ok a _ e);refine⟨z,y,xs,r,ra,o,es,ep.1,h1,h2,h3,h4,fun x hx=>?_,h5⟩;have all:∀{l:List (List Key×V)} {m:List (List Key×Addr×Value)},KT H l m->∀x∈m,(tupleKind (cN P w)).is h x.1 x.2.1:=fun {l m} q=>by
  induction q with
  | nil=>exact fun x hx=>nomatch hx
  | cons hq t ih =>
   intro x hx;rcases Vc.mp hx with e'|hx
   ·subst e';exact rL ok (by rw[← hq.1];exact hq.2.1)
   ·exact ih x hx
 exact all r x hx
end
def DGet (H:Hp) (a:Addr) (y:V) (r:Option V):Prop :=
 (∃kvs k,Rd H a (.dK kvs)/\y=kV k/\r=jB kvs k)∨∃ep kvs k b,Rd H a (.dT ep kvs)/\y=.ref b/\H b=some (.tup (k.map kV))/\r=jB kvs k
def ye (as:List Addr) (kvs:List (List Key×V)) (k:List Key) (b:Addr):List Addr:=if (jB kvs k).isSome=true then as else as++[b]
def JO (H:Hp) (a:Addr) (y v:V) (R:Hp->Prop):Prop :=
 (∃kvs k,H a=some (.dK kvs)/\y=kV k/\kvs.length<sizeLine/\R (upd H a (.dK (putK kvs k v)))) ∨
 ∃ep kvs k b,H a=some (.dT ep kvs)/\y=.ref b/\H b=some (.tup (k.map kV))/\kvs.length<sizeLine/\∀n,R (upd H a (.dT (n,ye ep.2 kvs k b) (putK kvs k v)))
theorem DGet.k {H:Hp} {a:Addr} {kvs:List (Key×V)} {k:Key} (e:H a=some (.dK kvs)):DGet H a (kV k) (jB kvs k):=.inl ⟨kvs,k,.inl e,rfl,rfl⟩
theorem DGet.t {H:Hp} {a b:Addr} {ep:Nat×List Addr} {kvs:List (List Key×V)} {k:List Key} (e:H a=some (.dT ep kvs)) (eb:H b=some (.tup (k.map kV))):DGet H a (.ref b) (jB kvs k):=.inr ⟨ep,kvs,k,b,.inl e,rfl,eb,rfl⟩
theorem Hc {H:Hp} {kvs:List (List Key×V)} {xs:List (List Key×Addr×Value)} {as:List Addr} {k:List Key} {b:Addr} {u:Value} (ra:xs.map (·.2.1)=as) (rel:KT H kvs xs):(storedH xs k b u).map (·.2.1)=ye as kvs k b:=by
 have e:(jB kvs k).isSome=(atKey xs k).isSome:=by rw[(rel.val k).isSome_eq,A5]
 unfold storedH ye;rw[e];by_cases q:(atKey xs k).isSome=true
 ·rw[Af q,Af q,← ra,Vj];refine Vk fun x _=>?_;show(putAt k u x).2.1=x.2.1;unfold putAt;split<;>rfl
 ·rw[Ah q,Ah q,Qd,ra];rfl
section
variable {X:Cx} {pins:List (Addr×Obj)} {σ:St} {H:Hp} {s:Shared} {a:Addr} {y v:V} {u r:Value} {o:Option V} {A:Around} {E:Value->Shared->Prop}
theorem Inv.big (I:Inv X pins σ H s):sysModules<s.heap.objs.size:=by
 have h:mainGlobals<s.heap.objs.size:=(I.mod.glob.keeps I.bk).lt;exact Nat.lt_trans (by decide) h
theorem LN {Q:Value->Shared->Prop} (hu:A.units+1<cLine) (I:Inv X pins σ H s) (g:DGet H a y o) (ry:RelV y u) (h:∀s',Inv X pins σ H s'->Q (.bool o.isSome) s') :
  wpAny (model X.prog X.w) A (compareOp .In u (.ref a)) Q E s:=by
 rcases g with⟨kvs,k,e,ey,l⟩|⟨ep,kvs,k,b,e,ey,eb,l⟩
 ·subst ey;obtain⟨z,hd,vs,rel,dd⟩:=FP I.hok e;refine wpAny_in_of (tX ry) hd dd.mapOf ?_;rw[← (rel.val k).isSome_eq,← l];exact h _ (I.tok _)
 ·subst ey;cases (show u=Value.ref b from ry);obtain⟨z,hd,xs,rel,dd⟩:=JM I.hok e;refine wpAny_in_heap (tupleKind_room_in1 hu) (rL I.hok eb) hd dd ?_;have q:=(rel.val k).isSome_eq;rw[A5]at q;rw[← q,← l];exact h _ (I.tok _)
theorem wH {h':Heap} {t':Nat} {ob:HO} (I:Inv X pins σ H s) (mu:JB (H a)) (hs:Heap.SameBut a s.heap h') (he:∃q,h'.get? a=some q) (new:ObjOk X.prog X.w (upd H a ob) h' a ob) (ht:0<t':=by first|assumption|exact Wg _|exact Inv.tk (by assumption)|exact Inv.tkl (by assumption) (by assumption)|lia) :
  Inv X pins σ (upd H a ob) { s with heap:=h',toks:=t' } :=
 I.write (x:=a) (e:=a) mu (.inl rfl) (fun b q hb z=>(hs.2 b hb).trans z) he new
theorem Hd {P:Program} {w:World} {H':Hp} {h':Heap} {kvs:List (Key×V)} {vs:List (Key×Value)} (z:kvs.length<=sizeLine) (hd:(a == sysModules)=false) (rel:KV kvs vs) (dd:h'.DictOf (cN P w) a vs) :
  ObjOk P w H' h' a (.dK kvs):=⟨z,hd,vs,rel,dd⟩
theorem yf {R:Hp->Prop} {Q:Unit->Shared->Prop} (hu:A.units+1<cLine) (I:Inv X pins σ H s) (g:JO H a y v R) (ry:RelV y u) (rv:RelV v r) (h:∀s' H',Inv X pins σ H' s'->R H'->Q () s') :
  wpAny (model X.prog X.w) A (setItem (.ref a) u r) Q E s:=by
 rcases g with⟨kvs,k,e,ey,l,eH⟩|⟨ep,kvs,k,b,e,ey,eb,l,eH⟩
 ·subst ey;obtain⟨z,hd,vs,rel,dd⟩:=JL I.hok e;have hz:vs.length<=sizeLine:=by rw[← rel.length];exact z
  have hl:(putK kvs k v).length<=sizeLine:=by have:=nP kvs k v;lia
  refine wpAny_setItem_pairs (hsz:=hz) (tX ry) dd fun h' dd' hs=>h _ _ ?_ eH;have he:∃q,h'.get? a=some q:=let ⟨q,_,_,hq,_⟩:=dd';⟨q,hq⟩;exact wH I (by rw[e];exact True.intro) hs he (Hd hl hd (rel.put k rv) dd')
 ·subst ey;cases (show u=Value.ref b from ry);obtain⟨z,hd,xs,rel,ra0,dd⟩:=JN I.hok e;have hz:xs.length<=sizeLine:=by rw[← Paired.length rel];exact z
  have hl:(putK kvs k v).length<=sizeLine:=by have:=nP kvs k v;lia
  have ra:xs.map (·.2.1)=ep.2:=ra0;refine wpAny_setItem_heap (hsz:=hz) (tupleKind_room_in1 hu) (rL I.hok eb) dd fun h' dd' hs=>?_;obtain⟨q,es,ep',hq,h2,h3,h4,_,h5⟩:=dd';refine h _ _ ?_ (eH ep');refine wH I (by rw[e];exact True.intro) hs ⟨q,hq⟩ ⟨hl,hd,_,(rel.put k eb rv).keeps fun c ys ec=>?_,Hc ra rel,q,es,hq,h2,h3,h4,h5⟩
  rw[ax (JA ec e (fun z=>nomatch z))];exact ec
end
def JP (i:Expr):Prop:=∀ov iv,subscripted i false ov iv=operate [ov,iv] (getItem ov iv)
theorem DI {prog:Program} {w:World} {A:Around} {E:Value->Shared->Prop} {s:Shared} {env:Env} {value slice:Expr} {pos:Pos} {T id:String} {Q:Value->Shared->Prop}
  (hl:typeLookup (.type T) "__getitem__"=pure (some (.builtin id))) (hs:JP slice)
  (h:wpAny (model prog w) A (eval value env) (fun o s₁=>wpAny (model prog w) A (eval slice env) (fun i s₂=>s₂.TypeIs o T/\wpAny (model prog w) A (getItem o i) Q E s₂) E s₁) E s) :
  wpAny (model prog w) A (eval (.Subscript value slice pos) env) Q E s:=by
 refine Subscript_ (Al h (fun o s₁ h₁=>Al h₁ (fun i s₂ h₂=>?_) fun _ _ x=>x) fun _ _ x=>x);obtain⟨hT,h₂⟩:=h₂;unfold subscriptTail;refine Aa ?_;rw[getitemInPython_of_ne hT.not_modules];refine Aa (wpAny_specialOf hT hl ?_);have fin:wpAny (model prog w) A (subscripted slice false o i) (fun r s₃=>wpAny (model prog w) A (letTemporaryGo value o r >>= fun _=>pure r) Q E s₃) E s₂:=by
  rw[hs o i];exact wpAny_operating (Al h₂ (fun r s₃ h₃=>Aa (wpAny_letTemporaryGo (Ai h₃))) fun _ _ x=>x)
 first
  | exact Ai (Aa fin)
  | exact Aa (Ai (Aa fin))
  | exact Aa fin
theorem zw {P:Program} {w:World} {H:Hp} (h:Heap) (hb:sysModules<h.objs.size):ObjOk P w H (h.push { cls:=.type "dict",data:=.dict #[] }) h.objs.size (.dK []) :=
 ⟨Qk _,beq_eq_false_iff_ne.mpr (Am (Vf hb)),[],.nil,Heap.DictOf.new h⟩
def zx:TE:=fun _ H Q=>∀p,H p=none->Q (.ref p) (upd H p (.dK []))
section
variable {X:Cx} {pos:Pos}
theorem tY:PE X (.Dict [] [] pos) zx:=fun pins s σ H Q I h =>
 wpAny_Dict_empty ⟨.ref s.heap.objs.size,_,I.laid (a:=s.heap.objs.size) (o:=.dK []) (t':=s.toks) (fun _ _ q=>Ac _ q) (Wb _) (zw s.heap I.big),rfl,h _ (I.hok.fresh (Wb _))⟩
end
end L2
namespace HT
open PySem PyProof.Rows
section
variable {prog:Program} {w:World} {A:Around} {E:Value->Shared->Prop} {s:Shared}
theorem cat_tup {t b:Addr} {vs ws:List Value} {Q:Value->Shared->Prop} (ht:IsTup s.heap t vs.toArray) (hb:IsTup s.heap b ws.toArray) (hv:vs≠[])
  (h1:ws=[]->Q (.ref t) s) (h2:ws≠[]->Q (.ref s.heap.objs.size) { s with heap:=s.heap.push { cls:=.type "tuple",data:=.seq (vs++ws).toArray } })
  (hsz:vs.length+ws.length<=sizeLine):wpAny (model prog w) A (binaryOp .Add (.ref t) (.ref b)) Q E s:=by
 obtain⟨⟨cls,dd,data,sl⟩,ho,hc,n,hd⟩:=id ht;obtain⟨⟨cls2,dd2,data2,sl2⟩,ho2,hc2,n2,hd2⟩:=id hb;simp only at hc hd hc2 hd2;subst hc hd hc2 hd2;have e:vs.toArray++ws.toArray=(vs++ws).toArray:=by simp
 by_cases hw:ws=[]
 ·exact concat_meets ⟨_,ho,rfl⟩ ⟨_,ho2,rfl⟩ BM seq_tuple_add PySem.F.slot_tuple_add PySem.F.entry_tuple_add (PySem.F.args_tuple_add_2 _ _)
   (tuple_addW1 t b vs.toArray ws.toArray n n2 dd dd2 sl sl2 (by simpa using hv) (by simp[hw])) ⟨ho,ho2,h1 hw⟩
 ·refine concat_meets ⟨_,ho,rfl⟩ ⟨_,ho2,rfl⟩ BM seq_tuple_add PySem.F.slot_tuple_add PySem.F.entry_tuple_add (PySem.F.args_tuple_add_2 _ _)
   (tuple_addW2 t b vs.toArray ws.toArray n n2 dd dd2 sl sl2 (by simpa using hv) (by simpa using hw) (by rw[Qb,Qb];exact hsz)) ⟨ho,ho2,?_⟩
  rw[e];exact h2 hw
def sIx (n d:Nat):Option Int->Nat
 | none=>d
 | some v=>if v<0 then(v+(n:Int)).toNat else min v.toNat n
theorem sIx_none (n d:Nat):sIx n d none=d:=rfl
theorem sIx_nat (n d k:Nat):sIx n d (some (k:Int))=min k n:=by
 show(if (k:Int)<0 then((k:Int)+(n:Int)).toNat else min (k:Int).toNat n)=min k n;rw[Ah (by lia),Int.toNat_natCast]
theorem He (n d:Nat) (hd:d<=n) (o:Option Int):sIx n d o<=n:=by
 cases o with
 | none=>exact hd
 | some v =>
  show(if v<0 then(v+(n:Int)).toNat else min v.toNat n)<=n;by_cases hv:v<0
  ·rw[Af hv];lia
  ·rw[Ah hv];exact Nat.min_le_right _ _
theorem clip_nat (v:Int) (n:Nat) (hv:¬ v<0):min v (n:Int)=((min v.toNat n:Nat):Int):=by
 obtain⟨k,rfl⟩:=Zm (Int.not_lt.mp hv);rw[Int.toNat_natCast];rcases Nat.le_total k n with h|h
 ·rw[Bj h];exact Int.min_eq_left (Int.ofNat_le.mpr h)
 ·rw[Nat.min_eq_right h];exact Int.min_eq_right (Int.ofNat_le.mpr h)
theorem wI (v:Int) (n d:Nat):(if v<0 then max (v+(n:Int)) 0 else min v (n:Int))=((sIx n d (some v):Nat):Int):=by
 show(if v<0 then max (v+(n:Int)) 0 else min v (n:Int))=(((if v<0 then(v+(n:Int)).toNat else min v.toNat n):Nat):Int);by_cases hv:v<0
 ·rw[Af hv,Af hv];exact(Int.ofNat_toNat _).symm
 ·rw[Ah hv,Ah hv];exact clip_nat v n hv
theorem vq (lo hi:Option Int) (n:Nat):Builtin.Slice.sliceAdjust lo hi 1 (n:Int)=(((sIx n 0 lo:Nat):Int),((sIx n n hi:Nat):Int)):=by
 have h1:¬ ((1:Int)<0):=by lia
 unfold Builtin.Slice.sliceAdjust;simp only[h1,if_false];refine Prod.ext ?_ ?_
 ·cases lo with
  | none=>rfl
  | some v=>exact wI v n 0
 ·cases hi with
  | none=>rfl
  | some v=>exact wI v n n
theorem vt (i j:Nat):Builtin.Slice.slicePlaces (i:Int) (j:Int) 1=j-i:=by
 unfold Builtin.Slice.slicePlaces;have h1:(1:Int) > 0:=by lia
 simp only[h1,if_true,Int.ediv_one];split<;>lia
theorem o0 {v:Value} {o:Option Int} {Q:Option Int->Shared->Prop} (p:IsPart v o) (h:Q o s):wpAny (model prog w) A (Builtin.Slice.slicePartIndex v) Q E s:=by
 cases p with
 | none=>exact slicePart_none h
 | int i t=>exact slicePart_int h
theorem iU {sl:Addr} {vl vu:Value} {lo hi:Option Int} {n:Nat} {Q:Int×Int×Nat->Shared->Prop} (hs:s.heap.IsSliceOf sl vl vu .none) (pl:IsPart vl lo) (pu:IsPart vu hi)
  (h:Q (((sIx n 0 lo:Nat):Int),1,sIx n n hi-sIx n 0 lo) s):wpAny (model prog w) A (Builtin.Slice.sliceApplied (.ref sl) (pure (n:Int))) Q E s:=by
 obtain⟨os,hos,hcs,hds⟩:=id hs;unfold Builtin.Slice.sliceApplied Builtin.Slice.sliceFields;refine Aa (Aa (As hos hds (x:=vl) rfl (Aa (As hos hds (x:=vu) rfl (Aa (As hos hds (x:=.none) rfl (Ai ?_)))))));refine Aa (slicePart_none ?_);show wpAny _ _ (if ((1:Int) == 0)=true then _ else _) _ _ s;rw[Ah (by decide)]
 refine Aa (o0 pl (Aa (o0 pu (Aa (Ai ?_)))));show wpAny _ _ (match Builtin.Slice.sliceAdjust lo hi 1 (n:Int) with|(lo,hi)=>pure (lo,(1:Int),Builtin.Slice.slicePlaces lo hi 1)) _ _ s
 rw[vq lo hi n];show wpAny _ _ (pure (((sIx n 0 lo:Nat):Int),(1:Int),Builtin.Slice.slicePlaces ((sIx n 0 lo:Nat):Int) ((sIx n n hi:Nat):Int) 1)) _ _ s;rw[vt];exact Ai h
theorem zy (xs:Array Value) (i k:Nat):((List.range k).filterMap fun(m:Nat)=>xs[((i:Int)+(m:Int)*1).toNat]?).toArray=((xs.toList.drop i).take k).toArray:=by
 have e:(fun(m:Nat)=>xs[((i:Int)+(m:Int)*1).toNat]?)=fun m=>xs[i+m]?:=by
  funext m
  have:((i:Int)+(m:Int)*1).toNat=i+m:=by lia
  rw[this]
 rw[e];have:=pick_run xs i k;rw[List.filterMap_map]at this;have e2:((fun x=>xs[x]?) ∘ fun x=>i+x)=fun m=>xs[i+m]?:=rfl;rw[e2]at this;rw[this]
theorem getItem_tuple_cut {t sl:Addr} {items:Array Value} {vl vu:Value} {lo hi:Option Int} {Q:Value->Shared->Prop} (ht:IsTup s.heap t items) (hs:s.heap.IsSliceOf sl vl vu .none) (pl:IsPart vl lo) (pu:IsPart vu hi)
  (hw:¬ (sIx items.size 0 lo=0/\sIx items.size items.size hi=items.size))
  (h:Q (.ref s.heap.objs.size) { s with heap:=s.heap.push { cls:=.type "tuple",data:=.seq ((items.toList.drop (sIx items.size 0 lo)).take (sIx items.size items.size hi-sIx items.size 0 lo)).toArray } })
  (hsz:items.size<=sizeLine):wpAny (model prog w) A (getItem (.ref t) (.ref sl)) Q E s:=by
 have htake:sizeOk (.seq ((items.toList.drop (sIx items.size 0 lo)).take (sIx items.size items.size hi-sIx items.size 0 lo)).toArray):=by
  show((items.toList.drop (sIx items.size 0 lo)).take (sIx items.size items.size hi-sIx items.size 0 lo)).toArray.size<=sizeLine;rw[Qb,Qg,Xf,Wh];exact Yc (Nat.min_le_right _ _) (Yc (Nat.sub_le _ _) hsz)
 have hj:sIx items.size items.size hi<=items.size:=He _ _ (Wb _) hi;obtain⟨os,hos,hcs,hds⟩:=id hs;have hTs:s.TypeIs (.ref sl) "slice":=⟨os,hos,hcs⟩;unfold getItem
 try with_reducible refine A6 ?_
 first|refine Aa (Ai ?_)|skip
 refine Aa (wpAny_sequenceKey ht.typeIs (by decide) ?_)
 refine Aa (wpAny_callSpecial?_slot (name:=Str.ofString "__getitem__") ht.typeIs Az
  (wpAny_call_entry Az ht.typeIs entry_tuple_getitem ?_ (args_tuple_getitem _ _)))
 show wpAny _ _ (Builtin.Tuple.tupleItemsOf (.ref t) >>= _) _ _ s;refine Aa (tupleItemsOf_ ht ?_);refine Aa (wpAny_typeOf hTs ?_);rw[Af (by decide)]
 refine Aa (iU hs pl pu ?_);have hno:¬ ((((sIx items.size 0 lo:Nat):Int) == 0&&(1:Int) == 1&&(sIx items.size items.size hi-sIx items.size 0 lo) == items.size)=true):=by
  intro q;rw[Qe,Qe]at q;have q1:((sIx items.size 0 lo:Nat):Int)=0:=eq_of_beq q.1.1;have q2:sIx items.size items.size hi-sIx items.size 0 lo=items.size:=eq_of_beq q.2;exact hw ⟨by lia,by lia⟩
 show wpAny _ _ (if (((sIx items.size 0 lo:Nat):Int) == 0&&(1:Int) == 1&&(sIx items.size items.size hi-sIx items.size 0 lo) == items.size)=true then _ else _) _ _ s;rw[Ah hno,zy]
 first
  | exact Aa (m:=Builtin.Tuple.tupleExact _) (Ay (Ai ⟨_,rfl,Ai h⟩) htake)
  | exact Aa (m:=Builtin.Tuple.tupleExact _) (Ay (Aa (Ai (Ai ⟨_,rfl,Ai h⟩))) htake)
  | exact Aa (Aa (m:=Builtin.Tuple.tupleExact _) (Ay (Ai (Ai ⟨_,rfl,Ai h⟩)) htake))
  | exact Aa (Aa (m:=Builtin.Tuple.tupleExact _) (Ay (Ai ⟨_,rfl,Ai h⟩) htake))
end
end HT
namespace L2
open PySem PySem.Spec PyProof.Rows
abbrev TO:=St->Hp->(Option Int->Hp->Prop)->Prop
def PO (X:Cx) (e:Option Expr) (t:TO):Prop :=
 ∀(pins:List (Addr×Obj)) (s:Shared) (σ:St) (H:Hp) (Q:Option Int->Hp->Prop),Inv X pins σ H s->t σ H Q ->
  wpAny (model X.prog X.w) X.A (evalPart e X.env) (fun u s'=>∃o H',Inv X pins σ H' s'/\IsPart u o/\Q o H') X.xe s
def wJ:TO:=fun _ H Q=>Q none H
def FQ (t:TE):TO:=fun σ H Q=>t σ H fun x H1=>∃i,x=.int i/\Q (some i) H1
section
variable {X:Cx} {e:Expr} {te:TE} {lo hi:Option Expr} {tl th:TO} {pos p2:Pos}
theorem bq:PO X none wJ:=by
 intro pins s σ H Q I h;rw[evalPart_none];exact Ai ⟨none,H,I,.none,h⟩
theorem bh (h:PE X e te):PO X (some e) (FQ te):=by
 intro pins s σ H Q I hw;rw[evalPart_some];refine dI (h pins s σ H _ I hw) fun u s1 zz9=>?_;obtain⟨x,H1,I1,r1,q1⟩:=zz9;obtain⟨i,rfl,q⟩:=q1;obtain⟨t,rfl⟩:=r1;exact⟨some i,H1,I1,.int i t,q⟩
def SlR (X:Cx) (r:V->Option Int->Option Int->Hp->VK->Prop):Prop :=
 ∀(pins:List (Addr×Obj)) (s:Shared) (σ:St) (H:Hp) (x:V) (v vl vu:Value) (lo hi:Option Int) (sl:Addr) (Q:VK),Inv X pins σ H s->RelV x v->s.heap.IsSliceOf sl vl vu .none->IsPart vl lo->IsPart vu hi->r x lo hi H Q ->
  ∃T id,typeLookup (.type T) "__getitem__"=pure (some (.builtin id))/\s.TypeIs v T/\wpAny (model X.prog X.w) X.A (getItem v (.ref sl)) (EP X pins σ Q) X.xe s
theorem SlR.or {r r':V->Option Int->Option Int->Hp->VK->Prop} (h:SlR X r) (h':SlR X r'):SlR X (fun x lo hi H Q=>r x lo hi H Q∨r' x lo hi H Q):=by
 intro pins s σ H x v vl vu lo hi sl Q I rx hs pl pu q;rcases q with q|q
 ·exact h pins s σ H x v vl vu lo hi sl Q I rx hs pl pu q
 ·exact h' pins s σ H x v vl vu lo hi sl Q I rx hs pl pu q
def Mh (r:V->Option Int->Option Int->Hp->VK->Prop) (te:TE) (tl th:TO):TE:=fun σ H Q=>te σ H fun x H1=>tl σ H1 fun l H2=>th σ H2 fun u H3=>r x l u H3 Q
theorem aX {r:V->Option Int->Option Int->Hp->VK->Prop} (hr:SlR X r) (he:PE X e te) (hl:PO X lo tl) (hu:PO X hi th):PE X (.Subscript e (.Slice lo hi none p2) pos) (Mh r te tl th):=by
 intro pins s σ H Q I h;refine Subscript_ (dI (he pins s σ H _ I h) fun v s1 zz9=>?_);obtain⟨x,H1,I1,r1,q1⟩:=zz9;refine wpAny_Slice (dI (hl pins s1 σ H1 _ I1 q1) fun vl s2 ⟨l,H2,I2,pl,q2⟩=>dI (hu pins s2 σ H2 _ I2 q2) fun vu s3 zz9=>?_);obtain⟨u,H3,I3,pu,q3⟩:=zz9;rw[evalPart_none];refine Ai ?_;have I4:Inv X pins σ H3 { s3 with heap:=s3.heap.push { cls:=.type "slice",data:=.fields #[vl,vu,.none] } }:=I3.kept (t':=s3.toks) fun b ob q=>Ac _ q;obtain⟨T,id,hT,ht,hg⟩:=hr pins { s3 with heap:=s3.heap.push { cls:=.type "slice",data:=.fields #[vl,vu,.none] } } σ H3 x v vl vu l u s3.heap.objs.size Q I4 r1 (Heap.IsSliceOf.new ..) pl pu q3;show wpAny (model X.prog X.w) X.A (subscriptTail e (.Slice lo hi none p2) v (.ref s3.heap.objs.size)) (EP X pins σ Q) X.xe { s3 with heap:=s3.heap.push { cls:=.type "slice",data:=.fields #[vl,vu,.none] } };exact tail_any (ops:=[.ref s3.heap.objs.size,v]) ht hT hg (by with_unfolding_all rfl)
def tZ (xs:List V) (lo hi:Option Int):List V:=(xs.drop (HT.sIx xs.length 0 lo)).take (HT.sIx xs.length xs.length hi-HT.sIx xs.length 0 lo)
theorem nQ (xs:List V) (lo hi:Option Int):(tZ xs lo hi).length<=xs.length:=by
 unfold tZ;rw[Qg,Xf];lia
def Hf (K:PySem.W.Frag):V->Option Int->Option Int->Hp->VK->Prop:=fun x lo hi H Q=>∃a xs,x=.ref a/\mV K H a xs /\
 ¬ (HT.sIx xs.length 0 lo=0/\HT.sIx xs.length xs.length hi=xs.length)/\∀p,H p=none->Q (.ref p) (upd H p (.tup (tZ xs lo hi)))
theorem Hg:SlR X (Hf X.K):=by
 intro pins s σ H x v vl vu lo hi sl Q I rx hs pl pu h;obtain⟨a,xs,rfl,hx,hw,q⟩:=h;cases rx;obtain⟨its,r,ht,hz⟩:=I.tuple hx;have hlen:its.toArray.size=xs.length:=by rw[Qb];exact r.length.symm
 refine⟨"tuple",_,Az.lookup,ht.typeIs,?_⟩;refine HT.getItem_tuple_cut ht hs pl pu (by rw[hlen];exact hw) ?_ (by rw[hlen];exact hz)
 rw[hlen];refine⟨.ref s.heap.objs.size,_,I.laid (t':=s.toks) (o:=.tup (tZ xs lo hi)) (fun b ob q=>Ac _ q) (Wb _) ?_,rfl,q _ (I.hok.fresh (Wb _))⟩;exact⟨Yc (nQ xs lo hi) hz,_,(r.drop (HT.sIx xs.length 0 lo)).take (HT.sIx xs.length xs.length hi-HT.sIx xs.length 0 lo),IsTup.new _ _⟩
def zA (K:PySem.W.Frag):R2:=fun x y H Q=>∃a b xs ys,x=.ref a/\y=.ref b/\mV K H a xs/\mV K H b ys/\xs≠[]/\xs.length+ys.length<=sizeLine /\
 (ys=[]->Q (.ref a) H)/\(ys≠[]->∀p,H p=none->Q (.ref p) (upd H p (.tup (xs++ys))))
theorem Vals.nil_iff {xs:List V} {us:List Value} (r:Vals xs us):us=[]↔xs=[]:=by
 cases r with
 | nil=>simp
 | cons _ _=>simp
theorem DJ:OpR X (binaryOp .Add) (zA X.K):=by
 intro pins s σ H x y v u Q I rx ry h;obtain⟨a,b,xs,ys,rfl,rfl,ha,hb,hx,hz,q1,q2⟩:=h;cases rx;cases ry;obtain⟨its,r1,p1,_⟩:=I.tuple ha;obtain⟨its2,r2,p2,_⟩:=I.tuple hb;refine HT.cat_tup p1 p2 (fun z=>hx (r1.nil_iff.mp z)) (fun z=>⟨.ref a,H,I,rfl,q1 (r2.nil_iff.mp z)⟩) (fun z=>?_) (by rw[← r1.length,← r2.length];exact hz)
 refine⟨.ref s.heap.objs.size,_,I.laid (t':=s.toks) (o:=.tup (xs++ys)) (fun b ob q=>Ac _ q) (Wb _) ?_,rfl,q2 (fun w=>z (r2.nil_iff.mpr w)) _ (I.hok.fresh (Wb _))⟩;exact⟨by rw[Wa];exact hz,_,r1.append r2,IsTup.new _ _⟩
end
end L2
namespace L2
open PySem PySem.Spec PyProof.Rows
def yg (n:Nat) (i:Int):Option Nat:=if 0<=i then(if i<n then some i.toNat else none) else if -(n:Int)<=i then some (i+n).toNat else none
def mf {α:Type} (xs:List α) (i:Int):Option α:=(yg xs.length i).bind fun j=>xs[j]?
theorem wK {n:Nat} {i:Int} {j:Nat} (h:yg n i=some j):seqIndex? i n=some j/\j<n/\-(n:Int)<=i/\i<n:=by
 unfold yg at h;by_cases h0:0<=i
 ·rw[Af h0]at h;by_cases h1:i<n
  ·rw[Af h1]at h;have e:i.toNat=j:=Option.some.inj h;exact⟨by rw[seqIndex_of h0 h1,e],by lia,by lia,h1⟩
  ·rw[Ah h1]at h;cases h
 ·rw[Ah h0]at h;by_cases h1:-(n:Int)<=i
  ·rw[Af h1]at h;have e:(i+n).toNat=j:=Option.some.inj h;exact⟨by rw[seqIndex_neg (by lia) h1,e],by lia,h1,by lia⟩
  ·rw[Ah h1]at h;cases h
theorem rM {α:Type} {xs:List α} {i:Int} {v:α} (h:mf xs i=some v):∃j,seqIndex? i xs.length=some j/\xs[j]?=some v/\j<xs.length/\-(xs.length:Int)<=i/\i<xs.length:=by
 unfold mf at h;cases e:yg xs.length i with
 | none=>rw[e]at h;cases h
 | some j =>
  rw[e]at h;obtain⟨h1,h2,h3,h4⟩:=wK e;exact⟨j,h1,h,h2,h3,h4⟩
theorem rN {α:Type} {xs:List α} {j:Nat} {v:α} (h:xs[j]?=some v):mf xs (j:Int)=some v:=by
 have hj:j<xs.length:=(Xd.mp h).1;have e:yg xs.length (j:Int)=some j:=by
  unfold yg;rw[Af (by lia),Af (by lia)];simp
 unfold mf;rw[e];exact h
def rO (b:Expr):Prop:=∀o i,subscripted b false o i=operate [o,i] (getItem o i)
def IxR (X:Cx) (r:R2):Prop :=
 ∀(value slice:Expr) (pins:List (Addr×Obj)) (s:Shared) (σ:St) (H:Hp) (x y:V) (v u:Value) (Q:VK),Inv X pins σ H s->RelV x v->RelV y u->r x y H Q ->
  subscripted slice false v u=operate [v,u] (getItem v u)->wpAny (model X.prog X.w) X.A (subscriptTail value slice v u) (EP X pins σ Q) X.xe s
def Jn (X:Cx) (id:String) (r:V->List V->Hp->VK->Prop):Prop :=
 ∀(pins:List (Addr×Obj)) (s:Shared) (σ:St) (H:Hp) (x:V) (xs:List V) (v:Value) (us:List Value) (Q:VK),Inv X pins σ H s->RelV x v->Vals xs us->r x xs H Q ->
  wpAny (model X.prog X.w) X.A (call (.builtin id) (v::us)) (EP X pins σ Q) X.xe s
section
variable {X:Cx} {a b:Expr} {ta tb:TE} {pos:Pos}
theorem IxR.or {r r':R2} (h:IxR X r) (h':IxR X r'):IxR X (fun x y H Q=>r x y H Q∨r' x y H Q):=by
 intro value slice pins s σ H x y v u Q I rx ry q hs;rcases q with q|q
 ·exact h value slice pins s σ H x y v u Q I rx ry q hs
 ·exact h' value slice pins s σ H x y v u Q I rx ry q hs
theorem FR {r:R2} (hr:IxR X r) (ha:PE X a ta) (hb:PE X b tb) (hs:rO b):PE X (.Subscript a b pos) (zm r ta tb):=by
 intro pins s σ H Q I h;exact Subscript_ (G7 ha hb I h fun v u s2 x y H2 I2 rx ry q=>hr a b pins s2 σ H2 x y v u Q I2 rx ry q (hs _ _))
def Hh (K:PySem.W.Frag):R2:=fun x y H Q=>∃p xs i v,x=.ref p/\y=.int i/\i5 K H p xs/\mf xs i=some v/\Q v H
def Hi (K:PySem.W.Frag):R2:=fun x y H Q=>∃p xs i v,x=.ref p/\y=.int i/\mV K H p xs/\mf xs i=some v/\Q v H
def Hj:R2:=fun x y H Q=>∃z i c,x=.str z/\y=.int i/\z.length<=sizeLine/\mf z.cps.toList i=some c/\Q (.str ⟨#[c]⟩) H
theorem ix_list:IxR X (Hh X.K):=by
 intro value slice pins s σ H x y v u Q I rx ry h hs;obtain⟨p,xs,i,z,rfl,rfl,hq,he,q⟩:=h;cases rx;obtain⟨t,rfl⟩:=ry;obtain⟨its,r,pl,hz⟩:=I.list hq;obtain⟨j,h1,h2,h3,h4,h5⟩:=rM he;obtain⟨w,ew,rw'⟩:=r.get h2;have hl:=r.length;have hn:=m3;have fin:EP X pins σ Q w s:=⟨z,H,I,rw',q⟩;by_cases h0:0<=i
 ·have hj:i.toNat=j:=by
   rw[seqIndex_of h0 h5]at h1;exact Option.some.inj h1
  exact item_listR pl.isList h0 (by lia) (by rw[hj];simpa using ew) fin hs
 ·have hj:(i+(its.toArray.size:Int)).toNat=j:=by
   rw[seqIndex_neg (by lia) h4]at h1
   rw[Qb,← hl];exact Option.some.inj h1
  exact subscriptTail_builtinR (x:=w) pl.isList.typeIs slot_list_getitem.lookup
   (wpAny_getItem_list_neg (Q:=fun r s'=>r=w/\EP X pins σ Q r s') pl.isList (by lia) (by rw[Qb]<;>lia) (by lia) (by rw[hj];simpa using ew) ⟨rfl,fin⟩) hs
theorem ix_tup:IxR X (Hi X.K):=by
 intro value slice pins s σ H x y v u Q I rx ry h hs;obtain⟨p,xs,i,z,rfl,rfl,hq,he,q⟩:=h;cases rx;obtain⟨t,rfl⟩:=ry;obtain⟨its,r,pl,hz⟩:=I.tuple hq;obtain⟨j,h1,h2,h3,h4,h5⟩:=rM he;obtain⟨w,ew,rw'⟩:=r.get h2;have hl:=r.length;have hn:=m3;have fin:EP X pins σ Q w s:=⟨z,H,I,rw',q⟩;exact subscriptTail_builtinR (x:=w) pl.typeIs slot_tuple_getitem.lookup
  (getItem_tuple (j:=j) (Q:=fun r s'=>r=w/\EP X pins σ Q r s') pl (by lia) (by lia) (by rw[Qb,← hl];exact h1) (by simpa using ew) ⟨rfl,fin⟩) hs
theorem ix_str:IxR X Hj:=by
 intro value slice pins s σ H x y v u Q I rx ry h hs;obtain⟨z,i,c,rfl,rfl,hz,he,q⟩:=h;obtain⟨t,rfl⟩:=rx;obtain⟨t',rfl⟩:=ry;obtain⟨j,h1,h2,h3,h4,h5⟩:=rM he;have hl:z.cps.toList.length=z.length:=by simp[Str.length]
 rw[hl]at h1 h4 h5;have hn:=m3
 exact tail_any (AJ s z t) slot_str_getitem.lookup (getItem_str (c:=c) (by
  have e1:decide (i < -(2 ^ 63:Int))=false:=Ag (by lia)
  have e2:decide (i ≥ 2 ^ 63)=false:=Ag (by lia)
  rw[e1,e2,Bool.or_false]) (by rw[h1];simpa using h2) ⟨.str ⟨#[c]⟩,H,I.tok _,⟨_,rfl⟩,q⟩) hs
def LC (K:PySem.W.Frag):R2:=fun x y H Q=>Hh K x y H Q∨Hi K x y H Q∨Hj x y H Q
theorem Hk:IxR X (LC X.K):=ix_list.or (ix_tup.or ix_str)
theorem vv (its:List Value) (n j:Nat) (u:Value):Obj.mapSeq (·.setIfInBounds j u) { cls:=.type "list",data:=.seq its.toArray n }={ cls:=.type "list",data:=.seq (its.set j u).toArray n }:=by
 simp[Obj.mapSeq]
theorem Inv.lst {pins:List (Addr×Obj)} {σ:St} {H:Hp} {s:Shared} {p:Addr} {xs:List V} (I:Inv X pins σ H s) (h:H p=some (.lst xs)) :
  ∃(its:List Value) (n:Nat),Vals xs its/\s.heap.get? p=some { cls:=.type "list",data:=.seq its.toArray n }/\xs.length<=sizeLine:=by
 obtain⟨z,its,n,r,e⟩:=I.hok p _ h;exact⟨its,n,r,e,z⟩
theorem Inv.lstUpd {pins:List (Addr×Obj)} {σ:St} {H:Hp} {s:Shared} {p:Addr} {xs ys:List V} {its its':List Value} {n n':Nat} {f:Obj->Obj} (I:Inv X pins σ H s) (h:H p=some (.lst xs))
  (ho:s.heap.get? p=some { cls:=.type "list",data:=.seq its.toArray n }) (hf:f { cls:=.type "list",data:=.seq its.toArray n }={ cls:=.type "list",data:=.seq its'.toArray n' }) (r:Vals ys its') (hz:ys.length<=sizeLine) (t':Nat) (ht:0<t':=by first|assumption|exact Wg _|exact Inv.tk (by assumption)|exact Inv.tkl (by assumption) (by assumption)|lia) :
  Inv X pins σ (upd H p (.lst ys)) { s with heap:=s.heap.update p f,toks:=t' }:=by
 have e:(s.heap.update p f).get? p=some { cls:=.type "list",data:=.seq its'.toArray n' }:=by
  rw[Ar f ho (by rw[hf]<;>rfl),hf]
 refine I.write (x:=p) (e:=p) (by rw[h];trivial) (.inl rfl) (fun b u hb q=>(Aj _ _ (Am hb)).trans q) ⟨_,e⟩ ?_
 exact⟨hz,its',n',r,e⟩
def FU:V->V->V->Hp->(Hp->Prop)->Prop:=fun o i v H Q=>∃p xs k j,o=.ref p/\i=.int k/\H p=some (.lst xs)/\yg xs.length k=some j/\Q (upd H p (.lst (xs.set j v)))
theorem set_list:GZ X FU:=by
 intro pins s σ H o i v ov iv u Q I ro ri rv h;obtain⟨p,xs,k,j,rfl,rfl,hp,hj,q⟩:=h;cases ro;obtain⟨t,rfl⟩:=ri;obtain⟨its,n,r,ho,hz⟩:=I.lst hp;obtain⟨h1,h2,h3,h4⟩:=wK hj;have hl:=r.length;have hn:=m3;have I':Inv X pins σ (upd H p (.lst (xs.set j v))) { s with heap:=s.heap.update p (Obj.mapSeq (·.setIfInBounds j u)) } :=
  I.lstUpd hp ho (vv its n j u) (r.set rv j) (by rw[List.length_set];exact hz) s.toks
 by_cases h0:0<=k
 ·have hk:k.toNat=j:=by
   rw[seqIndex_of h0 h4]at h1;exact Option.some.inj h1
  exact PySem.W.ki_setAt ho h0 (by lia) (by rw[Qb,← hl];exact h4) (by rw[hk];exact⟨_,I',q⟩)
 ·have hk:(k+(its.toArray.size:Int)).toNat=j:=by
   rw[seqIndex_neg (by lia) h3]at h1
   rw[Qb,← hl];exact Option.some.inj h1
  exact PySem.W.ki_setBack ho (by lia) (by rw[Qb,← hl];exact h3) (by lia) (by rw[hk];exact⟨_,I',q⟩)
theorem zB (i:Int) (n:Nat):max 0 (min (if i<0 then i+(n:Int) else i) (n:Int))=(((if i<0 then(i+(n:Int)).toNat else min i.toNat n):Nat):Int):=by
 by_cases h:i<0
 ·rw[Af h,Af h,Int.min_eq_left (by lia),Int.max_comm];exact(Int.ofNat_toNat _).symm
 ·rw[Ah h,Ah h,HT.clip_nat i n h];exact Int.max_eq_right (BB _)
theorem rP (lo hi:Option Int) (n:Nat):(sliceBounds lo hi none n).1=((HT.sIx n 0 lo:Nat):Int)/\(sliceBounds lo hi none n).2.1=((HT.sIx n n hi:Nat):Int)/\(sliceBounds lo hi none n).2.2=1:=by
 refine⟨?_,?_,rfl⟩
 ·cases lo with
  | none=>simp[sliceBounds,HT.sIx]
  | some i=>exact zB i n
 ·cases hi with
  | none=>simp[sliceBounds,HT.sIx]
  | some i=>exact zB i n
theorem qm (its:List Value) (lo hi:Option Int):slicePick its.toArray lo hi none=((its.drop (HT.sIx its.length 0 lo)).take (HT.sIx its.length its.length hi-HT.sIx its.length 0 lo)).toArray:=by
 obtain⟨h1,h2,h3⟩:=rP lo hi its.toArray.size;unfold slicePick;rw[h1,h2,h3];simp only[sliceRange_one,pick_run,Qb]<;>rfl
def Hl (K:PySem.W.Frag):V->Option Int->Option Int->Hp->VK->Prop:=fun x lo hi H Q=>∃a xs,x=.ref a/\i5 K H a xs/\∀p,H p=none->Q (.ref p) (upd H p (.lst (tZ xs lo hi)))
theorem DK:SlR X (Hl X.K):=by
 intro pins s σ H x v vl vu lo hi sl Q I rx hs pl pu h;obtain⟨a,xs,rfl,hx,q⟩:=h;cases rx;obtain⟨its,r,ht,hz⟩:=I.list hx;have hlen:=r.length;refine⟨"list",_,slot_list_getitem.lookup,ht.isList.typeIs,?_⟩;refine wpAny_getItem_list_slice ht.isList hs pl pu .none (by simp) ?_ (by rw[Qb]<;>lia)
 rw[qm,← hlen];refine⟨.ref s.heap.objs.size,_,I.laid (t':=s.toks) (o:=.lst (tZ xs lo hi)) (fun b ob q=>Ac _ q) (Wb _) ?_,rfl,q _ (I.hok.fresh (Wb _))⟩;exact⟨Yc (nQ xs lo hi) hz,_,0,(r.drop (HT.sIx xs.length 0 lo)).take (HT.sIx xs.length xs.length hi-HT.sIx xs.length 0 lo),Ak _ rfl⟩
def kM:V->Bool
 | .non=>true
 | .bl _=>true
 | .int _=>true
 | .str _=>true
 | _=>false
def FV:V->V->Bool
 | .non,.non=>true
 | .bl a,.bl b=>a == b
 | .bl a,.int b=>(if a then 1 else 0) == b
 | .int a,.bl b=>a == (if b then 1 else 0)
 | .int a,.int b=>a == b
 | .str a,.str b=>a == b
 | _,_=>false
theorem Hm {A:Around} {s:Shared} {y x:V} {u v:Value} (ry:RelV y u) (rx:RelV x v) (fy:kM y=true) (fx:kM x=true):SeqAt.EqAt A s u v (FV y x):=by
 cases y with
 | non =>
  cases ry;cases x with
  | non=>cases rx;exact SeqAt.EqAt.same _
  | bl b=>cases rx;exact SeqAt.EqAt.none_bool b
  | int b=>obtain⟨t,rfl⟩:=rx;exact SeqAt.EqAt.none_int b t
  | str b=>obtain⟨t,rfl⟩:=rx;exact SeqAt.EqAt.none_str b t
  | _=>exact absurd (show false=true from fx) Yd
 | bl a =>
  cases ry;cases x with
  | non=>cases rx;exact SeqAt.EqAt.bool_none a
  | bl b=>cases rx;exact SeqAt.EqAt.bool_bool a b
  | int b=>obtain⟨t,rfl⟩:=rx;exact SeqAt.EqAt.bool_int a b t
  | str b=>obtain⟨t,rfl⟩:=rx;exact SeqAt.EqAt.bool_str a b t
  | _=>exact absurd (show false=true from fx) Yd
 | int a =>
  obtain⟨t',rfl⟩:=ry;cases x with
  | non=>cases rx;exact SeqAt.EqAt.int_none a t'
  | bl b=>cases rx;exact SeqAt.EqAt.int_bool a t' b
  | int b=>obtain⟨t,rfl⟩:=rx;exact SeqAt.EqAt.int_int a t' b t
  | str b=>obtain⟨t,rfl⟩:=rx;exact Bx a t' b t
  | _=>exact absurd (show false=true from fx) Yd
 | str a =>
  obtain⟨t',rfl⟩:=ry;cases x with
  | non=>cases rx;exact SeqAt.EqAt.str_none a t'
  | bl b=>cases rx;exact SeqAt.EqAt.str_bool a t' b
  | int b=>obtain⟨t,rfl⟩:=rx;exact Bw a t' b t
  | str b=>obtain⟨t,rfl⟩:=rx;exact SeqAt.EqAt.str_str a t' b t
  | _=>exact absurd (show false=true from fx) Yd
 | _=>exact absurd (show false=true from fy) Yd
def vw (x:V) (u:Value):Bool:=match u with
 | .none=>FV .non x
 | .bool b=>FV (.bl b) x
 | .int i _=>FV (.int i) x
 | .str z _=>FV (.str z) x
 | _=>false
theorem zC {x y:V} {u:Value} (r:RelV y u) (f:kM y=true):vw x u=FV y x:=by
 cases y with
 | non=>cases r;rfl
 | bl b=>cases r;rfl
 | int i=>obtain⟨t,rfl⟩:=r;rfl
 | str z=>obtain⟨t,rfl⟩:=r;rfl
 | _=>exact absurd (show false=true from f) Yd
theorem mh {x:V}:∀{xs:List V} {us:List Value},Vals xs us->xs.all kM=true->us.any (vw x)=xs.any fun y=>FV y x
 | _,_,.nil,_=>rfl
 | y::xs,u::us,.cons r t,f=>by
  rw[A8,Qe]at f;rw[Ym,Ym,zC r f.1,mh t f.2]
theorem jE {A:Around} {s:Shared} {x:V} {v:Value} (rx:RelV x v) (fx:kM x=true):∀{xs:List V} {us:List Value},Vals xs us->xs.all kM=true->∀u∈us,SeqAt.EqAt A s u v (vw x u)
 | _,_,.nil,_=>fun u hu=>by cases hu
 | y::xs,u::us,.cons r t,f=>fun u' hu=>by
  rw[A8,Qe]at f;rcases Vc.mp hu with rfl|hu
  ·rw[zC r f.1];exact Hm r rx f.1 fx
  ·exact jE rx fx t f.2 u' hu
def vc (x:V) (xs:List V):Bool:=xs.any fun y=>FV y x
def JQ (K:PySem.W.Frag) (neg:Bool):R2:=fun x y H Q=>∃p xs,y=.ref p/\(i5 K H p xs∨mV K H p xs)/\kM x=true/\xs.all kM=true/\Q (.bl (if neg then !vc x xs else vc x xs)) H
theorem yh:OpR X (compareOp .In) (JQ X.K false):=by
 intro pins s σ H x y v u Q I rx ry h;obtain⟨p,xs,rfl,hq,fx,fs,q⟩:=h;cases ry;rcases hq with hq|hq
 ·obtain⟨its,r,pl,hz⟩:=I.list hq;refine SeqAt.in_listAt (vw x) pl.isList (fun w hw=>jE rx fx r fs w (by simpa using hw)) ⟨.bl _,H,I,rfl,?_⟩
  rw[show its.toArray.any (vw x)=its.any (vw x) by simp,mh r fs]
  exact q
 ·obtain⟨its,r,pl,hz⟩:=I.tuple hq;refine SeqAt.in_tupleAt (vw x) pl (fun w hw=>jE rx fx r fs w (by simpa using hw)) ⟨.bl _,H,I,rfl,?_⟩
  rw[show its.toArray.any (vw x)=its.any (vw x) by simp,mh r fs]
  exact q
theorem rQ:OpR X (compareOp .NotIn) (JQ X.K true):=by
 intro pins s σ H x y v u Q I rx ry h;obtain⟨p,xs,rfl,hq,fx,fs,q⟩:=h;cases ry;rcases hq with hq|hq
 ·obtain⟨its,r,pl,hz⟩:=I.list hq;refine SeqAt.notIn_listAt (vw x) pl.isList (fun w hw=>jE rx fx r fs w (by simpa using hw)) ⟨.bl _,H,I,rfl,?_⟩
  rw[show its.toArray.any (vw x)=its.any (vw x) by simp,mh r fs]
  exact q
 ·obtain⟨its,r,pl,hz⟩:=I.tuple hq;refine SeqAt.notIn_tupleAt (vw x) pl (fun w hw=>jE rx fx r fs w (by simpa using hw)) ⟨.bl _,H,I,rfl,?_⟩
  rw[show its.toArray.any (vw x)=its.any (vw x) by simp,mh r fs]
  exact q
theorem rR:CallR X (.builtin "len") (fun xs H Q=>∃p ys,xs=[.ref p]/\(i5 X.K H p ys∨mV X.K H p ys)/\Q (.int ys.length) H):=by
 intro pins s σ H xs us Q I r h;obtain⟨p,ys,rfl,hq,q⟩:=h;obtain⟨u,rfl,rx⟩:=vals1 r;cases rx;have hn:=m3;rcases hq with hq|hq
 ·obtain⟨its,r',pl,hz⟩:=I.list hq;have hlen:=r'.length;exact Calls.call_len_list pl.isList (by simp only[Qb]<;>lia) ⟨.int ys.length,H,I.tok _,⟨s.toks+1,by rw[Qb,hlen]⟩,q⟩
 ·obtain⟨its,r',pl,hz⟩:=I.tuple hq;have hlen:=r'.length;exact len_tuple pl (by simp only[Qb]<;>lia) ⟨.int ys.length,H,I.tok _,⟨s.toks+1,by rw[Qb,hlen]⟩,q⟩
theorem rS:CallR X (.builtin "len") (fun xs H Q=>∃z,xs=[.str z]/\z.length<=sizeLine/\Q (.int z.length) H):=by
 intro pins s σ H xs us Q I r h;obtain⟨z,rfl,hz,q⟩:=h;obtain⟨u,rfl,t,rfl⟩:=vals1 r;have hn:=m3;exact len_str (by lia) ⟨.int z.length,H,I.tok _,⟨_,rfl⟩,q⟩
theorem CallR.or {f:Value} {r r':List V->Hp->VK->Prop} (h:CallR X f r) (h':CallR X f r'):CallR X f (fun xs H Q=>r xs H Q∨r' xs H Q):=by
 intro pins s σ H xs us Q I rs q;rcases q with q|q
 ·exact h pins s σ H xs us Q I rs q
 ·exact h' pins s σ H xs us Q I rs q
theorem rT:CallR X (.type "list") (fun xs H Q=>∃p ys,xs=[.ref p]/\(i5 X.K H p ys∨mV X.K H p ys)/\∀l,H l=none->Q (.ref l) (upd H l (.lst ys))):=by
 intro pins s σ H xs us Q I r h;obtain⟨p,ys,rfl,hq,q⟩:=h;obtain⟨u,rfl,rx⟩:=vals1 r;cases rx;have fin:∀(its:List Value),Vals ys its->ys.length<=sizeLine->∀(h':Heap) (c':Nat),(∀b o',s.heap.get? b=some o'->h'.get? b=some o') ->
   h'.get? s.heap.objs.size=some { cls:=.type "list",dict:=none,data:=.seq its.toArray c',slots:=#[] }->EP X pins σ Q (.ref s.heap.objs.size) { s with heap:=h' }:=fun its r' hz h' c' kp e =>
  ⟨.ref s.heap.objs.size,_,I.laid (t':=s.toks) kp (Wb _) (show ObjOk X.prog X.w _ h' _ (.lst ys) from⟨hz,its,c',r',e⟩),rfl,q _ (I.hok.fresh (Wb _))⟩
 rcases hq with hq|hq
 ·obtain⟨its,r',pl,hz⟩:=I.list hq;have hlen:=r'.length;obtain⟨o,ho,hc,n,hd⟩:=pl.isList;exact call_list_seq p (.inl rfl) ho hc hd (fun h' c' kp e=>fin its r' hz h' c' kp e) (by simp only[Qb]<;>lia)
 ·obtain⟨its,r',pl,hz⟩:=I.tuple hq;have hlen:=r'.length;obtain⟨o,ho,hc,n,hd⟩:=pl;exact call_list_seq p (.inr rfl) ho hc hd (fun h' c' kp e=>fin its r' hz h' c' kp e) (by simp only[Qb]<;>lia)
theorem qo:CallR X (.type "tuple") (fun xs H Q=>∃p ys,xs=[.ref p]/\((i5 X.K H p ys/\∀l,H l=none->Q (.ref l) (upd H l (.tup ys)))∨(mV X.K H p ys/\Q (.ref p) H))):=by
 intro pins s σ H xs us Q I r h;obtain⟨p,ys,rfl,h⟩:=h;obtain⟨u,rfl,rx⟩:=vals1 r;cases rx;rcases h with⟨hq,q⟩|⟨hq,q⟩
 ·obtain⟨its,r',pl,hz⟩:=I.list hq;have hlen:=r'.length;refine call_tuple_list pl.isList (fun h' kp=>?_) (by simp only[Qb]<;>lia)
  have I1:Inv X pins σ H { s with heap:=h' }:=I.kept (t':=s.toks) kp;have I2:Inv X pins σ (upd H h'.objs.size (.tup ys)) { s with heap:=h'.push { cls:=.type "tuple",data:=.seq its.toArray } } :=
   I1.laid (t':=s.toks) (fun b o e=>Ac _ e) (Wb _) (show ObjOk X.prog X.w _ _ _ (.tup ys) from⟨hz,its,r',IsTup.new _ _⟩)
  exact⟨.ref h'.objs.size,_,I2,rfl,q _ (I1.hok.fresh (Wb _))⟩
 ·obtain⟨its,r',pl,hz⟩:=I.tuple hq;exact call_tuple_same pl ⟨.ref p,H,I,rfl,q⟩
def JR (K:PySem.W.Frag) (T:String) (x:V) (H:Hp):Prop:=match x with
 | .str _=>T="str"
 | .int _=>T="int"
 | .ref p=>(T="list"/\∃xs,i5 K H p xs)∨(T="tuple"/\∃o,K.lookup p=some o/\o.cls=.type "tuple"/\o.dict=none) ∨
   (T="dict"/\((∃kvs,H p=some (.dK kvs))∨∃ep kvs,H p=some (.dT ep kvs)))∨(T="set"/\∃S n,H p=some (.set S n))
 | _=>False
theorem Hn {pins:List (Addr×Obj)} {σ:St} {H:Hp} {s:Shared} {T:String} {x:V} {v:Value} (I:Inv X pins σ H s) (r:RelV x v) (ty:JR X.K T x H) :
  s.TypeIs v T/\∀a,v=.ref a->∃ob,s.heap.get? a=some ob/\ob.dict=none:=by
 cases x with
 | str z =>
  obtain⟨t,rfl⟩:=r;cases (show T="str" from ty);exact⟨AJ s z t,fun _ e=>nomatch e⟩
 | int i =>
  obtain⟨t,rfl⟩:=r;cases (show T="int" from ty);exact⟨typeIs_int s i t,fun _ e=>nomatch e⟩
 | ref p =>
  cases r;rcases ty with⟨rfl,xs,hq⟩|⟨rfl,o,hk,hc,hd⟩|⟨rfl,hk⟩|⟨rfl,S,n,hk⟩
  ·obtain⟨its,_,pl,_⟩:=I.list hq;refine⟨pl.isList.typeIs,fun a e=>?_⟩;cases e;obtain⟨o,n,e,c,hd,_⟩:=pl;exact⟨o,e,hd⟩
  ·refine⟨⟨o,I.kIn p o hk,hc⟩,fun a e=>?_⟩;cases e;exact⟨o,I.kIn _ o hk,hd⟩
  ·have z:∃o,s.heap.get? p=some o/\o.ExactDict:=by
    rcases hk with⟨kvs,hk⟩|⟨ep,kvs,hk⟩
    ·obtain⟨_,_,_,_,o,_,_,e,ex,_⟩:=I.hok p _ hk;exact⟨o,e,ex⟩
    ·obtain⟨_,_,_,_,_,o,_,e,ex,_⟩:=I.hok p _ hk;exact⟨o,e,ex⟩
   obtain⟨o,e,ex⟩:=z;refine⟨⟨o,e,ex.1⟩,fun a e2=>?_⟩;cases e2;exact⟨o,e,ex.2.1⟩
  ·obtain⟨o,_,_,_,e,ex,_⟩:=I.hok p _ hk;refine⟨⟨o,e,ex.1⟩,fun a e2=>?_⟩;cases e2;exact⟨o,e,ex.2.1⟩
 | _=>exact False.elim ty
def LD (K:PySem.W.Frag) (T:String) (r:V->List V->Hp->VK->Prop) (to:TE) (t:TA):TE:=fun σ H Q=>to σ H fun x H1=>JR K T x H1/\t σ H1 fun xs H2=>r x xs H2 Q
variable {o e:Expr} {es:List Expr} {to:TE} {t:TA} {name:Str} {apos cpos:Pos} {T id:String} {r:V->List V->Hp->VK->Prop}
theorem nR (pa:PlainAttrs T) (slot:Slot T name id) (hty:typeOf (.builtin id)=pure (.type "method_descriptor")) (hm:Jn X id r) (ho:PE X o to) (ha:PA X (e::es) t)
  (hbase:attributeBase o name X.env (eval o X.env)=eval o X.env:=by rfl)
  (hfew:((backTo cpos (starEach (e::es) X.env)).all (fun x=>!x.1)&&(backToKw cpos (keywordEach [] X.env)).all (fun x=>x.1.isSome)
   && decide ((e::es).length+([]:List Keyword).length+(if ([]:List Keyword).isEmpty then 0 else 1)<30))=true:=by rfl)
  (hline:(apos.endLine == cpos.line)=true:=by rfl) (hs:starEach (e::es) X.env=(false,eval e X.env)::starEach es X.env:=by rfl) (hplain:(backTo cpos (starEach es X.env)).any (·.1)=false:=by rfl) :
  PE X (.Call (.Attribute o name apos) (e::es) [] cpos) (LD X.K T r to t):=by
 intro pins s σ H Q I h;refine Be hbase hfew hline rfl (dI (ho pins s σ H _ I h) fun v s1 zz9=>?_);obtain⟨x,H1,I1,r1,ty,q1⟩:=zz9;obtain⟨h1,h2⟩:=Hn I1 r1 ty;refine⟨T,id,pa,slot,hty,h1,h2,?_⟩;have hA:=ha cpos pins s1 σ H1 _ I1 q1;rw[hs]at hA ⊢;refine AF (by show(false||(backTo cpos (starEach es X.env)).any (·.1))=false;rw[hplain]<;>rfl) (AU ?_)
 exact dI hA fun us s2 ⟨vs,H2,I2,r2,q2⟩=>hm pins s2 σ H2 x vs v us Q I2 r1 r2 q2
end
end L2
namespace L2
open PySem PySem.Spec PyProof.Rows
def JS (X:Cx) (id:String) (r:V->List V->Hp->VK->Prop):Prop :=
 ∀(pins:List (Addr×Obj)) (s:Shared) (σ:St) (H:Hp) (x:V) (xs:List V) (v:Value) (us:List Value) (Q:VK),Inv X pins σ H s->RelV x v->Vals xs us->r x xs H Q ->
  wpAny (model X.prog X.w) X.A (call (.builtin id) (v::us)) (EP X pins σ Q) X.xe s
theorem Vals.one:∀{x:V} {us:List Value},Vals [x] us->∃u,us=[u]/\RelV x u
 | _,_,.cons r .nil=>⟨_,rfl,r⟩
theorem Vals.eraseIdx:∀{xs:List V} {us:List Value} (i:Nat),Vals xs us->Vals (xs.eraseIdx i) (us.eraseIdx i)
 | _,_,_,.nil=>.nil
 | _,_,0,.cons _ t=>t
 | _,_,i+1,.cons r t=>.cons r (Vals.eraseIdx i t)
theorem qK {α:Type}:∀(l:List α) (i:Nat),(l.eraseIdx i).length<=l.length
 | [],_=>Wb _
 | _::_,0=>Bm _
 | _::r,i+1=>Nat.succ_le_succ (qK r i)
section
variable {X:Cx} {pins:List (Addr×Obj)} {σ:St} {H:Hp} {s:Shared} {l b:Addr} {xs ys zs:List V}
theorem Inv.lset {its its':List Value} {n:Nat} {f:Array Value->Array Value} {t':Nat} (I:Inv X pins σ H s) (hH:H l=some (.lst xs))
  (e:s.heap.get? l=some { cls:=.type "list",data:=.seq its.toArray n }) (hf:f its.toArray=its'.toArray) (hv:Vals ys its') (hz:ys.length<=sizeLine) (ht:0<t':=by first|assumption|exact Wg _|exact Inv.tk (by assumption)|exact Inv.tkl (by assumption) (by assumption)|lia) :
  Inv X pins σ (upd H l (.lst ys)) { s with heap:=s.heap.update l (Obj.mapSeq f),toks:=t' }:=by
 have q:=PySem.IsL.update e f;rw[hf]at q;refine I.write (x:=l) (e:=l) (by rw[hH];exact trivial) (.inl rfl) (fun b' u hb hu=>(Aj s.heap (Obj.mapSeq f) (Am hb)).trans hu) ⟨_,q⟩ ?_
 exact⟨hz,its',_,hv,q⟩
theorem Inv.lnew {its:List Value} {t':Nat} (I:Inv X pins σ H s) (hv:Vals ys its) (hz:ys.length<=sizeLine) (ht:0<t':=by first|assumption|exact Wg _|exact Inv.tk (by assumption)|exact Inv.tkl (by assumption) (by assumption)|lia) :
  Inv X pins σ (upd H s.heap.objs.size (.lst ys)) { s with heap:=s.heap.push { cls:=.type "list",data:=.seq its.toArray },toks:=t' } :=
 I.laid (fun _ _ q=>Ac _ q) (Wb _) ⟨hz,its,0,hv,Ak _ rfl⟩
theorem Inv.fresh (I:Inv X pins σ H s):H s.heap.objs.size=none:=I.hok.fresh (Wb _)
theorem Inv.lstM (I:Inv X pins σ H s) (hH:H l=some (.lst xs)):xs.length<=sizeLine/\∃(its:List Value) (n:Nat),Vals xs its/\xs.length=its.length/\s.heap.get? l=some { cls:=.type "list",data:=.seq its.toArray n }:=by
 obtain⟨z,its,n,r,e⟩:=I.hok l _ hH;exact⟨z,its,n,r,r.length,e⟩
theorem t5 {n:Nat} (h:n<=sizeLine):Builtin.List.listTooLong n=false:=by
 unfold Builtin.List.listTooLong;exact Ag (by lia)
end
section
variable {X:Cx}
def rV:V->List V->Hp->VK->Prop:=fun x vs H Q=>∃l xs y,x=.ref l/\vs=[y]/\H l=some (.lst xs)/\xs.length<sizeLine/\Q .non (upd H l (.lst (xs++[y])))
theorem yi:JS X "list.append" rV:=by
 intro pins s σ H x vs v us Q I rx rv h;obtain⟨l,xs,y,rfl,rfl,hH,hz,q⟩:=h;cases rx;obtain⟨u,rfl,ru⟩:=rv.one;obtain⟨z,its,n,r,hl,e⟩:=I.lstM hH;refine AB F.slot_list_append ⟨_,e,rfl⟩ F.entry_list_append (F.args_list_append_2 _ _) (PySem.list_append l its.toArray n u (by rw[Qb];lia)) ⟨e,?_⟩
 refine⟨.non,_,I.lset (its':=its++[u]) hH e (by simp) (r.append (.cons ru .nil)) ?_,rfl,q⟩
 rw[Wa,Xj];lia
def wL:V->List V->Hp->VK->Prop:=fun x vs H Q=>∃l b xs zs,x=.ref l/\vs=[.ref b]/\H l=some (.lst xs)/\H b=some (.lst zs)/\xs.length+zs.length<=sizeLine/\Q .non (upd H l (.lst (xs++zs)))
theorem yj:JS X "list.extend" wL:=by
 intro pins s σ H x vs v us Q I rx rv h;obtain⟨l,b,xs,zs,rfl,rfl,hH,hB,hz,q⟩:=h;cases rx;obtain⟨u,rfl,ru⟩:=rv.one;cases ru;obtain⟨z,its,n,r,hl,e⟩:=I.lstM hH;obtain⟨z2,its2,n2,r2,hl2,e2⟩:=I.lstM hB;have hsz:its.toArray.size+its2.toArray.size<=sizeLine:=by rw[Qb,Qb];lia
 have hlong:¬ (!its.toArray.isEmpty&&Builtin.List.listTooLong (its.toArray.size+its2.toArray.size))=true:=by
  rw[t5 hsz,Bool.and_false];exact Yd
 refine AB F.slot_list_extend ⟨_,e,rfl⟩ F.entry_list_extend (F.args_list_extend_2 _ _)
  (AutoSeq1.list_extend_list_list_0 l its.toArray n b its2.toArray n2 hlong (by rw[Qb];lia) (by lia)) ⟨e,e2,?_⟩
 refine⟨.non,_,I.lset (its':=its++its2) hH e (by simp) (r.append r2) ?_,rfl,q⟩
 rw[Wa];lia
def zD:V->List V->Hp->VK->Prop:=fun x vs H Q=>∃l xs i k y,x=.ref l/\vs=[.int i]/\H l=some (.lst xs)/\-(2 ^ 63)<=i/\i<2 ^ 63/\seqIndex? i xs.length=some k/\xs[k]?=some y/\Q y (upd H l (.lst (xs.eraseIdx k)))
theorem zE:JS X "list.pop" zD:=by
 intro pins s σ H x vs v us Q I rx rv h;obtain⟨l,xs,i,k,y,rfl,rfl,hH,h1,h2,hk,hy,q⟩:=h;cases rx;obtain⟨u,rfl,ru⟩:=rv.one;obtain⟨t,rfl⟩:=ru;obtain⟨z,its,n,r,hl,e⟩:=I.lstM hH;obtain⟨w,hw,rw'⟩:=r.get hy;refine AB F.slot_list_pop ⟨_,e,rfl⟩ F.entry_list_pop (F.args_list_pop_2 _ _)
  (MeetsSeq.list_pop_at l its.toArray n i t k w (fitsIndex_both h1 h2) (by rw[Qb,← hl];exact hk) (by rw[← Array.getElem?_toList];exact hw) (by rw[Qb];lia)) ⟨e,?_⟩
 refine⟨y,_,I.lset (its':=its.eraseIdx k) hH e ?_ (r.eraseIdx k) ?_,rw',q⟩
 ·show its.toArray.eraseIdxIfInBounds k=(its.eraseIdx k).toArray;rw[List.eraseIdxIfInBounds_toArray]
 ·have:=qK xs k;lia
def Ho:R2:=fun x y H Q=>∃l b xs zs,x=.ref l/\y=.ref b/\H l=some (.lst xs)/\H b=some (.lst zs)/\xs.length+zs.length<=sizeLine/\∀p,H p=none->Q (.ref p) (upd H p (.lst (xs++zs)))
theorem op_cat:OpR X (binaryOp .Add) Ho:=by
 intro pins s σ H x y v u Q I rx ry h;obtain⟨l,b,xs,zs,rfl,rfl,hH,hB,hz,q⟩:=h;cases rx;cases ry;obtain⟨z,its,n,r,hl,e⟩:=I.lstM hH;obtain⟨z2,its2,n2,r2,hl2,e2⟩:=I.lstM hB;refine PySem.P.add_list e e2 ?_ (by rw[Qb,Qb];lia)
 have ea:its.toArray++its2.toArray=(its++its2).toArray:=by simp
 rw[ea];exact⟨.ref _,_,I.lnew (t':=s.toks) (r.append r2) (by rw[Wa];lia),rfl,q _ I.fresh⟩
end
end L2
namespace Att
open PySem PySem.W PySem.Calls PyProof.Rows
theorem oh {P:Params} {h:Heap}:∀(ns:List Int) (vs:List Value),WellAll P h vs (ns.map WData.int)->IntsAre vs ns:=by
 intro ns;induction ns with
 | nil =>
  intro vs w;rw[List.map_nil]at w;cases w;exact .nil
 | cons n ns ih =>
  intro vs w;rw[Ze]at w;cases w with
  | cons a b =>
   cases a;exact .cons _ _ (ih _ b)
theorem script_of {l:OpenLaw} {n:Nat} (hn:l.most=some n) {P:Params} {h:Heap} {args:List WData} {vals:List Value}
  (hpre:l.row.toRowW.claim.pre args=true) (hwl:WellAll P h vals args) :
  ∃a vs ns,vals=[Value.ref a]/\args=[WData.list (ns.map WData.int)]/\h.get? a=some { cls:=.type "list",data:=.seq vs.toArray }/\IntsAre vs ns/\ns.length<=n:=by
 have hsh:WShape.hasAll [] args [.list .int]=true:=(pre_splitW hpre).1;have hc:l.pre.holds [] { args:=args }=true:=(pre_splitW hpre).2;obtain⟨d,r,rfl,h1,h2⟩:=hasAllW_cons hsh;obtain rfl:=hasAllW_nil h2;obtain⟨xs,rfl,h3⟩:=hasW_list h1;obtain⟨ns,rfl⟩:=items_int h3;have hlen:ns.length<=n:=by
  unfold OpenLaw.pre at hc;have h4:(WTm.not (.lt (.lit (.int (n:Int))) (.len (.arg 0)))).holds [] { args:=[.list (ns.map .int)] }=true:=by
   have h4:=(holds_andW hc).1;rw[hn]at h4;exact h4
  have h5:=condW_of h4 (w_not (w_lt w_lit (w_len_list (w_arg rfl))));rw[Xa]at h5;refine Nat.le_of_not_lt fun q=>?_;have q':(n:Int)<((ns.length:Nat):Int):=by lia
  first
   | (rw[Ae q']at h5;exact absurd h5 (by decide))
   | (simp at h5;lia)
 cases hwl with
 | cons w1 w2 =>
  cases w2;cases w1 with
  | list ho hall=>exact⟨_,_,ns,rfl,rfl,ho,oh ns _ hall,hlen⟩
theorem post_true (l:OpenLaw) (args:List WData):l.row.toRowW.claim.post args (.bool true) args=true :=
 postW_of (r:=l.row.toRowW) (X:=(true == true))
  (show WShape.has [] (.bool true) .bool=true by first|rfl|decide|simp[WShape.has,WShape.arms,WShape.armsAll])
  (show(WTm.eq .res (.lit (.bool true))).value [] { args:=args,res:=some (.bool true),after:=args }=some (.bool (true == true)) from w_eq_bool (w_res rfl) w_lit) rfl
end Att
namespace L2
open PySem PySem.Spec PyProof.Rows
theorem qL:∀{vs:List Value} {ns:List Int},IntsAre vs ns->Vals (ns.map V.int) vs
 | _,_,.nil=>.nil
 | _,_,.cons n t h=>.cons ⟨t,rfl⟩ (qL h)
def Hq (H:Hp):Prop:=∀b,H b=none∨∃o xs,H b=some (.frz o (.lst xs))
theorem zF {P:Program} {w:World} {K:PySem.W.Frag} {mg mb:Str->Option Value} {CX:y6} {k:Nat} {fa a:Addr} {fd:FuncData} {x:Str} {sp:Sp} {s₁:Shared} {vs:List Value} {ns:List Int}
  (KX:K.In s₁.heap) (hns:s₁.heap.Ns mainGlobals mg) (hb:s₁.heap.Ns builtinsNs mb) (hbb:∀x:Str,x≠"__name__"->mb x=bootBuiltins x) (hlim:s₁.heap.NoLimit) (hg:s₁.gens=#[]) (htk:0<s₁.toks)
  (ha:s₁.heap.get? a=some { cls:=.type "list",data:=.seq vs.toArray }) (hi:IntsAre vs ns) (hl:ns.length<=sizeLine) (hr:Room k callerA)
  (F:∀base:Heap,K.In base->base.Ns mainGlobals mg->FnOk P w K mg base CX k fa fd [x] sp) (hbind:∀(s:Shared) (u:Value),BindsTo s fd ⟨[u],[]⟩ [(x,u)])
  (hsp:∀H:Hp,Hq H->i5 K H a (ns.map V.int)->sp [.ref a] H (fun v _=>v=.bl true) fun _ _ _=>False)
  (hCX:∀H e s',CX [] H s₁ (fun _ _ _=>False) e s'->False) :
  codeAny (model P w) callerA (.call (.ref fa) ⟨[.ref a],[]⟩) (fun r s'=>r=.ok (.ret (.bool true))/\OldK s₁.heap s'.heap/\s'.os=s₁.os/\AllBare s'.gens) s₁:=by
 have rv:=qL hi;have DX:=hi.length;have core:∀H:Hp,Hq H->i5 K H a (ns.map V.int)->HOk P w H s₁.heap->(∀b,H b≠none->b=a)->(H a≠none->K.lookup a=none) ->
   codeAny (model P w) callerA (.call (.ref fa) ⟨[.ref a],[]⟩) (fun r s'=>r=.ok (.ret (.bool true))/\OldK s₁.heap s'.heap/\s'.os=s₁.os/\AllBare s'.gens) s₁:=by
  intro H hO hS hok hA hK;have base_of:∀{b:Addr} {o:Obj},s₁.heap.get? b=some o->H b=none->(rD s₁.heap H).get? b=some o:=fun e n=>zc e n;have noA:∀{b:Addr} {o:Obj} {es:Array DictEntry} {ep:Nat},s₁.heap.get? b=some o->o.data=.dict es ep->H b=none:=fun {b o es ep} e d=>by
   cases q:H b with
   | none=>rfl
   | some u =>
    have e':b=a:=hA b (by rw[q];simp)
    subst e';rw[ha]at e;cases e;have d':Data.seq vs.toArray _=Data.dict es ep:=d;cases d'
  have nsK:∀{b:Addr} {m:Str->Option Value},s₁.heap.Ns b m->(rD s₁.heap H).Ns b m:=fun {b m} ⟨o,es,ep,e,d,r⟩=>⟨o,es,ep,base_of e (noA e d),d,r⟩
  have hKb:K.In (rD s₁.heap H):=fun b o e=>base_of (KX b o e) (by
   cases q:H b with
   | none=>rfl
   | some u =>
    have e':b=a:=hA b (by rw[q];simp)
    subst e'
    rw[hK (by rw[q];simp)]at e;cases e)
  have hM:Mod K mg (rD s₁.heap H):=⟨hKb,nsK hns,⟨mb,nsK hb,hbb⟩,let ⟨mc,h1,h2⟩:=hlim;⟨mc,nsK h1,h2⟩⟩;have e0:Env0 P w K mg (rD s₁.heap H) callerA [] s₁ H:=⟨rfl,hM,fun b o e=>Dz e,Nat.le_of_eq (x9 _ _),trivial,fun b hb=>absurd (show b∈([]:List Addr) from hb) (by simp),hok,.of_eq hg,htk⟩
  refine AA ((F _ hKb (nsK hns)).run callerA [] s₁ H ⟨[.ref a],[]⟩ [.ref a] [.ref a] _ _ hr e0 (hbind s₁ (.ref a)) (.cons rfl .nil) (hsp H hO hS)) fun r s' h=>?_;cases r with
  | error e=>exact(hCX H e s' h).elim
  | ok fl =>
   cases fl with
   | next=>exact False.elim h
   | brk=>exact False.elim h
   | cont=>exact False.elim h
   | ret u =>
    obtain⟨v,H',os,bare,un,hok',r',q⟩:=h;have q':v=.bl true:=q;subst q';obtain rfl:u=Value.bool true:=r';refine⟨rfl,OldK.of_keep fun b o e=>?_,os,bare⟩;cases q:H b with
    | none=>exact un.keep b o e q (by intro z;exact absurd (show b∈([]:List Addr) from z) (by simp)) (by simp)
    | some u =>
     rcases hO b with z|⟨ob,xs,z⟩
     ·rw[q]at z;cases z
     ·have z2:=un.frzs b ob _ z;obtain⟨e1,_⟩:=hok b _ z;obtain⟨e2,_⟩:=hok' b _ z2;rw[e]at e1;cases e1;exact e2
 cases hk:K.lookup a with
 | some o =>
  have e:=KX a o hk;rw[ha]at e;cases e;refine core (fun _=>none) (fun _=>.inl rfl) (.inr ⟨_,vs.toArray,_,hk,rfl,rfl,rfl,by rw[Qb,DX];exact hl,by simpa using rv⟩) (fun b u z=>by have z':(none:Option HO)=some u:=z;cases z') (fun b z=>absurd rfl z) fun z=>absurd rfl z
 | none =>
  refine core (fun b=>if b=a then some (.frz { cls:=.type "list",data:=.seq vs.toArray } (.lst (ns.map V.int))) else none) (fun b=>?_) (.inl (.inr ⟨{ cls:=.type "list",data:=.seq vs.toArray },Af rfl⟩)) (fun b u z=>?_) (fun b z=>?_) fun _=>hk
  ·by_cases hb:b=a
   ·exact .inr ⟨_,_,Af hb⟩
   ·exact .inl (Ah hb)
  ·by_cases hb:b=a
   ·have z':=(Af hb).symm.trans z;cases z';subst hb;exact⟨ha,by rw[Xa];exact hl,vs,_,rv,ha⟩
   ·have z':=(Ah hb).symm.trans z;cases z'
  ·by_cases hb:b=a
   ·exact hb
   ·exact absurd (Ah hb) z
theorem t6:∀ns:List Int,PySem.W.ofPys (ns.map PyData.int)=ns.map PySem.W.WData.int
 | []=>rfl
 | n::r=>by
  show PySem.W.WData.int n::PySem.W.ofPys (r.map PyData.int)=_;rw[t6 r];rfl
theorem walk_of {l:PySem.W.OpenLaw} {n k:Nat} {q:Program} {loose:List Str} {XP:(Str->Option Value)->Heap->Prop} {d:DefRec} {K:Params->PySem.W.Frag} {CX:World->y6} {sp:World->Sp} {x:Str} {as:List Addr} {sz t:Nat}
  (hn:l.most=some n) (hn2:n<=sizeLine) (hdf:d.params.defaults=[]) (hr:Room k callerA) (ht:0<t) (hK:∀P,as=(K P).map (·.1))
  (F:∀(w:World) (mg:Str->Option Value) (fa:Addr) (h:Heap),(K w.params).In h->h.Ns mainGlobals mg->mg d.name=some (.ref fa) ->
   ∃fd:FuncData,(∀(s:Shared) (u:Value),BindsTo s fd ⟨[u],[]⟩ [(x,u)]) /\
    ∀base:Heap,(K w.params).In base->base.Ns mainGlobals mg->FnOk l.prog w (K w.params) mg base (CX w) k fa fd [x] (sp w))
  (hsp:∀(w:World) (H:Hp) (a:Addr) (ns:List Int),ns.length<=n->Hq H->i5 (K w.params) H a (ns.map V.int)->sp w [.ref a] H (fun v _=>v=.bl true) fun _ _ _=>False)
  (hCX:∀(w:World) (H:Hp) (s:Shared) (e:Value) (s':Shared),CX w [] H s (fun _ _ _=>False) e s'->False) :
  PySem.W.WalkX q loose XP (PySem.W.X.obsZ as) (PySem.W.X.valZ K sz t) l.row.toRowW d [] (fun f vs=>PySem.call f vs):=by
 intro w s₀ s₁ mg mb G y fa o pm cd doc dV kV ho hd hcd hD hmg hg args vals as' L hpre hlay hrd hwl hlo;obtain rfl:dV=.none:=PySem.W.Dflts.none hD hdf;obtain rfl:kV=.none:=PySem.W.Dflts.noKw hD;obtain⟨a,vs,ns,rfl,rfl,hobj,hints,hlen⟩:=Att.script_of hn hpre hwl;obtain⟨_,K0,_,T0⟩:=PySem.W.X.z_facts hK y;have KX:(K w.params).In s₁.heap:=fun b o e=>L.keeps b o ((show(K w.params).In s₀.heap from K0) b o e);have tk:0<s₁.toks:=by
  have e:[PySem.W.WData.list (ns.map PySem.W.WData.int)]=[PySem.W.ofPy (PyData.list (ns.map PyData.int))]:=by
   show _=[PySem.W.WData.list (PySem.W.ofPys (ns.map PyData.int))];rw[t6]
  rw[e]at L;exact Vb ht (PySem.W.X.script_toks L T0)
 obtain⟨fd,hb,hF⟩:=F w mg fa _ KX G.T.g hmg;refine PySem.W.enter_call (AA (zF KX G.T.g G.T.b G.T.builtins G.T.nolimit hg tk hobj hints (Yc hlen hn2) hr hF hb (fun H hO hS=>hsp w H a ns hlen hO hS) fun H e s'=>hCX w H s₁ e s') fun r s' hq=>?_);obtain⟨rfl,h2,h3,h4⟩:=hq;exact⟨.inl ⟨.bool true,.bool true,[],rfl,fun _=>rfl,.bool true,Att.post_true l _,fun _=>⟨List.Pairwise.nil,fun _ hm=>(nomatch hm)⟩⟩,h2,h3,h4⟩
end L2
namespace L2
open PySem PySem.Spec PyProof.Rows
def fD (s:Stmt):Arguments:=match s with
 | .FunctionDef _ a _ _ _ _ _ _ _ _=>a
 | _=>{ posonlyargs:=[],args:=[],vararg:=none,kwonlyargs:=[],kw_defaults:=[],kwarg:=none,defaults:=[] }
def cO (s:Stmt):List Stmt:=match s with
 | .FunctionDef _ _ b _ _ _ _ _ _ _=>b
 | _=>[]
def ar (s:Stmt):Scope:=match s with
 | .FunctionDef _ _ _ _ _ _ sc _ _ _=>sc
 | _=>{ kind:=.function,names:=[],isGenerator:=false,isCoroutine:=false }
abbrev ql:y6:=fun _ _ _ _ _ _=>False
abbrev E0:XK:=fun _ _ _=>False
theorem FW {X:Cx}:vp ql X E0:=fun _ _ _ _ _ _ _ h=>h.elim
structure Fun (K:PySem.W.Frag) (x qual:Str) (st:Stmt) (f:Addr) (fd:FuncData):Prop where
 ex:∃(oc:Value) (od:Option Addr) (kV doc pm:Value) (an:Option Addr) (cdv ct:Value) (osl:Array (Option Value)),
  fd=PySem.W.fnOf x qual (fD st) (cO st) (ar st) .none kV doc pm an cdv ct/\K.lookup f=some ⟨oc,od,.func fd,osl⟩/\PySem.W.codeIn K cdv qual=true
 kp:PySem.W.keepIn K (.ref f)=true
section
variable {P:Program} {w:World} {K:PySem.W.Frag} {mg:Str->Option Value} {base:Heap}
theorem Fun.ok {x qual:Str} {st:Stmt} {f:Addr} {fd:FuncData} {N ps:List Str} {k:Nat} {sp:Sp} (F:Fun K x qual st f fd) (S:FnScope N ps (ar st)) (len:∀vs H Q E,sp vs H Q E->vs.length=ps.length)
  (hbody:∀(cdv:Value) (A:Around) (outer:List Env) (s:Shared) (H:Hp) (vs:List V) (Q:VK) (E:XK),Room k (A.deeper (envOfC qual (ar st) s.heap.objs.size f cdv))->sp vs H Q E ->
   ∃t,PSs (dP ql P w K mg base N qual (ar st) f cdv A outer s H E).nox (cO st) t/\t { nx:=fun _ H'=>Q .non H',rt:=Q } (start N vs) H):FnOk P w K mg base ql (k+1) f fd ps sp:=by
 obtain⟨oc,od,kV,doc,pm,an,cdv,ct,osl,rfl,lk,hcd⟩:=F.ex;refine zv lk hcd S len fun A outer s H vs Q E hr hsp=>?_;obtain⟨t,h,q⟩:=hbody cdv A outer s H vs Q E hr hsp;exact⟨t,h.nox,q⟩
theorem Fun.binds {x qual:Str} {st:Stmt} {f:Addr} {fd:FuncData} {ps:List Str} (F:Fun K x qual st f fd)
  (h:∀(kV doc pm:Value) (an:Option Addr) (cdv ct:Value) (us:List Value),us.length=ps.length->bindArgs (PySem.W.fnOf x qual (fD st) (cO st) (ar st) .none kV doc pm an cdv ct) ⟨us,[]⟩=pure (ps.zip us)):Binds K fd ps []:=by
 obtain⟨oc,od,kV,doc,pm,an,cdv,ct,osl,rfl,lk,hcd⟩:=F.ex;exact .all (h kV doc pm an cdv ct)
theorem Hr {x qual:Str} {st:Stmt} {f:Addr} {oc:Value} {od an:Option Addr} {osl:Array (Option Value)} {kV doc pm cdv ct:Value} (l:K.lookup f=some ⟨oc,od,.func (PySem.W.fnOf x qual (fD st) (cO st) (ar st) .none kV doc pm an cdv ct),osl⟩)
  (c:PySem.W.codeIn K cdv qual=true) (k:PySem.W.keepIn K (.ref f)=true):Fun K x qual st f (PySem.W.fnOf x qual (fD st) (cO st) (ar st) .none kV doc pm an cdv ct):=⟨⟨oc,od,kV,doc,pm,an,cdv,ct,osl,rfl,l,c⟩,k⟩
end
theorem FX {A:Around} {k:Nat} (hr:Room k A):A.units+1<cLine:=A1 (Nat.add_le_add_left (by decide:1<=64) _) hr.units
theorem yk {n:Nat} (h:n<=1000):n<sizeLine:=A1 h (by decide)
section
variable {X:Cx}
theorem pv (i:Nat) {x:Str} {pos:Pos} (hN:X.N[i]?=some x:=by rfl) (hv:LJ X.env.scope x:=by first|exact Or.inl rfl|exact Or.inr (Or.inl rfl)|exact Or.inr (Or.inr rfl)) (hd:(x == ("__debug__":Str))=false:=by decide)
  (hcd:(x == ("__classdict__":Str))=false:=by decide):PE X (.Name x pos) (tR i):=GX hN hv hd hcd
end
def Same (H H':Hp):Prop:=∀b o,H b=some o->H' b=some o
theorem Same.refl (H:Hp):Same H H:=fun _ _ h=>h
end L2
namespace L2
open PySem PySem.Spec PyProof.Rows
def cj (env:Env):List (Str×NameKind)->List (Str×Addr)->List (Str×Addr)
 | [],acc=>acc
 | (n,k)::r,acc=>if k=.free then cj env r ((n,(env.cells.lookup n).getD 0)::acc) else cj env r acc
theorem i7 {env:Env} {f:Str×NameKind->List (Str×Addr)->Sem (ForInStep (List (Str×Addr)))}
  (h1:∀n k cs c,k=NameKind.free->env.cells.lookup n=some c->f (n,k) cs=pure (.yield ((n,c)::cs)))
  (h2:∀n k cs,k≠NameKind.free->f (n,k) cs=pure (.yield cs)) :
  ∀(names:List (Str×NameKind)) (acc:List (Str×Addr)),(∀x∈names,x.2=.free->∃c,env.cells.lookup x.1=some c)->forIn names acc f=pure (cj env names acc)
 | [],_,_=>rfl
 | (n,k)::r,acc,h=>by
  have hr:∀x∈r,x.2=.free->∃c,env.cells.lookup x.1=some c:=fun x hx=>h x (Yb _ hx);by_cases hk:k=.free
  ·obtain⟨c,hc⟩:=h (n,k) Va hk;have e:cj env ((n,k)::r) acc=cj env r ((n,c)::acc):=by
    show(if k=.free then _ else _)=_;rw[Af hk];have hc':env.cells.lookup n=some c:=hc;rw[hc'];rfl
   rw[List.forIn_cons,h1 n k acc c hk hc,pure_bind,e];exact i7 h1 h2 r _ hr
  ·have e:cj env ((n,k)::r) acc=cj env r acc:=by
    show(if k=.free then _ else _)=_;rw[Ah hk]
   rw[List.forIn_cons,h2 n k acc hk,pure_bind,e];exact i7 h1 h2 r _ hr
theorem il {scope:Scope} {env:Env} (h:∀x∈scope.names,x.2=.free->∃c,env.cells.lookup x.1=some c):closureFor scope env=pure (cj env scope.names []):=by
 simp only[closureFor];have key:=fun f h1 h2=>i7 (env:=env) (f:=f) h1 h2 scope.names [] h
 rw[key _ (fun n k cs c hk hc=>by subst hk;simp[cellOf,hc]) (fun n k cs hk=>by
  have:(k == NameKind.free)=false:=by simpa using hk
  simp only[this,Xe,if_false])]
 rfl
theorem dq {α β:Type} [BEq α] {x n:α} {k:β} {r:List (α×β)}:List.lookup x ((n,k)::r)=if (x == n)=true then some k else List.lookup x r:=by
 rw[Bb];cases x == n<;>rfl
theorem iI {env:Env} {x:Str} {c:Addr}:∀(names:List (Str×NameKind)) (acc:List (Str×Addr)),(∀x∈names,x.2=.free->∃c,env.cells.lookup x.1=some c) ->
  (∀y c,acc.lookup y=some c->env.cells.lookup y=some c)->(cj env names acc).lookup x=some c->env.cells.lookup x=some c
 | [],acc,_,ha,e=>ha x c e
 | (n,k)::r,acc,h,ha,e=>by
  have hr:∀x∈r,x.2=.free->∃c,env.cells.lookup x.1=some c:=fun x hx=>h x (Yb _ hx);by_cases hk:k=.free
  ·obtain⟨c',hc⟩:=h (n,k) Va hk;have hc':env.cells.lookup n=some c':=hc;have q:cj env ((n,k)::r) acc=cj env r ((n,c')::acc):=by
    show(if k=.free then _ else _)=_;rw[Af hk,hc'];rfl
   rw[q]at e;refine iI r _ hr (fun y d hy=>?_) e;rw[dq]at hy;by_cases hyn:(y == n)=true
   ·rw[Af hyn]at hy;have:y=n:=by simpa using hyn
    rw[this,hc',hy]
   ·rw[Ah hyn]at hy;exact ha y d hy
  ·have q:cj env ((n,k)::r) acc=cj env r acc:=by
    show(if k=.free then _ else _)=_;rw[Ah hk]
   rw[q]at e;exact iI r _ hr ha e
theorem le {env:Env} {x:Str} {c:Addr} (hx:env.cells.lookup x=some c):∀(names:List (Str×NameKind)) (acc:List (Str×Addr)),(acc.lookup x=some c∨(x,NameKind.free)∈names)->(cj env names acc).lookup x=some c
 | [],acc,h=>by
  rcases h with h|h
  ·exact h
  ·cases h
 | (n,k)::r,acc,h=>by
  by_cases hk:k=.free
  ·have q:cj env ((n,k)::r) acc=cj env r ((n,(env.cells.lookup n).getD 0)::acc):=by
    show(if k=.free then _ else _)=_;rw[Af hk]
   rw[q];refine le hx r _ ?_;by_cases hxn:(x == n)=true
   ·left;have e:x=n:=by simpa using hxn
    rw[dq,Af hxn,← e,hx];rfl
   ·rcases h with h|h
    ·left;rw[dq,Ah hxn];exact h
    ·right;rcases Vc.mp h with h|h
     ·cases h;exact absurd (by simp) hxn
     ·exact h
  ·have q:cj env ((n,k)::r) acc=cj env r acc:=by
    show(if k=.free then _ else _)=_;rw[Ah hk]
   rw[q];refine le hx r _ ?_;rcases h with h|h
   ·exact .inl h
   ·rcases Vc.mp h with h|h
    ·cases h;exact absurd rfl hk
    ·exact .inr h
theorem g7 {env:Env} {x:Str}:∀(names:List (Str×NameKind)),
  ((names.map fun(n,k)=>if (k == NameKind.free&&env.scope.kind == .function&&env.kindOf n == some .cell) then(n,NameKind.cell) else(n,k)).lookup x=none/\names.lookup x=none) ∨
  ∃k k',names.lookup x=some k/\(names.map fun(n,k)=>if (k == NameKind.free&&env.scope.kind == .function&&env.kindOf n == some .cell) then(n,NameKind.cell) else(n,k)).lookup x=some k'/\(k'=k∨(k=.free/\k'=.cell))
 | []=>.inl ⟨rfl,rfl⟩
 | (n,k)::r=>by
  have ih:=@g7 env x r;show(List.lookup x ((if (k == NameKind.free&&env.scope.kind == .function&&env.kindOf n == some .cell)=true then(n,NameKind.cell) else(n,k))::_)=none/\_)∨∃k' k'',_/\List.lookup x ((if (k == NameKind.free&&env.scope.kind == .function&&env.kindOf n == some .cell)=true then(n,NameKind.cell) else(n,k))::_)=_/\_;by_cases hc:(k == NameKind.free&&env.scope.kind == .function&&env.kindOf n == some .cell)=true
  ·rw[Af hc,dq,dq];have hk:k=.free:=by
    simp only[Qe]at hc;simpa using hc.1.1
   by_cases hx:(x == n)=true
   ·rw[Af hx,Af hx];exact .inr ⟨k,.cell,rfl,rfl,.inr ⟨hk,rfl⟩⟩
   ·rw[Ah hx,Ah hx];exact ih
  ·rw[Ah hc,dq,dq];by_cases hx:(x == n)=true
   ·rw[Af hx,Af hx];exact .inr ⟨k,k,rfl,rfl,.inl rfl⟩
   ·rw[Ah hx,Ah hx];exact ih
abbrev iJ (X:Cx) (N:List Str) (scope:Scope) (C:Addr) (s:Shared) (H:Hp) (fp:List Addr):Cx :=
 { X with N:=N,s₀:=s,H₀:=H,env:=compEnvC scope (cj X.env scope.names []) C X.env,outer:=X.stack,stack:=X.stack,ex:=fp,fn:=fun _=>false,pn:=[],xe:=fun _ _=>False }
structure BlkScope (X:Cx) (N:List Str) (k:Nat) (caps:List Nat) (scope:Scope):Prop where
 kind:scope.kind=.function
 nocell:∀y∈scope.names,y.2≠.cell
 loc:∀y∈scope.names,y.2=.local->scope.names.lookup y.1=some .local
 free:∀y∈scope.names,y.2=.free->(X.env.kindOf y.1=some .cell∨X.env.kindOf y.1=some .free)
 len:N.length=k+caps.length
 cap:∀(j i:Nat),caps[j]?=some i->∃x,N[k+j]?=some x/\X.N[i]?=some x/\scope.names.lookup x=some .free
def jv (k:Nat) (caps:List Nat) (σ:St):St:=List.replicate k none++caps.map fun i=>(σ[i]?).getD none
section
variable {X:Cx} {N:List Str} {k:Nat} {caps:List Nat} {scope:Scope}
theorem BlkScope.cells (S:BlkScope X N k caps scope) (ok:X.Ok):∀x∈scope.names,x.2=.free->∃c,X.env.cells.lookup x.1=some c:=fun x hx hk=>ok.has x.1 (S.free x hx hk)
theorem BlkScope.sub (S:BlkScope X N k caps scope) (ok:X.Ok) {x:Str} {c:Addr} (e:(cj X.env scope.names []).lookup x=some c):X.env.cells.lookup x=some c :=
 iI _ _ (S.cells ok) (fun y c h=>by cases h) e
theorem BlkScope.has (S:BlkScope X N k caps scope) (ok:X.Ok) {x:Str} (h:scope.names.lookup x=some .free):∃c,X.env.cells.lookup x=some c/\(cj X.env scope.names []).lookup x=some c:=by
 have hm:=PySem.mem_of_lookup h;obtain⟨c,hc⟩:=S.cells ok _ hm rfl;exact⟨c,hc,le hc _ _ (.inr hm)⟩
theorem rW (σ:St):(jv k caps σ).length=k+caps.length:=by unfold jv;simp
theorem rX {σ:St} {i:Nat} {v:V} (h:(jv k caps σ)[i]?=some (some v)):∃j i',i=k+j/\caps[j]?=some i'/\σ[i']?=some (some v):=by grind [jv]
theorem Hs {pins:List (Addr×Obj)} {σ:St} {H:Hp} {s:Shared} {fp:List Addr} {C:Addr} (S:BlkScope X N k caps scope) (I:Inv X pins σ H s) (hf:∀b∈fp,oZ X pins H b) (hlt:∀b∈fp,b<s.heap.objs.size) (hC:s.heap.objs.size<=C) :
  (iJ X N scope C s H fp).Ok:=by
 have nfs:∀b∈fp,b∉g5 X.stack:=fun b hb z=>by
  rcases Vc.mp (I.stkSub b z) with e|e
  ·exact(hf b hb).2.1 e
  ·exact(hf b hb).2.2.1 e
 refine⟨I.ok.mod,S.kind,I.ok.glob,I.ok.blt,hC,fun x y c h1 h2=>I.ok.inj x y c (S.sub I.ok h1) (S.sub I.ok h2),fun x hx=>?_,fun x c h=>(by cases h),I.ok.hd,I.ok.frames,.inl rfl,fun b hb=>⟨?_,fun x c e=>?_⟩,I.bs,Yc I.ok.bsz I.sz,fun b o e hb=>?_,nfs,I.stack,I.stkFree⟩
 ·have hx':(relabel scope X.env).names.lookup x=some .cell∨(relabel scope X.env).names.lookup x=some .free:=hx;rcases g7 (env:=X.env) (x:=x) scope.names with⟨e,_⟩|⟨k1,k2,e1,e2,e3⟩
  ·rcases hx' with z|z<;>(have z':=e.symm.trans z;cases z')
  ·have hk2:k2=.cell∨k2=.free:=by
    rcases hx' with z|z
    ·exact .inl (Option.some.inj (e2.symm.trans z))
    ·exact .inr (Option.some.inj (e2.symm.trans z))
   have hfree:k1=.free:=by
    rcases e3 with z|⟨z,_⟩
    ·rcases hk2 with q|q
     ·exact absurd (z.symm.trans q) (S.nocell _ (PySem.mem_of_lookup e1))
     ·exact z.symm.trans q
    ·exact z
   rw[hfree]at e1;obtain⟨c,_,hc⟩:=S.has I.ok e1;exact⟨c,hc⟩
 ·exact Vf (Vb (hlt b hb) hC)
 ·exact(hf b hb).2.2.2.2.1 x c (S.sub I.ok e)
 ·rcases(hf b hb).2.2.2.1 with z|z
  ·exact I.ok.noex b o e z
  ·exact absurd (Vb (Ad (I.ok.bs b o e).1) z) (Ve _)
theorem wM {pins:List (Addr×Obj)} {σ:St} {H:Hp} {s s3:Shared} {fp:List Addr} {C:Addr} {m:Str->Option Value} (S:BlkScope X N k caps scope) (I:Inv X pins σ H s) (hf:∀b∈fp,oZ X pins H b) (hlt:∀b∈fp,b<s.heap.objs.size)
  (hC:s.heap.objs.size<=C) (hos:s3.os=s.os) (hg:s3.gens=s.gens) (kp:∀b o,s.heap.get? b=some o->s3.heap.get? b=some o) (hn:s3.heap.Ns C m) (ht:0<s3.toks):Inv (iJ X N scope C s H fp) [] (jv k caps σ) H s3:=by
 refine⟨Hs S I hf hlt hC,hos,by rw[hg];exact I.bare,Un.kept kp,⟨m,hn,fun i x v e1 e2 e3=>?_⟩,fun x c e=>?_,I.hok.fresh hC,fun x c e=>I.freeC x c (S.sub I.ok e),fun p hp=>absurd hp (by simp),I.hok.kept kp,by rw[rW];exact S.len.symm,ht⟩
 ·obtain⟨j,i',rfl,hc,hv⟩:=rX e2;obtain⟨y,h1,h2,h3⟩:=S.cap j i' hc;have exy:y=x:=Option.some.inj (h1.symm.trans e1);subst exy;obtain⟨c,hc1,hc2⟩:=S.has I.ok h3;obtain⟨m0,hn0,hl0⟩:=I.loc;have hkind:=S.free _ (PySem.mem_of_lookup h3) rfl;obtain⟨u,ru,lu⟩:=hl0 i' y v h2 hv (hkind.elim (fun z=>.inr (.inl z)) (fun z=>.inr (.inr z)));refine⟨u,ru,.inr ⟨?_,c,hc2,?_⟩⟩
  ·rcases g7 (env:=X.env) (x:=y) scope.names with⟨_,e⟩|⟨k1,k2,q1,q2,q3⟩
   ·rw[e]at h3;cases h3
   ·have hk1:k1=.free:=Option.some.inj (q1.symm.trans h3);rcases q3 with z|⟨_,z⟩
    ·right;show(relabel scope X.env).names.lookup y=_;exact q2.trans (by rw[z,hk1])
    ·left;show(relabel scope X.env).names.lookup y=_;exact q2.trans (by rw[z])
  ·rcases lu with⟨hk,_⟩|⟨_,c',hc',cell⟩
   ·rcases hkind with z|z<;>(have z':=hk.symm.trans z;cases z')
   ·have:c'=c:=Option.some.inj (hc'.symm.trans hc1);subst this;obtain⟨o,ho,hd⟩:=cell;exact⟨o,kp _ o ho,hd⟩
 ·obtain⟨v,o,ho,hd⟩:=I.cell x c (S.sub I.ok e);exact⟨v,o,kp _ o ho,hd⟩
end
def FZ (X:Cx) (ifs:List Expr) (t:TT):Prop :=
 ∀(pins:List (Addr×Obj)) (s:Shared) (σ:St) (H:Hp) (Q:Bool->Hp->Prop),Inv X pins σ H s->t σ H Q ->
  wpAny (model X.prog X.w) X.A (forIn ifs true fun c r=>if r=true then do let ok ← isTrue c X.env (eval c X.env);pure (ForInStep.yield ok) else pure (ForInStep.yield r)) (TP X pins σ Q) X.xe s
def JT:TT:=fun _ H Q=>Q true H
theorem ki {X:Cx}:FZ X [] JT:=fun _ _ _ H _ I h=>wpAny_tests_nil ⟨H,I,h⟩
theorem kj {X:Cx} {c:Expr} {t:TT} (h:PT X c t):FZ X [c] t:=fun pins s σ H Q I hw=>wpAny_tests_one (h pins s σ H Q I hw)
theorem jF {prog:Program} {w:World} {A:Around} {R:Result->Shared->Prop} {s:Shared} {elt target iter:Expr} {ifs:List Expr} {scope:Scope} {pos:Pos} {it acc:Value} {env:Env} (I:Nat->Shared->Prop)
  (turn:∀n s,I n s->wpAny (model prog w) A (pyNext it) (fun r s₁=>match r with
   | none=>R (.ok .next) s₁
   | some v=>wpAny (model prog w) A (letOwnedTupleGo target it v) (fun _ s₀=>wpAny (model prog w) A (assign target env v) (fun _ s₂ =>
     wpAny (model prog w) A (forIn ifs true fun c r=>if r=true then do let ok ← isTrue c env (eval c env);pure (ForInStep.yield ok) else pure (ForInStep.yield r)) (fun ok s₃ =>
      if ok=true then wpAny (model prog w) A (eval elt env) (fun x s₄ =>
       wpAny (model prog w) A (call (.builtin "list.append") [acc,x]) (fun _ s₅=>∃m,m<n/\I m s₅) (fun _ _=>False) s₄) (fun _ _=>False) s₃
      else ∃m,m<n/\I m s₃) (fun _ _=>False) s₂) (fun _ _=>False) s₀) (fun _ _=>False) s₁) (fun _ _=>False) s)
  (n:Nat) (h:I n s) :
  codeAny (model prog w) A (.compLoop (.ListComp elt [⟨target,iter,ifs,0⟩] scope pos) 0 it acc env) R s:=by
 refine codeAny_loop rfl I (fun n s hI=>?_) n h;show wpAny _ A ((compTurn (.ListComp elt [⟨target,iter,ifs,0⟩] scope pos) 0 it acc env).onRaise (fun x=>do noteFrame x env;theTreesLotGoes x)) _ _ s
 refine wpAny_noted ?_;rw[compTurn_list];refine Aa (AO (Aa (Al (turn n s hI) (fun r s₁ h₁=>?_) fun _ _ h'=>False.elim h')));cases r with
 | none=>exact Ai h₁
 | some v =>
  refine Aa (Al h₁ (fun _ s₀ h₀=>?_) fun _ _ h'=>False.elim h');refine Aa (Al h₀ (fun _ s₂ h₂=>Aa (Al h₂ (fun ok s₃ h₃=>?_) fun _ _ h'=>False.elim h')) fun _ _ h'=>False.elim h');cases ok with
  | false=>exact Ai ⟨rfl,h₃⟩
  | true =>
   exact Aa (Aa (Al h₃ (fun x s₄ h₄=>Aa (Al h₄ (fun _ s₅ h₅=>Ai (Ai ⟨rfl,h₅⟩)) fun _ _ h'=>False.elim h')) fun _ _ h'=>False.elim h'))
def nS (k:Nat) (caps:List Nat) (wi:TI) (g:TG) (tc:TT) (te:TE):TE:=fun σ H Q=>wi σ H fun J H1=>∃(n:Nat) (W:Nat->List V->Hp->Prop),W 0 [] H1 /\
 (∀xs H,W n xs H->J.stop n H/\∀p,H p=none->Q (.ref p) (upd H p (.lst xs))) /\
 ∀i xs H,i<n->W i xs H->J.go i H/\xs.length<sizeLine/\∀x H',J.yld i H x H'->g x (jv k caps σ) H' fun σ2 H2=>tc σ2 H2 fun ok H3 =>
  if ok=true then te σ2 H3 fun y H4=>σ2.drop k=(jv k caps σ).drop k/\W (i+1) (xs++[y]) H4
  else σ2.drop k=(jv k caps σ).drop k/\W (i+1) xs H3
abbrev cJ (its:List Value) (n:Nat):Obj:={ cls:=.type "list",data:=.seq its.toArray n }
def zG (X:Cx) (pins:List (Addr×Obj)) (H:Hp) (C:Addr):Prop :=
 H C=none/\C≠X.env.locals/\(C∈X.ex∨X.s₀.heap.objs.size<=C)/\(∀x c,X.env.cells.lookup x=some c->c≠C)/\∀p∈X.pn++pins,p.1≠C
inductive CI (X':Cx) (A:Addr) (σ:St) (tn:Nat->Heap->Prop) (fp:List Addr) (n0:Nat) (W:Nat->List V->Hp->Prop) (n:Nat) (s':Shared):Prop
 | mk (i:Nat) (xs:List V) (its:List Value) (nn:Nat) (H':Hp) (J:Inv X' [(A,cJ its nn)] σ H' s') (st:tn i s'.heap) (fr:∀b∈fp,H' b=none) (vs:Vals xs its) (hz:xs.length<=sizeLine) (hn:n=n0-i) (hi:i<=n0) (w:W i xs H')
theorem t7 {X:Cx} {elt iter tg:Expr} {ifs:List Expr} {scope:Scope} {pos cpos:Pos} {N:List Str} {k:Nat} {caps:List Nat} {wi:TI} {g:TG} {tc:TT} {te:TE} {use:Option (Value->Sem Unit)} {Q':Value->Shared->Prop}
  {pins:List (Addr×Obj)} {s:Shared} {σ:St} {H:Hp} {Q:VK} (S:BlkScope X N k caps scope) (hc:X.calm=true) (hi:PI X tg iter wi)
  (hg:∀C s H fp,PG (iJ X N scope C s H fp) tg g) (ht:∀C s H fp,FZ (iJ X N scope C s H fp) ifs tc) (he:∀C s H fp,PE (iJ X N scope C s H fp) elt te)
  (hs:∀x,foldedSetIterable iter X.env x=pure x) (I:Inv X pins σ H s) (h:nS k caps wi g tc te σ H Q)
  (fin:∀(D C:Addr) (H4:Hp) (s4:Shared) (m:Str->Option Value),Inv X pins σ H4 s4->s4.heap.Ns C m->zG X pins H4 C->Q (.ref D) H4->compPost (model X.prog X.w) X.A X.xe use Q' (.ref D) C (.ok .next) s4) :
  wpAny (model X.prog X.w) X.A (comprehension (.ListComp elt [⟨tg,iter,ifs,0⟩] scope pos) scope X.env cpos (newList []) false (eval iter X.env) use) Q' X.xe s:=by
 refine wpAny_comprehension_free rfl hs (il (S.cells I.ok)) S.kind S.loc ?_;refine dI (hi pins s σ H _ I h) fun v s1 h1=>dI h1 fun itv s2 h2=>?_;obtain⟨it,fp,tn,J,H2,e,I2,T,st2,f2,n0,W,w0,wstop,turn⟩:=h2;subst e;refine Ay (wpAny_newFunctionEnv S.nocell (by intro y hy;simp at hy) (fun h₁ hns₁ hsb₁=>?_) S.kind)
 dsimp only at hns₁ hsb₁ ⊢;generalize hG:s2.heap.push { cls:=.type "list",dict:=none,data:=.seq ([]:List Value).toArray }=G at hns₁ hsb₁ ⊢;have hCG:G.objs.size=s2.heap.objs.size+1:=by rw[← hG,A2]
 have hDC:s2.heap.objs.size≠G.objs.size:=by lia
 have below:∀b,b<s2.heap.objs.size->b≠G.objs.size/\b≠s2.heap.objs.size:=fun b hb=>⟨by lia,by lia⟩
 have old:∀b o,s2.heap.get? b=some o->h₁.get? b=some o:=fun b o e=>hsb₁.extBut b o (below b (Ad e)).1 (Ac _ (hG ▸ Ac _ e));have hacc:h₁.get? s2.heap.objs.size=some (cJ [] 0):=hsb₁.extBut _ _ hDC (Ac _ (hG ▸ Ak _ rfl));have hlt:∀b∈fp,b<s2.heap.objs.size:=fun b hb=>by obtain⟨o,ho,_⟩:=T.obj 0 _ st2 b hb;exact Ad ho
 have hDf:s2.heap.objs.size∉fp:=fun z=>Ve _ (hlt _ z);have hle:s2.heap.objs.size<=G.objs.size:=by lia
 have hDcell:∀x c,(cj X.env scope.names []).lookup x=some c->c≠s2.heap.objs.size:=fun x c e z=>by
  obtain⟨v,q⟩:=I2.cell x c (S.sub I2.ok e);exact absurd q.lt (by rw[z];exact Ve _)
 have hDfs:s2.heap.objs.size∉g5 X.stack:=fun z=>by
  obtain⟨_,o,ho,_⟩:=I2.stack.mem z;exact absurd (Ad ho) (Ve _)
 have nfs:∀b∈fp,b∉g5 X.stack:=fun b hb z=>by
  rcases Vc.mp (I2.stkSub b z) with e|e
  ·exact(f2 b hb).2.1 e
  ·exact(f2 b hb).2.2.1 e
 have fpk:∀{H':Hp} {its:List Value} {n:Nat},(∀b∈fp,H' b=none)->∀b∈fp,oZ (iJ X N scope G.objs.size s2 H2 fp) [(s2.heap.objs.size,cJ its n)] H' b:=fun {H' its n} hn b hb =>
  ⟨hn b hb,(below b (hlt b hb)).1,nfs b hb,.inl hb,fun x c e=>(f2 b hb).2.2.2.2.1 x c (S.sub I2.ok e),fun p hp=>by
   have e:p=(s2.heap.objs.size,cJ its n):=by simpa using hp
   rw[e];exact Am (below b (hlt b hb)).2⟩
 have pinD:∀{H':Hp} {s':Shared} {σ':St} {its:List Value} {n:Nat},Inv (iJ X N scope G.objs.size s2 H2 fp) [] σ' H' s'->s'.heap.get? s2.heap.objs.size=some (cJ its n)->H' s2.heap.objs.size=none->Inv (iJ X N scope G.objs.size s2 H2 fp) [(s2.heap.objs.size,cJ its n)] σ' H' s':=fun {H' s' σ' its n} J e hn =>
  J.pins_of fun p hp=>by
   have q:p=(s2.heap.objs.size,cJ its n):=by simpa using hp
   rw[q];exact⟨e,hn,hDC,hDfs,fun v z=>by cases z⟩
 have I3:Inv (iJ X N scope G.objs.size s2 H2 fp) [] (jv k caps σ) H2 { s2 with heap:=h₁,toks:=s2.toks+([]:List (Str×Value)).length }:=wM S I2 f2 hlt hle rfl rfl old hns₁ (Vb I2.tk (Ba _ _));have loop:codeAny (model X.prog X.w) X.A (.compLoop (.ListComp elt [⟨tg,iter,ifs,0⟩] scope pos) 0 (.ref it) (.ref s2.heap.objs.size) (compEnvC scope (cj X.env scope.names []) G.objs.size X.env))
   (compPost (model X.prog X.w) X.A X.xe use Q' (.ref s2.heap.objs.size) G.objs.size) { s2 with heap:=h₁,toks:=s2.toks+([]:List (Str×Value)).length }:=by
  refine jF (CI (iJ X N scope G.objs.size s2 H2 fp) s2.heap.objs.size (jv k caps σ) tn fp n0 W) ?_ n0
   ⟨0,[],[],0,H2,pinD I3 hacc (I2.hok.fresh (Wb _)),T.keep _ _ _ st2 fun b _ o e=>old b o e,fun b hb=>(f2 b hb).1,.nil,Qk _,rfl,Qk _,w0⟩
  rintro n s3 ⟨i,xs,its,nn,H3,J3,st3,fr3,vs3,hz3,hn3,hi3,w3⟩;by_cases hin:i<n0
  rotate_left
  ·have ein:i=n0:=by lia
   subst ein;obtain⟨stop,qn⟩:=wstop xs H3 w3;refine dI (T.done (iJ X N scope G.objs.size s2 H2 fp) rfl rfl rfl hc i _ s3 _ H3 _ J3 (fpk fr3) st3 stop) fun r s4 zz9=>?_;obtain⟨hr,J4⟩:=zz9;subst hr;obtain⟨eD,nD,_⟩:=J4.pin (s2.heap.objs.size,cJ its nn) (by simp)
   have eD:s4.heap.get? s2.heap.objs.size=some (cJ its nn):=eD;have nD:H3 s2.heap.objs.size=none:=nD;obtain⟨m4,hm4,_⟩:=J4.loc;have U:Un (g5 X.stack) fp H2 H3 s2.heap s4.heap:=J4.base;have neC:∀b o,s2.heap.get? b=some o->b≠G.objs.size:=fun b o e=>(below b (Ad e)).1;have neD:∀b o,s2.heap.get? b=some o->b≠s2.heap.objs.size:=fun b o e=>(below b (Ad e)).2;have H2D:H2 s2.heap.objs.size=none:=I2.hok.fresh (Wb _);have HC:H3 G.objs.size=none:=J4.free;refine fin s2.heap.objs.size G.objs.size (upd H3 s2.heap.objs.size (.lst xs)) s4 m4 (I2.call' (s':=s4) (ch:=fp) J4.os ?_ ?_ J4.bare ?_ J4.tk) hm4 ?_ (qn _ nD)
   ·refine⟨fun b o e n hb hx=>U.keep b o e n hb hx,fun b o e n hb hx=>U.slot b o e n hb hx,fun b o e n hx=>?_,fun b o e hx=>U.there b o e hx,fun b ys e=>?_,fun b o u e=>?_,fun b ps e=>?_⟩
    ·rw[ax (neD b o e)];exact U.free b o e n hx
    ·rw[ax (bw e H2D)];exact U.tups b ys e
    ·rw[ax (bw e H2D)];exact U.frzs b o u e
    ·obtain⟨more,q⟩:=U.tbls b ps e;exact⟨more,by rw[ax (bw e H2D)];exact q⟩
   ·intro b u e;by_cases hb:b=s2.heap.objs.size
    ·subst hb;rw[aG]at e;cases e;exact⟨hz3,its,nn,vs3,eD⟩
    ·rw[ax hb]at e;exact(J4.hok b u e).stay (fun c v _ q=>q) (fun c q=>by rw[ax (bw q nD)];exact q) fun c ys q=>by rw[ax (bw q nD)];exact q
   ·exact fun b hb=>⟨(f2 b hb).2.2.2.1,(f2 b hb).2.1,(f2 b hb).2.2.2.2.1,(f2 b hb).2.2.2.2.2⟩
   ·refine⟨by rw[ax (Am hDC)];exact HC,Wl (Vb I2.lt hle),.inr (Yc I2.sz hle),fun x c e z=>?_,fun p hp z=>?_⟩
    ·obtain⟨v,q⟩:=I2.cell x c e;exact absurd (Vb q.lt (by rw[z];exact hle)) (Ve _)
    ·exact absurd (Vb (Ad (I2.pin p hp).1) (by rw[z];exact hle)) (Ve _)
  ·obtain⟨go,hz,step⟩:=turn i xs H3 hin w3;refine dI (T.item (iJ X N scope G.objs.size s2 H2 fp) rfl rfl rfl hc i _ s3 _ H3 _ J3 (fpk fr3) st3 go) fun r s4 zz9=>?_;obtain⟨u,hr,h4⟩:=zz9;subst hr;refine dI h4 fun _ s5 zz9=>?_;obtain⟨x,H5,J5,r5,y5,st5,fr5⟩:=zz9;have J5':=J5.pinned (fpk fr5) (T.obj _ _ st5);refine dI (hg _ _ _ _ _ s5 _ H5 x u _ J5' r5 (step x H5 y5)) fun _ s6 zz9=>?_;obtain⟨σ6,H6,J6,q6⟩:=zz9;refine dI (ht _ _ _ _ _ s6 σ6 H6 _ J6 q6) fun ok s7 zz9=>?_;obtain⟨H7,J7,q7⟩:=zz9;have wk:∀{σ8:St} {H8:Hp} {s8:Shared} {pl:List (Addr×Obj)},Inv (iJ X N scope G.objs.size s2 H2 fp) pl σ8 H8 s8->σ8.drop k=(jv k caps σ).drop k->Inv (iJ X N scope G.objs.size s2 H2 fp) pl (jv k caps σ) H8 s8:=fun {σ8 H8 s8 pl} J8 hd =>
    J8.weak (by rw[rW,J8.len];exact S.len.symm) fun j v e=>by
     obtain⟨j',i',rfl,hc',hv'⟩:=rX e;have e1:((jv k caps σ).drop k)[j']?=some (some v):=by rw[Yf];exact e
     rw[← hd,Yf]at e1;exact e1
   have recs:∀{σ8:St} {H8:Hp} {s8:Shared},Inv (iJ X N scope G.objs.size s2 H2 fp) ([(s2.heap.objs.size,cJ its nn)]++mZ fp s5.heap) σ8 H8 s8->(∀b∈fp,∀o,s5.heap.get? b=some o->s8.heap.get? b=some o)/\(∀b∈fp,H8 b=none):=fun {σ8 H8 s8} J8 =>
    ⟨fun b hb o e=>(J8.pin (b,o) (Xc _ (Xc _ (eU hb e)))).1,fun b hb=>by
     obtain⟨o,e,d⟩:=T.obj _ _ st5 b hb
     exact(J8.pin (b,o) (Xc _ (Xc _ (eU hb e)))).2.1⟩
   cases ok with
   | false =>
    rw[Ah (by decide)]at q7 ⊢
    obtain⟨hd,w7⟩:=q7;obtain⟨k1,k2⟩:=recs J7;exact⟨n0-(i+1),by lia,i+1,xs,its,nn,H7,wk J7.unpinned hd,T.keep _ _ _ st5 k1,k2,vs3,hz3,rfl,hin,w7⟩
   | true =>
    rw[Af rfl]at q7 ⊢;refine dI (he _ _ _ _ _ s7 σ6 H7 _ J7 q7) fun uy s8 zz9=>?_;obtain⟨y,H8,J8,r8,hd,w8⟩:=zz9;obtain⟨k1,k2⟩:=recs J8;obtain⟨eD,nD,_⟩:=J8.pin (s2.heap.objs.size,cJ its nn) (by simp)
    have eD:s8.heap.get? s2.heap.objs.size=some (cJ its nn):=eD;have nD:H8 s2.heap.objs.size=none:=nD;have hl3:=vs3.length;refine AB F.slot_list_append ⟨_,eD,rfl⟩ F.entry_list_append (F.args_list_append_2 _ _) (PySem.list_append s2.heap.objs.size its.toArray nn uy (by rw[Qb];lia)) ⟨eD,?_⟩
    have q:=PySem.IsL.update eD (fun a:Array Value=>a.push uy);have qe:its.toArray.push uy=(its++[uy]).toArray:=by simp
    rw[qe]at q;have uU:∀b o,b≠s2.heap.objs.size->s8.heap.get? b=some o->(s8.heap.update s2.heap.objs.size (Obj.mapSeq fun a=>a.push uy)).get? b=some o:=fun b o hb e=>(Aj s8.heap _ (Am hb)).trans e;have J9:Inv (iJ X N scope G.objs.size s2 H2 fp) [] σ6 H8 { s8 with heap:=s8.heap.update s2.heap.objs.size (Obj.mapSeq fun a=>a.push uy),toks:=s8.toks } :=
     (J8.pins_of (pins':=[]) fun p hp=>absurd hp (by simp)).turned uU nD hDC (.inr (Wb _)) hDcell (fun p hp=>absurd hp (by simp))
    refine⟨n0-(i+1),by lia,i+1,xs++[y],its++[uy],_,H8,wk (pinD J9 q nD) hd,T.keep _ _ _ st5 fun b hb o e=>uU b o (fun z=>hDf (z ▸ hb)) (k1 b hb o e),k2,vs3.append (.cons r8 .nil),?_,rfl,hin,w8⟩
    rw[Wa,Xj];lia
 exact codeAny_compStart_list loop (T.self _ 0 _ _ _ (T.keep _ _ _ st2 fun b _ o e=>old b o e) loop)
theorem Inv.aside {X:Cx} {pins:List (Addr×Obj)} {σ:St} {H:Hp} {s:Shared} {C:Addr} {h':Heap} (I:Inv X pins σ H s) (a:zG X pins H C) (hs:Heap.SameBut C s.heap h'):Inv X pins σ H { s with heap:=h' } :=
 I.turned (t':=s.toks) (fun b o hb e=>hs.extBut b o hb e) a.1 a.2.1 a.2.2.1 a.2.2.2.1 a.2.2.2.2
theorem gk {X:Cx} {elt iter tg:Expr} {ifs:List Expr} {scope:Scope} {pos:Pos} {N:List Str} {k:Nat} {caps:List Nat} {wi:TI} {g:TG} {tc:TT} {te:TE} (S:BlkScope X N k caps scope) (hc:X.calm=true) (hi:PI X tg iter wi)
  (hg:∀C s H fp,PG (iJ X N scope C s H fp) tg g) (ht:∀C s H fp,FZ (iJ X N scope C s H fp) ifs tc) (he:∀C s H fp,PE (iJ X N scope C s H fp) elt te)
  (hs:∀x,foldedSetIterable iter X.env x=pure x:=by intro _;rfl):PE X (.ListComp elt [⟨tg,iter,ifs,0⟩] scope pos) (nS k caps wi g tc te):=by
 intro pins s σ H Q I h;rw[eval_ListComp];exact t7 (use:=none) S hc hi hg ht he hs I h fun D C H4 s4 m I4 hm a q=>⟨m,hm,fun h' hs'=>⟨.ref D,H4,I4.aside a hs',rfl,q⟩⟩
theorem DL {X:Cx} {elt iter tg:Expr} {ifs:List Expr} {scope:Scope} {pos py spos:Pos} {N:List Str} {k:Nat} {caps:List Nat} {wi:TI} {g:TG} {tc:TT} {te:TE} {y:Str} {i:Nat} (S:BlkScope X N k caps scope) (hc:X.calm=true) (hN:X.N.Nodup) (hi':X.N[i]?=some y) (hy:Loc X.env.scope y) (hi:PI X tg iter wi)
  (hg:∀C s H fp,PG (iJ X N scope C s H fp) tg g) (ht:∀C s H fp,FZ (iJ X N scope C s H fp) ifs tc) (he:∀C s H fp,PE (iJ X N scope C s H fp) elt te)
  (hs:∀x,foldedSetIterable iter X.env x=pure x:=by intro _;rfl) (hsw:swapsWith (.ListComp elt [⟨tg,iter,ifs,0⟩] scope pos) (some (.Name y py)) spos.line X.env=pure true:=by rfl)
  (hf:X.fn y=true∨X.env.scope.names.lookup y=some .local:=by first|exact .inl rfl|exact .inr rfl|assumption) :
  PS X (.Assign [.Name y py] (.ListComp elt [⟨tg,iter,ifs,0⟩] scope pos) spos) (rH (nS k caps wi g tc te) (jr i)):=by
 intro pins s σ H D I h;rw[exec_Assign_Name_used _ _ _ _ hsw];refine Aa (AO (Aa ?_));show wpAny _ X.A (do let _ ← comprehension (.ListComp elt [⟨tg,iter,ifs,0⟩] scope pos) scope X.env _ (newList []) false (eval iter X.env) (some (assign (.Name y py) X.env))) _ _ s
 refine Aa (Al (t7 (use:=some (assign (.Name y py) X.env)) (Q':=fun _ s'=>SP X pins D .next s') S hc hi hg ht he hs I h ?_) (fun _ s' hq=>Ai (Ai hq)) fun _ _ e=>e)
 intro Da C H4 s4 m I4 hm a q;refine BE (mX I4 hN hi' hy (show RelV (.ref Da) (.ref Da) from rfl) (fun s5 I5 zz9 _=>?_) hf);obtain⟨b,sb,hb⟩:=zz9;have hbC:C≠b:=by
  rcases hb with z|z
  ·rw[z];exact a.2.1
  ·exact fun e=>a.2.2.2.1 _ _ z e.symm
 exact⟨m,hm.sameBut sb hbC,fun h' hs'=>⟨_,H4,I5.aside a hs',q⟩⟩
end L2
namespace L2
open PySem PySem.Spec PyProof.Rows
def LO (x:Str):It:=⟨fun i _=>i<x.cps.size,fun i H v H'=>H'=H/\∃c,x.cps[i]?=some c/\v=.str ⟨#[c]⟩,fun i _=>x.cps.size<=i⟩
theorem yl {P:Program} {w:World} {K:PySem.W.Frag} {tg:Expr} (it:Addr) (x:Str) (t:Tok):Turn P w K tg (LO x) [it] it (fun i h=>h.IsStrIter it "str_ascii_iterator" x t i) where
 mem:=by simp
 obj:=fun i h st b hb=>by
  have e:b=it:=by simpa using hb
  subst e;obtain⟨o,e,c,d⟩:=st;exact⟨o,e,fun v z=>by rw[d]at z;cases z⟩
 keep:=fun i h h' st k=>let ⟨o,ho,r⟩:=st;⟨o,k it (by simp) o ho,r⟩
 item:=by
  intro X hP hw hK hc i pins s σ H E I hf st hg;subst hP hw hK;obtain⟨f0,f1,f2,f3,f4,f5⟩:=hf it (by simp)
  have hg':i<x.cps.size:=hg;refine wpAny_pyNext_ascii_item st (c:=x.cps[i]) (by simp[hg']) fun h' st' sb=>?_
  have I1:Inv X pins σ H { s with heap:=h',toks:=s.toks+1 }:=I.turned (fun b o hb e=>sb.extBut b o hb e) f0 f1 f3 f4 f5;obtain⟨o,e,c,d⟩:=id st';exact⟨_,rfl,qD (s:={ s with heap:=h',toks:=s.toks+1 }) e c d (by decide) ⟨.str ⟨#[x.cps[i]]⟩,H,I1,⟨_,rfl⟩,⟨rfl,_,by simp[hg'],rfl⟩,st',fun b hb=>(hf b hb).1⟩⟩
 done:=by
  intro X hP hw hK hc i pins s σ H E I hf st hg;subst hP hw hK;obtain⟨f0,f1,f2,f3,f4,f5⟩:=hf it (by simp)
  have hg':x.cps.size<=i:=hg;exact wpAny_pyNext_ascii_end (I.ok.hd hc) st (by simp[hg']) fun h' eb=>⟨rfl,I.turned (t':=s.toks) (fun b o hb e=>eb b o hb e) f0 f1 f3 f4 f5⟩
 self:=fun _ _ _ _ _ st h=>wpAny_pyIter_striter_ascii st h
theorem ym {P:Program} {w:World} {K:PySem.W.Frag} {tg:Expr} (it:Addr) (x:Str) (t:Tok):Turn P w K tg (LO x) [it] it (fun i h=>h.IsStrIter it "str_iterator" x t i) where
 mem:=by simp
 obj:=fun i h st b hb=>by
  have e:b=it:=by simpa using hb
  subst e;obtain⟨o,e,c,d⟩:=st;exact⟨o,e,fun v z=>by rw[d]at z;cases z⟩
 keep:=fun i h h' st k=>let ⟨o,ho,r⟩:=st;⟨o,k it (by simp) o ho,r⟩
 item:=by
  intro X hP hw hK hc i pins s σ H E I hf st hg;subst hP hw hK;obtain⟨f0,f1,f2,f3,f4,f5⟩:=hf it (by simp)
  have hg':i<x.cps.size:=hg;refine wpAny_pyNext_wide_item st (c:=x.cps[i]) (by simp[hg']) fun h' st' sb=>?_
  have I1:Inv X pins σ H { s with heap:=h',toks:=s.toks+1 }:=I.turned (fun b o hb e=>sb.extBut b o hb e) f0 f1 f3 f4 f5;obtain⟨o,e,c,d⟩:=id st';exact⟨_,rfl,qD (s:={ s with heap:=h',toks:=s.toks+1 }) e c d (by decide) ⟨.str ⟨#[x.cps[i]]⟩,H,I1,⟨_,rfl⟩,⟨rfl,_,by simp[hg'],rfl⟩,st',fun b hb=>(hf b hb).1⟩⟩
 done:=by
  intro X hP hw hK hc i pins s σ H E I hf st hg;subst hP hw hK;obtain⟨f0,f1,f2,f3,f4,f5⟩:=hf it (by simp)
  have hg':x.cps.size<=i:=hg;exact wpAny_pyNext_wide_end (I.ok.hd hc) st (by simp[hg']) fun h' eb=>⟨rfl,I.turned (t':=s.toks) (fun b o hb e=>eb b o hb e) f0 f1 f3 f4 f5⟩
 self:=fun _ _ _ _ _ st h=>wpAny_pyIter_striter_wide st h
section
variable {X:Cx} {tg:Expr}
def Ht (tl:TE):TI:=fun σ H R=>tl σ H fun x H1=>∃z,x=.str z/\R (LO z) H1
theorem Hu {l:Expr} {tl:TE} (hl:PE X l tl):PI X tg l (Ht tl):=by
 intro pins s σ H R I h;refine dI (hl pins s σ H _ I h) fun v s1 zz9=>?_;obtain⟨x,H1,I1,r1,q1⟩:=zz9;obtain⟨z,e,q⟩:=q1;subst e;obtain⟨t,rfl⟩:=r1;have fpk:∀b∈[s1.heap.objs.size],oZ X pins H1 b:=fun b hb=>by
  have e:b=s1.heap.objs.size:=by simpa using hb
  subst e;exact I1.fpOk (Wb _) (I1.hok.fresh (Wb _))
 cases ha:z.cps.all (·<128) with
 | true=>exact wpAny_pyIter_ascii ha ⟨s1.heap.objs.size,[s1.heap.objs.size],_,_,H1,rfl,I1.kept (t':=s1.toks) fun b o e=>Ac _ e,yl _ z t,⟨_,Ak _ rfl,rfl,rfl⟩,fpk,q⟩
 | false=>exact wpAny_pyIter_wide ha ⟨s1.heap.objs.size,[s1.heap.objs.size],_,_,H1,rfl,I1.kept (t':=s1.toks) fun b o e=>Ac _ e,ym _ z t,⟨_,Ak _ rfl,rfl,rfl⟩,fpk,q⟩
theorem range_all (bs:List Bool):(List.range bs.length).all (fun i=>bs.getD i true)=bs.all id:=by
 induction bs with
 | nil=>rfl
 | cons b r ih =>
  rw[Vd,List.range_succ_eq_map,A8,List.all_map,A8,← ih];rfl
theorem o7 (hc:X.calm=true):CallR X (.builtin "all") (fun xs H Q=>∃(p:Addr) (bs:List Bool),xs=[.ref p]/\i5 X.K H p (bs.map V.bl)/\Q (.bl (bs.all id)) H):=by
 intro pins s σ H xs us Q I rv h;obtain⟨p,bs,rfl,hq,q⟩:=h;obtain⟨u,rfl,ru⟩:=vals1 rv;cases ru;obtain⟨its,r,pl,hz⟩:=I.list hq;have hlen:its.length=bs.length:=by have:=r.length;simpa using this.symm
 obtain⟨op,np,ep,cp,dp,sp⟩:=id pl;have hne:p≠s.heap.objs.size:=Vf (Ad ep);refine bW (call_all_walk (BD pl.isList ?_));refine⟨s.heap.objs.size,_,_,_,_,_,fun i=>bs.getD i true,rfl,Walks.list (show X.A.in1.handled=none from I.ok.hd hc) s.heap.objs.size p hne its.toArray,⟨⟨_,Ak _ rfl,rfl,rfl⟩,⟨op,Ac _ ep,cp,np,sp⟩⟩,?_,fun h' tk kp hle=>?_⟩
 ·intro i v s' Q' E' hv hQ';have hv':its[i]?=some v:=by simpa using hv
  have hi:i<its.length:=(Xd.mp hv').1;have hb:(bs.map V.bl)[i]?=some (V.bl (bs[i]'(by lia))):=by
   rw[Zg,Qa (by lia)];rfl
  obtain⟨u',e1,e2⟩:=r.get hb;rw[hv']at e1;cases e1;cases e2;have:bs.getD i true=bs[i]'(by lia):=by rw[Ye,Qa (by lia)];rfl
  have hQ2:Q' (bs.getD i true) s':=hQ';rw[this]at hQ2;exact Ax hQ2
 ·have e:(List.range its.toArray.size).all (fun i=>bs.getD i true)=bs.all id:=by
   rw[Qb,hlen];exact range_all bs
  rw[e]
  exact⟨.bl (bs.all id),H,I.kept (fun b o e=>kp b o (by
   intro z;have z':b=s.heap.objs.size:=by simpa using z
   exact absurd (Ad e) (by rw[z'];exact Ve _)) (Ac _ e)) (I.tkl' hle),rfl,q⟩
theorem o9:∀{ys:List Str} {us:List Value},Vals (ys.map V.str) us->StrsAre us ys
 | [],_,r=>by cases r;exact .nil
 | y::ys,_,r=>by
  cases r with
  | cons a b =>
   obtain⟨t,rfl⟩:=a;exact .cons y t (o9 b)
theorem DM:Jn X "str.join" (fun x vs H Q=>∃(sep:Str) (p:Addr) (ys:List Str),x=.str sep/\vs=[.ref p]/\i5 X.K H p (ys.map V.str)/\(ys.map (·.length)).sum+ys.length*sep.length<=16777216/\Q (.str (Txt.join sep ys)) H):=by
 intro pins s σ H x vs v us Q I rx rv h;obtain⟨sep,p,ys,rfl,rfl,hq,hz,q⟩:=h;obtain⟨t,rfl⟩:=rx;obtain⟨u,rfl,ru⟩:=vals1 rv;cases ru;obtain⟨its,r,pl,_⟩:=I.list hq;exact bW (join_list pl.isList (o9 (by simpa using r)) hz fun t' k hle=>⟨.str _,H,I.tok k (I.tkl' hle),⟨t',rfl⟩,q⟩)
def sgn (x:Str):List V:=x.cps.toList.map fun c=>.str ⟨#[c]⟩
theorem t8 {x:Str} {acc:Array Value} (h:ItemsOf (SignAt x) acc x.cps.size):Vals (sgn x) acc.toList:=by
 obtain⟨h1,h2⟩:=h;have gen:∀(cs:List Nat) (us:List Value),us.length=cs.length->(∀(j:Nat) v,us[j]?=some v->∃c u,cs[j]?=some c/\v=Value.str ⟨#[c]⟩ u)->Vals (cs.map fun c=>V.str ⟨#[c]⟩) us:=by
  intro cs;induction cs with
  | nil=>intro us hl _;cases us with
   | nil=>exact .nil
   | cons _ _=>cases hl
  | cons c cs ih =>
   intro us hl hu;cases us with
   | nil=>cases hl
   | cons u us =>
    obtain⟨c',tk,e1,e2⟩:=hu 0 u rfl;have:c=c':=by simpa using e1
    subst this;subst e2;refine .cons ⟨tk,rfl⟩ (ih us (by simpa using hl) fun j v e=>?_)
    have:=hu (j+1) v (by simpa using e)
    simpa using this
 refine gen x.cps.toList acc.toList (by simp[h1]) fun j v e=>?_
 obtain⟨c,u,e1,e2⟩:=h2 j v (by simpa using e)
 exact⟨c,u,by simpa using e1,e2⟩
theorem wN (x:Str):(sgn x).length=x.cps.size:=by simp[sgn]
theorem pc (hc:X.calm=true):CallR X (.type "list") (fun xs H Q=>∃z:Str,xs=[.str z]/\z.cps.size<=sizeLine/\∀l,H l=none->Q (.ref l) (upd H l (.lst (sgn z)))):=by
 intro pins s σ H xs us Q I rv h;obtain⟨z,rfl,hz,q⟩:=h;obtain⟨u,rfl,ru⟩:=vals1 rv;obtain⟨t,rfl⟩:=ru;refine bW (call_list_str (I.ok.hd hc) z t (fun h' tk acc' c' kp hS hi hle=>?_) hz);refine⟨.ref s.heap.objs.size,upd H s.heap.objs.size (.lst (sgn z)),I.laid kp (Wb _) ⟨by rw[wN];exact hz,acc'.toList,c',t8 hi,by simpa using hS⟩ (I.tkl' hle),rfl,q _ (I.hok.fresh (Wb _))⟩
theorem ObjOk.there {P:Program} {w:World} {H:Hp} {h:Heap} {a:Addr} {o:HO} (x:ObjOk P w H h a o):∃ob,h.get? a=some ob:=by
 cases o with
 | lst xs=>obtain⟨_,_,_,_,e⟩:=x;exact⟨_,e⟩
 | tup xs=>obtain⟨_,_,_,o,e,_⟩:=x;exact⟨_,e⟩
 | dK kvs=>obtain⟨_,_,_,_,o,_,_,e,_⟩:=x;exact⟨_,e⟩
 | dT ep kvs=>obtain⟨_,_,_,_,_,o,_,e,_⟩:=x;exact⟨_,e⟩
 | set S n=>obtain⟨o,_,_,_,e,_⟩:=x;exact⟨_,e⟩
 | ins C dx fs=>obtain⟨_,_,_,e,_⟩:=x;exact⟨_,e⟩
 | own y=>exact x
 | xd fs=>obtain⟨_,⟨_,_,_,e,_⟩,_⟩:=x;exact⟨_,e⟩
 | rng lo hi=>obtain⟨_,_,_,e⟩:=x;exact⟨_,e⟩
 | frz ob u=>obtain⟨e,_⟩:=x;exact⟨_,e⟩
 | tbl ps=>exact⟨_,x⟩
 | met f y=>exact⟨_,x⟩
 | ext φ=>obtain⟨_,e,_⟩:=x;exact e
theorem Inv.laid2 {pins:List (Addr×Obj)} {σ:St} {H:Hp} {s:Shared} {h':Heap} {a:Addr} {o:HO} {t':Nat} (I:Inv X pins σ H s) (k:∀b u,s.heap.get? b=some u->h'.get? b=some u) (hne:∀b u,s.heap.get? b=some u->b≠a) (hn:H a=none) (new:ObjOk X.prog X.w (upd H a o) h' a o) (ht:0<t':=by first|assumption|exact Wg _|exact Inv.tk (by assumption)|exact Inv.tkl (by assumption) (by assumption)|lia) :
  Inv X pins σ (upd H a o) { s with heap:=h',toks:=t' }:=by
 refine I.un ⟨fun b u e _ _ _=>k b u e,fun b u e _ _ _=>⟨u.slots,k b u e⟩,fun b u e n _=>by rw[ax (hne b u e)];exact n,fun b u e _=>⟨u,k b u e⟩,fun b xs e=>by rw[ax (bw e hn)];exact e,fun b u v e=>by rw[ax (bw e hn)];exact e,fun b ps e=>⟨#[],by rw[ax (bw e hn),e];simp⟩⟩ ?_
 intro b u e;by_cases hb:b=a
 ·subst hb;rw[aG]at e;cases e;exact new
 ·rw[ax hb]at e;exact(I.hok b u e).stay (fun c v _ q=>k c v q) (fun c q=>by rw[ax (bw q hn)];exact q) fun c xs q=>by rw[ax (bw q hn)];exact q
theorem oi (hc:X.calm=true):CallR X (.type "tuple") (fun xs H Q=>∃z:Str,xs=[.str z]/\z.cps.size<=sizeLine/\∀l,H l=none->Q (.ref l) (upd H l (.tup (sgn z)))):=by
 intro pins s σ H xs us Q I rv h;obtain⟨z,rfl,hz,q⟩:=h;obtain⟨u,rfl,ru⟩:=vals1 rv;obtain⟨t,rfl⟩:=ru;refine bW (call_tuple_str (I.ok.hd hc) z t (fun h' tk acc kp hi hle=>?_) hz);have hne:∀b u,s.heap.get? b=some u->b≠h'.objs.size:=fun b u e z=>absurd (Ad (kp b u e)) (by rw[z];exact Ve _)
 have hn:H h'.objs.size=none:=by
  cases e:H h'.objs.size with
  | none=>rfl
  | some o =>
   obtain⟨ob,eo⟩:=(I.hok _ _ e).there;exact absurd rfl (hne _ _ eo)
 refine⟨.ref h'.objs.size,upd H h'.objs.size (.tup (sgn z)),I.laid2 (fun b u e=>Ac _ (kp b u e)) hne hn ⟨by rw[wN];exact hz,acc.toList,t8 hi,⟨_,Ak _ rfl,rfl,0,by simp⟩⟩ (I.tkl' hle),rfl,q _ hn⟩
theorem Hv:SlR X (fun x lo hi H Q=>∃z:Str,x=.str z/\z.length<=sizeLine/\Q (.str (Txt.slice z lo hi)) H):=by
 intro pins s σ H x v vl vu lo hi sl Q I rx hs pl pu h;obtain⟨z,rfl,hz,q⟩:=h;obtain⟨t,rfl⟩:=rx;refine⟨"str",_,F.slot_str_getitem.lookup,AJ _ _ _,?_⟩;have fin:∀(o p:Option Int),lo=o->hi=p->∀t' k,s.toks<=k->EP X pins σ Q (.str (Txt.slice z o p) t') { s with toks:=k }:=fun o p e1 e2 t' k hle=>⟨.str _,H,I.tok k (I.tkl' hle),⟨t',rfl⟩,by rw[← e1,← e2];exact q⟩
 refine bW ?_;cases pl with
 | none =>
  cases pu with
  | none=>exact AE (l:=none) (u:=none) (st:=none) hs rfl (Bi ⟨Yc (Bf z _ _) hz,fun t' k=>fin _ _ rfl rfl t' k⟩)
  | int j uj=>exact AE (l:=none) (u:=some (j,uj)) (st:=none) hs rfl (Bi ⟨Yc (Bf z _ _) hz,fun t' k=>fin _ _ rfl rfl t' k⟩)
 | int i ui =>
  cases pu with
  | none=>exact AE (l:=some (i,ui)) (u:=none) (st:=none) hs rfl (Bi ⟨Yc (Bf z _ _) hz,fun t' k=>fin _ _ rfl rfl t' k⟩)
  | int j uj=>exact AE (l:=some (i,ui)) (u:=some (j,uj)) (st:=none) hs rfl (Bi ⟨Yc (Bf z _ _) hz,fun t' k=>fin _ _ rfl rfl t' k⟩)
end
end L2
namespace L2
open PySem PySem.Spec PyProof.Rows
structure Cal (P:Program) (w:World) (K:PySem.W.Frag) (mg:Str->Option Value) (base:Heap) (x:Str) (k:Nat) (ps:List Str) (sp:Sp):Prop where
 ex:∃f fd,FnOk P w K mg base ql k f fd ps sp/\mg x=some (.ref f)/\PySem.W.keepIn K (.ref f)=true/\Binds K fd ps []
def yn (sp:Sp) (t:TA):TE:=fun σ H Q=>t σ H fun vs H1=>sp vs H1 Q E0
section
variable {X:Cx}
theorem aP (C:Cal X.prog X.w X.K X.mg X.base x k ps sp) (hr:Room k' X.A) (hg:Gl X x) (ha:PA X (e::es) t) (hk:k<=k':=by decide)
  (hdb:(x == ("__debug__":Str))=false:=by decide) (he:starEach (e::es) X.env=(false,eval e X.env)::starEach es X.env:=by rfl) (hpl:(backTo pos (starEach es X.env)).any (·.1)=false:=by rfl) :
  PE X (.Call (.Name x p) (e::es) [] pos) (yn sp t):=by
 obtain⟨f,fd,F,hm,hkp,hb⟩:=C.ex;intro pins s σ H Q I h;refine wG F (hr.mono hk) hg hm hkp hb .nil FW ha hdb he hpl pins s σ H Q I ?_;have e0:yn sp t=zu sp [] E0 t:=by
  funext σ H Q
  unfold yn zu;simp only[Wc]
 rw[e0]at h;exact h
def noStar:Expr->Bool
 | .Starred ..=>false
 | _=>true
theorem gX (h:noStar e=true):starEach (e::es) env=(false,eval e env)::starEach es env:=by
 cases e<;>first|rfl|cases h
theorem au (ha:PE X e te) (hr:PA X es t) (h:noStar e=true:=by rfl):PA X (e::es) (br te t):=wF ha hr (gX h)
def strsOf:List Expr->Option (List Str)
 | []=>some []
 | .Constant (.str x) _ _::r=>(strsOf r).map (x::·)
 | _=>none
def F0 (xs:List Str):TA:=fun _ H Q=>Q (xs.map V.str) H
theorem fE:∀{es:List Expr} {xs:List Str},strsOf es=some xs->PA X es (F0 xs)
 | [],xs,h=>by
  have e:xs=[]:=(Option.some.inj h).symm;subst e;exact fun pos pins s σ H Q I q=>ah pos pins s σ H Q I q
 | e::r,xs,h=>by
  cases e with
  | Constant c j p =>
   cases c with
   | str x =>
    have h':(strsOf r).map (x::·)=some xs:=h;obtain⟨ys,h1,h2⟩:=Zh.mp h';subst h2;intro pos pins s σ H Q I q;exact wF (az (x:=x)) (fE h1) (gX rfl) pos pins s σ H Q I q
   | _=>cases h
  | _=>cases h
theorem DN (hg:Gl X x) (hm:∃t,X.mg x=some (.str z t)) (hd:(x == ("__debug__":Str))=false:=by decide):PE X (.Name x pos) (tC (.str z)):=by
 obtain⟨t,h⟩:=hm;exact rF hg h ⟨t,rfl⟩ hd
theorem DO (hg:Gl X x) (hm:∃t,X.mg x=some (.int i t)) (hd:(x == ("__debug__":Str))=false:=by decide):PE X (.Name x pos) (tC (.int i)):=by
 obtain⟨t,h⟩:=hm;exact rF hg h ⟨t,rfl⟩ hd
theorem bi (i:Nat) {pos' pos:Pos} (hN:X.N.Nodup) (he:PE X e te) (hi:X.N[i]?=some x:=by rfl) (hx:Loc X.env.scope x:=by first|exact Or.inl rfl|exact Or.inr rfl) (hf:X.fn x=true∨X.env.scope.names.lookup x=some .local:=by first|exact .inl rfl|exact .inr rfl|assumption)
  (hs:swapsWithSole [.Name x pos'] e pos.line X.env=pure false:=by rfl) (hw:swappedStores [.Name x pos'] e X.env=pure none:=by rfl) (h1:(assignEach [.Name x pos'] X.env).map (·.2)=[assign (.Name x pos') X.env]:=by rfl) :
  PS X (.Assign [.Name x pos'] e pos) (rH te (jr i)):=jx he (wy hN hi hx hf) hs hw h1
theorem eJ (i:Nat) (hN:X.N.Nodup) (hi:X.N[i]?=some x:=by rfl) (hx:Loc X.env.scope x:=by first|exact Or.inl rfl|exact Or.inr rfl) (hf:X.fn x=true∨X.env.scope.names.lookup x=some .local:=by first|exact .inl rfl|exact .inr rfl|assumption):PG X (.Name x pos) (jr i):=wy hN hi hx hf
theorem Hw (i:Nat) {pos py spos:Pos} (S:BlkScope X N k caps scope) (hc:X.calm=true) (hN:X.N.Nodup) (hi:PI X tg iter wi)
  (hg:∀C s H fp,PG (iJ X N scope C s H fp) tg g) (ht:∀C s H fp,FZ (iJ X N scope C s H fp) ifs tc) (he:∀C s H fp,PE (iJ X N scope C s H fp) elt te)
  (hi':X.N[i]?=some y:=by rfl) (hy:Loc X.env.scope y:=by first|exact Or.inl rfl|exact Or.inr rfl)
  (hs:∀x,foldedSetIterable iter X.env x=pure x:=by intro _;rfl) (hsw:swapsWith (.ListComp elt [⟨tg,iter,ifs,0⟩] scope pos) (some (.Name y py)) spos.line X.env=pure true:=by rfl)
  (hf:X.fn y=true∨X.env.scope.names.lookup y=some .local:=by first|exact .inl rfl|exact .inr rfl|assumption) :
  PS X (.Assign [.Name y py] (.ListComp elt [⟨tg,iter,ifs,0⟩] scope pos) spos) (rH (nS k caps wi g tc te) (jr i)):=DL S hc hN hi' hy hi hg ht he hs hsw hf
end
theorem dU:bootBuiltins "list"=some (.type "list"):=by decide +kernel
theorem jG:bootBuiltins "tuple"=some (.type "tuple"):=by decide +kernel
theorem gY:bootBuiltins "str"=some (.type "str"):=by decide +kernel
theorem qM:bootBuiltins "int"=some (.type "int"):=by decide +kernel
theorem i8:bootBuiltins "bool"=some (.type "bool"):=by decide +kernel
theorem Hx {K:PySem.W.Frag} {T S:String} {b:Bool} (h:(if (Value.type T == Value.type S)=true then some true else if PySem.W.kitMeta S=true then(fastBuiltinMro T).map (·.contains (Value.type S)) else none)=some b):PySem.W.kitOne K (.type T) (.type S)=some b:=h
theorem boot_isinstance:bootBuiltins "isinstance"=some (.builtin "isinstance"):=by decide +kernel
theorem boot_all:bootBuiltins "all"=some (.builtin "all"):=by decide +kernel
def F2 (osc:Scope) (ON N:List Str) (k:Nat) (caps:List Nat) (scope:Scope):Bool :=
 decide (scope.kind=.function)&&scope.names.all (fun y=>decide (y.2≠.cell))&&scope.names.all (fun y=>decide (y.2=.local->scope.names.lookup y.1=some .local)) &&
 scope.names.all (fun y=>decide (y.2=.free->(osc.names.lookup y.1=some .cell∨osc.names.lookup y.1=some .free)))&&decide (N.length=k+caps.length) &&
 (List.range caps.length).all fun j=>match caps[j]?,N[k+j]? with
  | some i,some x=>decide (ON[i]?=some x)&&decide (scope.names.lookup x=some .free)
  | _,_=>false
theorem gC {X:Cx} (h:F2 osc ON N k caps scope=true) (ho:X.env.scope=osc) (hN:X.N=ON):BlkScope X N k caps scope:=by
 unfold F2 at h;simp only[Qe,decide_eq_true_eq,Qf]at h;obtain⟨⟨⟨⟨⟨h1,h2⟩,h3⟩,h4⟩,h5⟩,h6⟩:=h;refine⟨h1,h2,h3,fun y hy hf=>?_,h5,fun j i hj=>?_⟩
 ·show X.env.scope.names.lookup y.1=_∨X.env.scope.names.lookup y.1=_;rw[ho];exact h4 y hy hf
 ·have hlt:j<caps.length:=(Xd.mp hj).1;have q:=h6 j (Yj.mpr hlt);rw[hj]at q;cases e:N[k+j]? with
  | none=>rw[e]at q;cases q
  | some x =>
   rw[e]at q;have q':(decide (ON[i]?=some x)&&decide (scope.names.lookup x=some .free))=true:=q;simp only[Qe,decide_eq_true_eq]at q';exact⟨x,rfl,by rw[hN];exact q'.1,q'.2⟩
theorem bS (h:H p=none) (o:HO):Same H (upd H p o):=fun b u q=>by rw[ax (bw q h)];exact q
theorem fF {xs:List α} {i:Int} (h0:0<=i) (h1:i<xs.length):∃v,mf xs i=some v/\v∈xs/\xs[i.toNat]?=some v:=by
 have hk:i.toNat<xs.length:=by lia
 have ek:i=((i.toNat:Nat):Int):=by lia
 refine⟨xs[i.toNat],?_,AM hk,Qa hk⟩;have q:mf xs ((i.toNat:Nat):Int)=some xs[i.toNat]:=rN (Qa hk);rw[← ek]at q;exact q
end L2
namespace L2
open PySem PySem.Spec PyProof.Rows
section
variable {X:Cx}
theorem qp:Jn X "str.startswith" (fun x vs H Q=>∃(a b:Str),x=.str a/\vs=[.str b]/\Q (.bl (Txt.startswith a b)) H):=by
 intro pins s σ H x vs v us Q I rx rv h;obtain⟨a,b,rfl,rfl,q⟩:=h;obtain⟨t,rfl⟩:=rx;obtain⟨u,rfl,ru⟩:=vals1 rv;obtain⟨t',rfl⟩:=ru;exact SC.startswith ⟨.bl _,H,I,rfl,q⟩
theorem mulOk_of {x:Str} {n:Int} (h0:0<=n) (hn:n<=1000) (hx:x.length<=1000):MulOk x n:=by
 have hx':(x.length:Int)<=1000:=by lia
 have hm:(x.length:Int)*n<=1000*1000:=Int.mul_le_mul hx' hn h0 (by decide)
 have hm2:x.length*n.toNat<=1000*1000:=Nat.mul_le_mul hx (by lia)
 refine⟨?_,fun h1 _=>?_,fun h1 h2=>?_⟩
 ·rw[Ag (by lia),Ag (by lia)];rfl
 ·have:(x.length:Int)<=(2 ^ 63-1) / n:=(Int.le_ediv_iff_mul_le (by lia)).mpr (Int.le_trans hm (by decide))
  lia
 ·unfold Builtin.Str.tooLong;have:=yk (Wb 1000);exact Ag (by rw[Bl];lia)
theorem vx:OpR X (binaryOp .Mult) (fun x y H Q=>∃(a:Str) (n:Int),x=.str a/\y=.int n/\MulOk a n/\Q (.str (Txt.mul a n)) H):=by
 intro pins s σ H x y v u Q I rx ry h;obtain⟨a,n,rfl,rfl,hok,q⟩:=h;obtain⟨t,rfl⟩:=rx;obtain⟨t',rfl⟩:=ry;exact bW (SB.mul hok fun t2 k hle=>⟨.str _,H,I.tok k (I.tkl' hle),⟨t2,rfl⟩,q⟩)
theorem Hy (hu:X.A.units<cLine):OpR X (compareOp .NotEq) (fun x y H Q=>∃(a b:Addr) (xs:List V),x=.ref a/\y=.ref b/\i5 X.K H a xs/\i5 X.K H b []/\Q (.bl (!xs.isEmpty)) H):=by
 intro pins s σ H x y v u Q I rx ry h;obtain⟨a,b,xs,rfl,rfl,ha,hb,q⟩:=h;cases rx;cases ry;obtain⟨its,r,pl,_⟩:=I.list ha;obtain⟨its2,r2,pl2,_⟩:=I.list hb;cases r2;cases xs with
 | nil =>
  cases r;exact SeqAt.RcNeAt.lists (e:=fun _=>true) pl.isList pl2.isList rfl hu (fun j h1 _=>absurd h1 (by simp)) _ _ _ _ ⟨.bl _,H,I,rfl,q⟩
 | cons x1 xr =>
  cases r;exact BQ pl.isList pl2.isList (by simp) hu _ _ _ _ ⟨.bl _,H,I,rfl,q⟩
end
theorem oA {X:Cx} {K:PySem.W.Frag} (h:X.K=K):IxR X (LC K):=h ▸ Hk
structure FunD (K:PySem.W.Frag) (x qual:Str) (st:Stmt) (ds:List Value) (f:Addr) (fd:FuncData):Prop where
 ex:∃(oc:Value) (od:Option Addr) (T:Addr) (oT:Obj) (nT:Nat) (kV doc pm:Value) (an:Option Addr) (cdv ct:Value) (osl:Array (Option Value)),
  fd=PySem.W.fnOf x qual (fD st) (cO st) (ar st) (.ref T) kV doc pm an cdv ct/\K.lookup f=some ⟨oc,od,.func fd,osl⟩/\PySem.W.codeIn K cdv qual=true/\K.lookup T=some oT/\oT.data=.seq ds.toArray nT
 kp:PySem.W.keepIn K (.ref f)=true
structure CalD (P:Program) (w:World) (K:PySem.W.Frag) (mg:Str->Option Value) (base:Heap) (x:Str) (k:Nat) (ps:List Str) (dvs:List V) (sp:Sp):Prop where
 ex:∃f fd ds,FnOk P w K mg base ql k f fd ps sp/\mg x=some (.ref f)/\PySem.W.keepIn K (.ref f)=true/\Binds K fd ps ds/\Vals dvs ds
def F3 (sp:Sp) (dvs:List V) (t:TA):TE:=fun σ H Q=>t σ H fun vs H1=>sp (vs++dvs) H1 Q E0
section
variable {P:Program} {w:World} {K:PySem.W.Frag} {mg:Str->Option Value} {base:Heap}
theorem FunD.ok {x qual:Str} {st:Stmt} {ds:List Value} {f:Addr} {fd:FuncData} {N ps:List Str} {k:Nat} {sp:Sp} (F:FunD K x qual st ds f fd) (S:FnScope N ps (ar st)) (len:∀vs H Q E,sp vs H Q E->vs.length=ps.length)
  (hbody:∀(cdv:Value) (A:Around) (outer:List Env) (s:Shared) (H:Hp) (vs:List V) (Q:VK) (E:XK),Room k (A.deeper (envOfC qual (ar st) s.heap.objs.size f cdv))->sp vs H Q E ->
   ∃t,PSs (dP ql P w K mg base N qual (ar st) f cdv A outer s H E).nox (cO st) t/\t { nx:=fun _ H'=>Q .non H',rt:=Q } (start N vs) H):FnOk P w K mg base ql (k+1) f fd ps sp:=by
 obtain⟨oc,od,T,oT,nT,kV,doc,pm,an,cdv,ct,osl,rfl,lk,hcd,_,_⟩:=F.ex;refine zv lk hcd S len fun A outer s H vs Q E hr hsp=>?_;obtain⟨t,h,q⟩:=hbody cdv A outer s H vs Q E hr hsp;exact⟨t,h.nox,q⟩
theorem FunD.binds {x qual:Str} {st:Stmt} {ds:List Value} {f:Addr} {fd:FuncData} {ps:List Str} (F:FunD K x qual st ds f fd)
  (h:∀(T:Addr) (kV doc pm:Value) (an:Option Addr) (cdv ct:Value) (us:List Value),(us++ds).length=ps.length ->
   ∃k:Option (Array Value)->Sem (List (Str×Value)),bindArgs (PySem.W.fnOf x qual (fD st) (cO st) (ar st) (.ref T) kV doc pm an cdv ct) ⟨us,[]⟩=seqItems? (.ref T) >>= k/\k (some ds.toArray)=pure (ps.zip (us++ds))):Binds K fd ps ds:=by
 obtain⟨oc,od,T,oT,nT,kV,doc,pm,an,cdv,ct,osl,rfl,lk,hcd,hT,hS⟩:=F.ex;intro s us hK hl;obtain⟨k,h1,h2⟩:=h T kV doc pm an cdv ct us hl;exact BindsTo.of_defaults (T:=T) rfl (hK T oT hT) hS h1 h2
end
theorem DP {X:Cx} {x:Str} {k k':Nat} {ps:List Str} {dvs:List V} {sp:Sp} {e:Expr} {es:List Expr} {t:TA} {p pos:Pos} (C:CalD X.prog X.w X.K X.mg X.base x k ps dvs sp) (hr:Room k' X.A) (hg:Gl X x) (ha:PA X (e::es) t) (hk:k<=k':=by decide)
  (hdb:(x == ("__debug__":Str))=false:=by decide) (he:starEach (e::es) X.env=(false,eval e X.env)::starEach es X.env:=by rfl) (hpl:(backTo pos (starEach es X.env)).any (·.1)=false:=by rfl) :
  PE X (.Call (.Name x p) (e::es) [] pos) (F3 sp dvs t):=by
 obtain⟨f,fd,ds,F,hm,hkp,hb,hv⟩:=C.ex;intro pins s σ H Q I h;exact wG F (hr.mono hk) hg hm hkp hb hv FW ha hdb he hpl pins s σ H Q I h
theorem t9 {α:Type} [DecidableEq α]:∀(l m:List α),l.Nodup->(∀x∈l,x∈m)->l.length<=m.length
 | [],_,_,_=>Qk _
 | a::l,m,h,hs=>by
  have hm:a∈m:=hs a Va;have h1:=Zj.mp h;have ih:=t9 l (m.erase a) h1.2 fun x hx=>by
   have hne:x≠a:=fun e=>h1.1 (e ▸ hx);exact(List.mem_erase_of_ne hne).mpr (hs x (Yb _ hx))
  have hl:=List.length_erase_of_mem hm;have hp:0<m.length:=List.length_pos_of_mem hm;rw[Vd];lia
end L2
namespace VX
open PySem
def yφ (C e:Addr) (dx:Option Addr) (T:Addr):Heap->Prop:=fun h=>∃vs sl,h.get? e=some ⟨.ref C,dx,.fields vs,sl⟩/\vs[1]?=some (.ref T)
def tφ (T:Addr) (fl:Value):Heap->Prop:=fun h=>∃o ts,h.get? T=some o/\o.data=.fields ts/\ts[3]?=some fl
end VX
namespace VF
open PySem L2
abbrev AS:=Addr->Prop
theorem cZ {α β γ:Type} {o:Option (α×β)} {f:α×β->Option γ} {z:γ} {P:Prop} (h:o.bind f=some z) (k:∀a b,o=some (a,b)->f (a,b)=some z->P):P:=by
 obtain⟨⟨a,b⟩,e,h⟩:=Option.bind_eq_some_iff.mp h;exact k a b e h
theorem b9 {α γ:Type} {o:Option α} {f:α->Option γ} {z:γ} {P:Prop} (h:o.bind f=some z) (k:∀a,o=some a->f a=some z->P):P:=by
 obtain⟨a,e,h⟩:=Option.bind_eq_some_iff.mp h;exact k a e h
theorem bo {i:Decidable c} (h:(if c then x else none)=some z):c/\x=some z:=by simp_all
abbrev U (O Z:AS):AS:=fun p=>O p∨Z p
abbrev ins (p:Addr) (O:AS):AS:=fun b=>b=p∨O b
inductive D where
 | non|bl (b:Bool)|int (i:Int)|str (x:Str)|tup (ds:List D)|lst (ds:List D)|fl (ds:List D)|ty (n:String)|dk (kvs:List (Key×D))|dt (kvs:List (List Key×D))|xc (c n:Str) (x:Option Str)
def oV:Option Str->V
 | none=>.non
 | some x=>.str x
def Fd (Y:AS) (H:Hp) (dx:Option Addr) (n:Str) (v:V):Prop:=(n=""/\dx=none)∨∃d,dx=some d/\¬ Y d/\H d=some (.xd [(n,v)])
def XO (K:PySem.W.Frag) (Y:AS) (H:Hp) (a:Addr) (c n:Str) (x:Option Str):Prop:=∃C dx T,PySem.W.nsIn K mainGlobals c=some (some (.ref C))/\T≠a/\(¬ Y a/\¬ Y T)/\H a=some (.ext (VX.yφ C a dx T))/\Fd Y H dx n (oV x)/\H T=some (.ext (VX.tφ T .none))
theorem Fd.go (h:Fd Y H dx n v) (k:∀b o,H b=some o->¬ Y b->H' b=some o) (m:∀b,Y' b->Y b∨H b=none):Fd Y' H' dx n v:=by
 rcases h with h|⟨d,e,ny,h⟩
 ·exact .inl h
 ·refine .inr ⟨d,e,fun z=>?_,k _ _ h ny⟩;rcases m d z with w|w
  ·exact ny w
  ·rw[h]at w;cases w
theorem XO.go (h:XO K Y H a c n x) (k:∀b o,H b=some o->¬ Y b->H' b=some o) (m:∀b,Y' b->Y b∨H b=none):XO K Y' H' a c n x:=by
 obtain⟨C,dx,T,h1,h2,⟨q1,q3⟩,h4,h5,h6⟩:=h;refine⟨C,dx,T,h1,h2,⟨fun z=>?_,fun z=>?_⟩,k _ _ h4 q1,h5.go k m,k _ _ h6 q3⟩
 ·rcases m a z with w|w
  ·exact q1 w
  ·rw[h4]at w;cases w
 ·rcases m T z with w|w
  ·exact q3 w
  ·rw[h6]at w;cases w
def TupA (K:PySem.W.Frag) (Y:AS) (H:Hp) (a:Addr) (vs:List V):Prop:=H a=some (.tup vs)/\¬ Y a
def LstA (K:PySem.W.Frag) (Y:AS) (H:Hp) (a:Addr) (vs:List V):Prop:=(Rd H a (.lst vs)/\¬ Y a)∨∀H',i5 K H' a vs
theorem TupA.sq (h:TupA K Y H a vs):mV K H a vs:=.inl (.inl h.1)
theorem LstA.sq (h:LstA K Y H a vs):i5 K H a vs:=by
 rcases h with h|h
 ·exact .inl h.1
 ·exact h H
def KA (Y:AS) (H:Hp) (as:List Addr):Prop:=∀b∈as,¬ Y b/\H b≠none
theorem KA.go (h:KA Y H as) (k:∀b o,H b=some o->¬ Y b->H' b=some o) (n:∀b,Y' b->Y b∨H b=none):KA Y' H' as:=fun b hb=>by
 obtain⟨h1,h2⟩:=h b hb;refine⟨fun z=>(n b z).elim h1 h2,?_⟩;cases e:H b with
 | none=>exact absurd e h2
 | some o=>rw[k b o e h1];simp
theorem KA.less (h:KA Y H as) (n:∀b,Y' b->Y b):KA Y' H as:=fun b hb=>⟨fun z=>(h b hb).1 (n b z),(h b hb).2⟩
inductive DA (K:PySem.W.Frag) (Y:AS) (H:Hp):V->D->Prop where
 | non:DA K Y H .non .non
 | bl (b:Bool):DA K Y H (.bl b) (.bl b)
 | int (i:Int):DA K Y H (.int i) (.int i)
 | str (x:Str):DA K Y H (.str x) (.str x)
 | tup {a:Addr} {vs:List V} {ds:List D}:TupA K Y H a vs->vs.length=ds.length->(∀(i:Nat) v d,vs[i]?=some v->ds[i]?=some d->DA K Y H v d)->DA K Y H (.ref a) (.tup ds)
 | ty (n:String):DA K Y H (.ty n) (.ty n)
 | lst {a:Addr} {vs:List V} {ds:List D}:¬ Y a->H a=some (.lst vs)->vs.length=ds.length->(∀(i:Nat) v d,vs[i]?=some v->ds[i]?=some d->DA K Y H v d)->DA K Y H (.ref a) (.lst ds)
 | fl {a:Addr} {vs:List V} {ds:List D}:LstA K Y H a vs->vs.length=ds.length->(∀(i:Nat) v d,vs[i]?=some v->ds[i]?=some d->DA K Y H v d)->DA K Y H (.ref a) (.fl ds)
 | dk {a:Addr} {kvs:List (Key×V)} {ds:List (Key×D)}:¬ Y a->H a=some (.dK kvs)->kvs.map (·.1)=ds.map (·.1)->(∀(i:Nat) v d,kvs[i]?=some v->ds[i]?=some d->DA K Y H v.2 d.2)->DA K Y H (.ref a) (.dk ds)
 | dt {a:Addr} {ep:Nat×List Addr} {kvs:List (List Key×V)} {ds:List (List Key×D)}:¬ Y a->KA Y H ep.2->H a=some (.dT ep kvs)->kvs.map (·.1)=ds.map (·.1)->(∀(i:Nat) v d,kvs[i]?=some v->ds[i]?=some d->DA K Y H v.2 d.2)->DA K Y H (.ref a) (.dt ds)
 | xc {a:Addr} {c n:Str} {x:Option Str}:XO K Y H a c n x->DA K Y H (.ref a) (.xc c n x)
def El (K:PySem.W.Frag) (Y:AS) (H:Hp) (vs:List V) (ds:List D):Prop:=vs.length=ds.length/\∀(i:Nat) v d,vs[i]?=some v->ds[i]?=some d->DA K Y H v d
def Lv (H:Hp) (p:Addr):Prop:=H p≠none/\∀vs,H p≠some (.tup vs)
theorem Lv.same (h:Lv H p) (s:∀o,H p=some o->H' p=some o):Lv H' p:=by
 cases e:H p with
 | none=>exact absurd e h.1
 | some o =>
  refine⟨by rw[s o e];simp,fun vs z=>h.2 vs ?_⟩
  rw[s o e]at z;rw[e];exact z
structure Ext (O:AS) (H:Hp) (O':AS) (H':Hp):Prop where
 kp:∀b o,H b=some o->¬ O b->H' b=some o
 nw:∀b,O' b->O b∨H b=none
 al:∀b,H b≠none->H' b≠none
 lv:∀b,Lv H b->Lv H' b
section
variable {K:PySem.W.Frag} {Y Y' O O' O1 O2 Z:AS} {H H' H1 H2:Hp} {v:V} {d:D} {vs:List V} {ds:List D} {a p:Addr}
theorem Ext.refl (O:AS) (H:Hp):Ext O H O H:=⟨fun _ _ h _=>h,fun _ h=>.inl h,fun _ h=>h,fun _ h=>h⟩
theorem Ext.trans (a:Ext O H O1 H1) (b:Ext O1 H1 O2 H2):Ext O H O2 H2:=by
 refine⟨fun c o h n=>b.kp c o (a.kp c o h n) fun z=>?_,fun c h=>?_,fun c h=>b.al c (a.al c h),fun c h=>b.lv c (a.lv c h)⟩
 ·rcases a.nw c z with q|q
  ·exact n q
  ·rw[h]at q;cases q
 ·rcases b.nw c h with q|q
  ·exact a.nw c q
  ·right;cases e:H c with
   | none=>rfl
   | some o=>exact absurd q (a.al c (by rw[e];simp))
theorem Same.ext (h:Same H H'):Ext O H O H':=⟨fun b o e _=>h b o e,fun _ z=>.inl z,fun b z=>by
 cases e:H b with
 | none=>exact absurd e z
 | some o=>rw[h b o e];simp,fun b z=>z.same fun o e=>h b o e⟩
theorem Rd.keep (r:Rd H a u) (k:∀o,H a=some o->H' a=some o):Rd H' a u:=by
 rcases r with r|⟨o,r⟩
 ·exact .inl (k _ r)
 ·exact .inr ⟨o,k _ r⟩
theorem Rd.live (r:Rd H a u):H a≠none:=by
 rcases r with r|⟨o,r⟩<;>(rw[r];simp)
theorem TupA.go (h:TupA K Y H a vs) (k:∀b o,H b=some o->¬ Y b->H' b=some o) (n:∀b,Y' b->Y b∨H b=none):TupA K Y' H' a vs:=by grind [TupA]
theorem LstA.go (h:LstA K Y H a vs) (k:∀b o,H b=some o->¬ Y b->H' b=some o) (n:∀b,Y' b->Y b∨H b=none):LstA K Y' H' a vs:=by
 rcases h with⟨h1,h2⟩|h
 ·refine .inl ⟨Rd.keep h1 fun o e=>k a o e h2,fun z=>?_⟩;rcases n a z with q|q
  ·exact h2 q
  ·exact Rd.live h1 q
 ·exact .inr h
theorem DA.go (h:DA K Y H v d) (k:∀b o,H b=some o->¬ Y b->H' b=some o) (n:∀b,Y' b->Y b∨H b=none):DA K Y' H' v d:=by
 have no:∀a u,H a=some u->¬ Y a->¬ Y' a:=fun a u e ny z=>by
  rcases n a z with q|q
  ·exact ny q
  ·rw[e]at q;cases q
 induction h with
 | non=>exact .non
 | bl b=>exact .bl b
 | int i=>exact .int i
 | str x=>exact .str x
 | tup h1 h2 _ ih=>exact .tup (h1.go k n) h2 ih
 | ty n=>exact .ty n
 | lst h0 h1 h2 _ ih=>exact .lst (no _ _ h1 h0) (k _ _ h1 h0) h2 ih
 | fl h1 h2 _ ih=>exact .fl (h1.go k n) h2 ih
 | dk h0 h1 h2 _ ih=>exact .dk (no _ _ h1 h0) (k _ _ h1 h0) h2 ih
 | dt h0 ka h1 h2 _ ih=>exact .dt (no _ _ h1 h0) (ka.go k n) (k _ _ h1 h0) h2 ih
 | xc h=>exact .xc (h.go k n)
theorem DA.ext (h:DA K (U O Z) H v d) (e:Ext O H O' H'):DA K (U O' Z) H' v d :=
 h.go (fun b o q n=>e.kp b o q fun z=>n (.inl z)) fun b z=>z.elim (fun q=>(e.nw b q).elim (fun x=>.inl (.inl x)) .inr) fun q=>.inl (.inr q)
theorem DA.less (h:DA K Y H v d) (n:∀b,Y' b->Y b):DA K Y' H v d:=h.go (fun _ _ e _=>e) fun b z=>.inl (n b z)
theorem DA.same (h:DA K Y H v d) (s:Same H H'):DA K Y H' v d:=h.go (fun b o e _=>s b o e) fun _ z=>.inl z
theorem DA.away (h:DA K Y H v d) (s:Same H H') (hp:H p=none):DA K (ins p Y) H' v d:=h.go (fun b o e _=>s b o e) fun b z=>z.elim (fun q=>.inr (q ▸ hp)) .inl
theorem El.go (h:El K Y H vs ds) (k:∀b o,H b=some o->¬ Y b->H' b=some o) (n:∀b,Y' b->Y b∨H b=none):El K Y' H' vs ds:=⟨h.1,fun i v d a b=>(h.2 i v d a b).go k n⟩
theorem El.ext (h:El K (U O Z) H vs ds) (e:Ext O H O' H'):El K (U O' Z) H' vs ds:=⟨h.1,fun i v d a b=>(h.2 i v d a b).ext e⟩
theorem El.less (h:El K Y H vs ds) (n:∀b,Y' b->Y b):El K Y' H vs ds:=⟨h.1,fun i v d a b=>(h.2 i v d a b).less n⟩
theorem El.same (h:El K Y H vs ds) (s:Same H H'):El K Y H' vs ds:=⟨h.1,fun i v d a b=>(h.2 i v d a b).same s⟩
theorem El.away (h:El K Y H vs ds) (s:Same H H') (hp:H p=none):El K (ins p Y) H' vs ds:=⟨h.1,fun i v d a b=>(h.2 i v d a b).away s hp⟩
theorem El.nil:El K Y H [] []:=⟨rfl,fun i v d h=>by simp at h⟩
theorem El.cons (h:DA K Y H v d) (r:El K Y H vs ds):El K Y H (v::vs) (d::ds):=by grind [El]
theorem El.uncons (h:El K Y H vs (d::ds)):∃v r,vs=v::r/\DA K Y H v d/\El K Y H r ds:=by
 cases vs with
 | nil=>have:=h.1;simp at this
 | cons v r =>
  refine⟨v,r,rfl,h.2 0 v d rfl rfl,?_,fun i v' d' h1 h2=>h.2 (i+1) v' d' (by simpa using h1) (by simpa using h2)⟩
  have:=h.1;simpa using this
theorem El.unnil (h:El K Y H vs []):vs=[]:=by
 have:=h.1;simpa using this
theorem El.app (h:El K Y H vs ds) (r:El K Y H ws es):El K Y H (vs++ws) (ds++es):=by grind [El]
theorem El.at (h:El K Y H vs ds) {i:Nat} {d:D} (e:ds[i]?=some d):∃v,vs[i]?=some v/\DA K Y H v d:=by
 have hi:i<ds.length:=(Xd.mp e).1;have hv:i<vs.length:=by rw[h.1];exact hi
 exact⟨vs[i],Qa hv,h.2 i _ d (Qa hv) e⟩
theorem El.one (h:DA K Y H v d):El K Y H [v] [d]:=El.cons h El.nil
theorem El.take (h:El K Y H vs ds) (n:Nat):El K Y H (vs.take n) (ds.take n):=by grind [El]
theorem El.drop (h:El K Y H vs ds) (n:Nat):El K Y H (vs.drop n) (ds.drop n):=by
 refine⟨by simp[h.1],fun i v d h1 h2=>?_⟩
 rw[Yf]at h1 h2;exact h.2 _ v d h1 h2
theorem El.set (h:El K Y H vs ds) (hv:DA K Y H v d) (j:Nat):El K Y H (vs.set j v) (ds.set j d):=by grind [El]
theorem El.erase (h:El K Y H vs ds) (j:Nat):El K Y H (vs.eraseIdx j) (ds.eraseIdx j):=by grind [El]
def OA (K:PySem.W.Frag) (Y:AS) (H:Hp) (p:Addr):D->Prop
 | .lst ds=>∃vs,H p=some (.lst vs)/\El K Y H vs ds
 | .dk ds=>∃kvs,H p=some (.dK kvs)/\kvs.map (·.1)=ds.map (·.1)/\∀(i:Nat) v d,kvs[i]?=some v->ds[i]?=some d->DA K Y H v.2 d.2
 | .dt ds=>∃ep kvs,KA Y H ep.2/\H p=some (.dT ep kvs)/\kvs.map (·.1)=ds.map (·.1)/\∀(i:Nat) v d,kvs[i]?=some v->ds[i]?=some d->DA K Y H v.2 d.2
 | _=>False
theorem OA.live (h:OA K Y H p d):H p≠none:=by
 cases d with
 | lst ds=>obtain⟨vs,e,_⟩:=h;rw[e];simp
 | dk ds=>obtain⟨vs,e,_⟩:=h;rw[e];simp
 | dt ds=>obtain⟨_,vs,_,e,_⟩:=h;rw[e];simp
 | _=>exact h.elim
theorem OA.lv (h:OA K Y H p d):Lv H p:=by
 cases d with
 | lst ds=>obtain⟨vs,e,_⟩:=h;exact⟨by rw[e];simp,fun _ z=>by rw[e]at z;cases z⟩
 | dk ds=>obtain⟨vs,e,_⟩:=h;exact⟨by rw[e];simp,fun _ z=>by rw[e]at z;cases z⟩
 | dt ds=>obtain⟨_,vs,_,e,_⟩:=h;exact⟨by rw[e];simp,fun _ z=>by rw[e]at z;cases z⟩
 | _=>exact h.elim
theorem OA.go (h:OA K Y H p d) (hp:H' p=H p) (k:∀b o,H b=some o->¬ Y b->H' b=some o) (n:∀b,Y' b->Y b∨H b=none):OA K Y' H' p d:=by
 cases d with
 | lst ds=>obtain⟨vs,e,q⟩:=h;exact⟨vs,hp.trans e,q.go k n⟩
 | dk ds=>obtain⟨vs,e,q1,q2⟩:=h;exact⟨vs,hp.trans e,q1,fun i v d a b=>(q2 i v d a b).go k n⟩
 | dt ds=>obtain⟨ep,vs,ka,e,q1,q2⟩:=h;exact⟨ep,vs,ka.go k n,hp.trans e,q1,fun i v d a b=>(q2 i v d a b).go k n⟩
 | _=>exact h.elim
theorem OA.da (h:OA K Y H p d) (hp:¬ Y' p) (n:∀b,Y' b->Y b):DA K Y' H (.ref p) d:=by
 cases d with
 | lst ds=>obtain⟨vs,e,q⟩:=h;exact .lst hp e q.1 (q.less n).2
 | dk ds=>obtain⟨vs,e,q1,q2⟩:=h;exact .dk hp e q1 fun i v d a b=>(q2 i v d a b).less n
 | dt ds=>obtain⟨ep,vs,ka,e,q1,q2⟩:=h;exact .dt hp (ka.less n) e q1 fun i v d a b=>(q2 i v d a b).less n
 | _=>exact h.elim
def BA (K:PySem.W.Frag) (Y:AS) (H:Hp) (v:V):D->Prop
 | .non=>v=.non
 | .bl b=>v=.bl b
 | .int i=>v=.int i
 | .str x=>v=.str x
 | .tup ds=>∃a vs,v=.ref a/\TupA K Y H a vs/\El K Y H vs ds
 | .ty n=>v=.ty n
 | .lst ds=>∃a vs,v=.ref a/\H a=some (.lst vs)/\El K Y H vs ds
 | .fl ds=>∃a vs,v=.ref a/\LstA K Y H a vs/\El K Y H vs ds
 | .dk ds=>∃a kvs,v=.ref a/\H a=some (.dK kvs)/\kvs.map (·.1)=ds.map (·.1)/\∀(i:Nat) v d,kvs[i]?=some v->ds[i]?=some d->DA K Y H v.2 d.2
 | .dt ds=>∃a ep kvs,v=.ref a/\KA Y H ep.2/\H a=some (.dT ep kvs)/\kvs.map (·.1)=ds.map (·.1)/\∀(i:Nat) v d,kvs[i]?=some v->ds[i]?=some d->DA K Y H v.2 d.2
 | .xc c n x=>∃a,v=.ref a/\XO K Y H a c n x
theorem DA.ba (h:DA K Y H v d):BA K Y H v d:=by
 cases h with
 | non=>rfl
 | bl b=>rfl
 | int i=>rfl
 | str x=>rfl
 | tup h1 h2 h3=>exact⟨_,_,rfl,h1,h2,h3⟩
 | ty n=>rfl
 | lst h0 h1 h2 h3=>exact⟨_,_,rfl,h1,h2,h3⟩
 | fl h1 h2 h3=>exact⟨_,_,rfl,h1,h2,h3⟩
 | dk h0 h1 h2 h3=>exact⟨_,_,rfl,h1,h2,h3⟩
 | dt h0 ka h1 h2 h3=>exact⟨_,_,_,rfl,ka,h1,h2,h3⟩
 | xc h=>exact⟨_,rfl,h⟩
theorem OA.ba (h:OA K Y H p d):BA K Y H (.ref p) d:=by
 cases d with
 | lst ds=>obtain⟨vs,e,q⟩:=h;exact⟨p,vs,rfl,e,q⟩
 | dk ds=>obtain⟨vs,e,q1,q2⟩:=h;exact⟨p,vs,rfl,e,q1,q2⟩
 | dt ds=>obtain⟨ep,vs,ka,e,q1,q2⟩:=h;exact⟨p,ep,vs,rfl,ka,e,q1,q2⟩
 | _=>exact h.elim
end
end VF
namespace VF
open PySem L2
inductive Sl where
 | e|v (d:D)|o (d:D)|io (d:D)
abbrev En:=List Sl
def Sl.get:Sl->Option D
 | .e=>none
 | .v d=>some d
 | .o d=>some d
 | .io d=>some d
def Sl.ow:Sl->Option D
 | .o d=>some d
 | .io d=>some d
 | _=>none
def Sl.put (y:D):Sl->Sl
 | .io _=>.io y
 | _=>.o y
theorem Sl.put_ow (y:D) (s:Sl):(s.put y).ow=some y:=by cases s<;>rfl
theorem Sl.put_v (y z:D) (s:Sl):s.put y≠.v z:=by cases s<;>(intro e;cases e)
inductive Rs where
 | d (x:D)|f (x:D)|s (i:Nat)
structure ER (K:PySem.W.Frag) (st:En) (σ:St) (H:Hp) (O Z:AS):Prop where
 len:st.length=σ.length
 val:∀(i:Nat) d,st[i]?=some (.v d)->∃v,σ[i]?=some (some v)/\DA K (U O Z) H v d
 own:∀(i:Nat) s d,st[i]?=some s->s.ow=some d->∃p,σ[i]?=some (some (.ref p))/\O p/\OA K (U O Z) H p d
 uni:∀(i j:Nat) s t d d' p,st[i]?=some s->s.ow=some d->st[j]?=some t->t.ow=some d'->σ[i]?=some (some (.ref p))->σ[j]?=some (some (.ref p))->i=j
 dis:∀p,O p->¬ Z p
 liv:∀p,U O Z p->Lv H p
structure Kp (st st':En):Prop where
 len:st'.length=st.length
 has:∀(i:Nat) s,st[i]?=some s->s.get≠none->∃s',st'[i]?=some s'/\s'.get≠none
 io:∀(i:Nat) d,st[i]?=some (.io d)->∃d',st'[i]?=some (.io d')
theorem Kp.refl (st:En):Kp st st:=⟨rfl,fun i s h g=>⟨s,h,g⟩,fun i d h=>⟨d,h⟩⟩
theorem Kp.trans (x:Kp a b) (y:Kp b c):Kp a c:=by
 refine⟨y.len.trans x.len,fun i s h g=>?_,fun i d h=>?_⟩
 ·obtain⟨s',h',g'⟩:=x.has i s h g;exact y.has i s' h' g'
 ·obtain⟨d',h'⟩:=x.io i d h;exact y.io i d' h'
def RVal (K:PySem.W.Frag) (Z:AS) (st:En) (σ:St) (H:Hp) (O:AS) (v:V):Rs->Prop
 | .d x=>DA K (U O Z) H v x
 | .f x=>∃p,v=.ref p/\¬ O p/\¬ Z p/\OA K (ins p (U O Z)) H p x/\ER K st σ H (ins p O) Z
 | .s i=>σ[i]?=some (some v)/\∃s,st[i]?=some s/\s.get≠none
def cont (st:En):Rs->Option D
 | .d x=>some x
 | .f x=>some x
 | .s i=>(st[i]?).bind Sl.get
def Rs.nf:Rs->Rs
 | .f x=>.d x
 | r=>r
section
variable {K:PySem.W.Frag} {Y Y' O O' O1 O2 Z:AS} {H H' H1 H2:Hp} {v:V} {d:D} {vs:List V} {ds:List D} {a p:Addr} {st st' st1 st2:En} {σ σ':St}
theorem ip (st:En) (r:Rs):cont st r.nf=cont st r:=by cases r<;>rfl
theorem RVal.nf {r:Rs} (h:RVal K Z st σ H O v r):RVal K Z st σ H O v r.nf:=by
 cases r with
 | d x=>exact h
 | s i=>exact h
 | f x =>
  obtain⟨p,rfl,h1,h2,h3,_⟩:=h;exact h3.da (fun z=>z.elim h1 h2) fun b z=>.inr z
theorem RVal.ba (h:RVal K Z st σ H O v r) (E:ER K st σ H O Z) (c:cont st r=some d):BA K (U O Z) H v d:=by
 cases r with
 | d x=>cases c;exact DA.ba h
 | f x =>
  cases c;have:=RVal.nf h;exact DA.ba (show DA K (U O Z) H v _ from this)
 | s i =>
  obtain⟨h1,s,h2,h3⟩:=h;have c':(st[i]?).bind Sl.get=some d:=c;rw[h2]at c';cases s with
  | e=>cases c'
  | v x =>
   cases c';obtain⟨u,g1,g2⟩:=E.val i _ h2;rw[h1]at g1;cases g1;exact g2.ba
  | o x =>
   cases c';obtain⟨p,g1,g2,g3⟩:=E.own i _ _ h2 rfl;rw[h1]at g1;cases g1;exact g3.ba
  | io x =>
   cases c';obtain⟨p,g1,g2,g3⟩:=E.own i _ _ h2 rfl;rw[h1]at g1;cases g1;exact g3.ba
theorem RVal.ext {r:Rs} (h:RVal K Z st σ H O v r.nf) (e:Ext O H O' H') (k:Kp st st'):RVal K Z st' σ H' O' v r.nf:=by
 cases r with
 | d x=>exact DA.ext (show DA K (U O Z) H v x from h) e
 | f x=>exact DA.ext (show DA K (U O Z) H v x from h) e
 | s i =>
  obtain⟨h1,s,h2,h3⟩:=h;exact⟨h1,k.has i s h2 h3⟩
theorem ER.same (E:ER K st σ H O Z) (s:Same H H'):ER K st σ H' O Z:=by
 refine⟨E.len,fun i d h=>?_,fun i s' d h1 h2=>?_,E.uni,E.dis,fun p hp=>?_⟩
 ·obtain⟨v,h1,h2⟩:=E.val i d h;exact⟨v,h1,h2.same s⟩
 ·obtain⟨p,g1,g2,g3⟩:=E.own i s' d h1 h2;refine⟨p,g1,g2,g3.go ?_ (fun b o e _=>s b o e) fun b z=>.inl z⟩;cases e:H p with
  | none=>exact absurd e g3.live
  | some o=>exact s p o e
 ·exact(E.liv p hp).same fun o e=>s p o e
theorem ER.away (E:ER K st σ H O Z) (s:Same H H') (hp:H p=none) (hp':Lv H' p):ER K st σ H' (ins p O) Z:=by
 have sub:∀b,U (ins p O) Z b->ins p (U O Z) b:=fun b z=>by
  rcases z with(z|z)|z
  ·exact .inl z
  ·exact .inr (.inl z)
  ·exact .inr (.inr z)
 refine⟨E.len,fun i d h=>?_,fun i s' d h1 h2=>?_,E.uni,fun q hq=>?_,fun q hq=>?_⟩
 ·obtain⟨v,h1,h2⟩:=E.val i d h;exact⟨v,h1,(h2.away s hp).less sub⟩
 ·obtain⟨q,g1,g2,g3⟩:=E.own i s' d h1 h2;refine⟨q,g1,.inr g2,g3.go ?_ (fun b o e _=>s b o e) fun b z=>?_⟩
  ·cases e:H q with
   | none=>exact absurd e g3.live
   | some o=>exact s q o e
  ·rcases sub b z with z|z
   ·exact .inr (z ▸ hp)
   ·exact .inl z
 ·rcases hq with rfl|hq
  ·exact fun z=>(E.liv _ (.inr z)).1 hp
  ·exact E.dis q hq
 ·rcases hq with(rfl|hq)|hq
  ·exact hp'
  ·exact(E.same s).liv q (.inl hq)
  ·exact(E.same s).liv q (.inr hq)
theorem ER.free (E:ER K st σ H O Z) (hp:H p=none):¬ O p/\¬ Z p:=⟨fun z=>(E.liv p (.inl z)).1 hp,fun z=>(E.liv p (.inr z)).1 hp⟩
theorem ER.new (E:ER K st σ H O Z) (hp:H p=none) (el:El K (U O Z) H vs ds):ER K st σ (upd H p (.lst vs)) O Z/\RVal K Z st σ (upd H p (.lst vs)) O (.ref p) (.f (.lst ds)):=by
 have s:=bS hp (.lst vs);have hf:=E.free hp;refine⟨E.same s,p,rfl,hf.1,hf.2,⟨vs,aG,el.away s hp⟩,E.away s hp ⟨by rw[aG];simp,fun _ z=>by rw[aG]at z;cases z⟩⟩
theorem ER.newT (E:ER K st σ H O Z) (hp:H p=none) (el:El K (U O Z) H vs ds):ER K st σ (upd H p (.tup vs)) O Z/\RVal K Z st σ (upd H p (.tup vs)) O (.ref p) (.d (.tup ds)):=by
 have s:=bS hp (.tup vs);have hf:=E.free hp;exact⟨E.same s,.tup ⟨aG,fun z=>z.elim hf.1 hf.2⟩ el.1 (el.same s).2⟩
def yo (st:En) (i:Nat):Option En:=match st[i]? with
 | some (.v _)=>some st
 | some (.o d)=>some (st.set i (.v d))
 | _=>none
def zH (st:En):Rs->Option En
 | .s i=>yo st i
 | _=>some st
theorem aH {l:List α} (h:i≠j):(l.set i x)[j]?=l[j]?:=by rw[Zn,Ah h]
theorem bD {l:List α} (h:l[i]?=some y):(l.set i x)[i]?=some x:=by
 have hi:=(Xd.mp h).1;rw[Zn,Af rfl,Af hi]
theorem DQ (h:yo st i=some st'):Kp st st'/\∃d,st'[i]?=some (.v d)/\(st[i]?).bind Sl.get=some d:=by
 unfold yo at h;split at h
 ·rename_i d e
  cases h;exact⟨Kp.refl st,d,e,by rw[e];rfl⟩
 ·rename_i d e
  cases h;refine⟨⟨by simp,fun j s hj g=>?_,fun j d' hj=>?_⟩,d,bD e,by rw[e];rfl⟩
  ·by_cases q:i=j
   ·subst q;exact⟨.v d,bD e,by simp[Sl.get]⟩
   ·exact⟨s,by rw[aH q];exact hj,g⟩
  ·have q:i≠j:=fun z=>by subst z;rw[e]at hj;cases hj
   exact⟨d',by rw[aH q];exact hj⟩
 ·cases h
theorem ER.frz (E:ER K st σ H O Z) (h:yo st i=some st'):∃O',Ext O H O' H/\ER K st' σ H O' Z/\(∀b,O' b->O b):=by
 unfold yo at h;split at h
 ·cases h;exact⟨O,Ext.refl O H,E,fun _ z=>z⟩
 ·rename_i d e
  cases h;obtain⟨p,g1,g2,g3⟩:=E.own i _ _ e rfl;have less:∀b,U (fun b=>O b/\b≠p) Z b->U O Z b:=fun b z=>z.elim (fun q=>.inl q.1) .inr;refine⟨fun b=>O b/\b≠p,⟨fun b o q _=>q,fun b z=>.inl z.1,fun b z=>z,fun b z=>z⟩,⟨by simp[E.len],fun j x hj=>?_,fun j s x hj hs=>?_,fun j k s t x y q hj hs hk ht e1 e2=>?_,fun q hq=>E.dis q hq.1,fun q hq=>E.liv q (less q hq)⟩,fun b z=>z.1⟩
  ·by_cases q:i=j
   ·subst q;rw[bD e]at hj;cases hj;exact⟨.ref p,g1,g3.da (fun z=>z.elim (fun y=>y.2 rfl) (E.dis p g2)) less⟩
   ·rw[aH q]at hj;obtain⟨v,h1,h2⟩:=E.val j x hj;exact⟨v,h1,h2.less less⟩
  ·have q:i≠j:=fun z=>by
    subst z;rw[bD e]at hj;cases hj;cases hs
   rw[aH q]at hj;obtain⟨r,h1,h2,h3⟩:=E.own j s x hj hs;refine⟨r,h1,⟨h2,fun z=>q ?_⟩,h3.go rfl (fun _ _ e _=>e) fun b z=>.inl (less b z)⟩;subst z;exact E.uni i j _ _ _ _ r e rfl hj hs g1 h1
  ·have q1:i≠j:=fun z=>by
    subst z;rw[bD e]at hj;cases hj;cases hs
   have q2:i≠k:=fun z=>by
    subst z;rw[bD e]at hk;cases hk;cases ht
   rw[aH q1]at hj;rw[aH q2]at hk;exact E.uni j k s t x y q hj hs hk ht e1 e2
 ·cases h
theorem RVal.frz (h:RVal K Z st σ H O v r) (E:ER K st σ H O Z) (f:zH st r=some st') (c:cont st r=some d):∃O',Ext O H O' H/\Kp st st'/\ER K st' σ H O' Z/\DA K (U O' Z) H v d:=by
 cases r with
 | d x=>cases f;cases c;exact⟨O,Ext.refl O H,Kp.refl st,E,h⟩
 | f x=>cases f;cases c;exact⟨O,Ext.refl O H,Kp.refl st,E,RVal.nf h⟩
 | s i =>
  obtain⟨h1,s,h2,h3⟩:=h;have f':yo st i=some st':=f;obtain⟨k,x,k1,k2⟩:=DQ f';obtain⟨O',e1,e2,_⟩:=E.frz f';have c':(st[i]?).bind Sl.get=some d:=c;have ex:x=d:=Option.some.inj (k2.symm.trans c');subst ex;obtain⟨u,g1,g2⟩:=e2.val i _ k1;rw[h1]at g1;cases g1;exact⟨O',e1,k,e2,g2⟩
theorem ER.write {s:Sl} (E:ER K st σ H O Z) (hs:st[i]?=some s) (ho:s.ow=some x) (hp:σ[i]?=some (some (.ref p))) (new:OA K (U O Z) (upd H p o) p y) :
  ER K (st.set i (s.put y)) σ (upd H p o) O Z/\Ext O H O (upd H p o)/\Kp st (st.set i (s.put y)):=by
 obtain⟨q,g1,g2,g3⟩:=E.own i s x hs ho;have eq:q=p:=by rw[hp]at g1;cases g1;rfl
 subst eq;have keep:∀b u,H b=some u->¬ U O Z b->upd H q o b=some u:=fun b u e n=>by
  have hb:b≠q:=fun z=>n (.inl (by rw[z];exact g2))
  rw[ax hb];exact e
 refine⟨⟨by simp[E.len],fun j d hj=>?_,fun j t d hj ht=>?_,fun j k t t' d d' r hj ht hk ht' e1 e2=>?_,E.dis,fun r hr=>?_⟩,⟨fun b u e n=>?_,fun b z=>.inl z,fun b z=>?_,fun b z=>?_⟩,⟨by simp,fun j t hj ht=>?_,fun j d hj=>?_⟩⟩
 ·by_cases e:i=j
  ·subst e;rw[bD hs]at hj;exact absurd (Option.some.inj hj) (Sl.put_v _ _ _)
  ·rw[aH e]at hj;obtain⟨v,h1,h2⟩:=E.val j d hj;exact⟨v,h1,h2.go keep fun b z=>.inl z⟩
 ·by_cases e:i=j
  ·subst e;rw[bD hs]at hj;have:=Option.some.inj hj;subst this;rw[Sl.put_ow]at ht;cases ht;exact⟨q,hp,g2,new⟩
  ·rw[aH e]at hj;obtain⟨r,h1,h2,h3⟩:=E.own j t d hj ht;have hne:r≠q:=fun z=>by subst z;exact e (E.uni i j s t x d r hs ho hj ht hp h1)
   exact⟨r,h1,h2,h3.go (ax hne) keep fun b z=>.inl z⟩
 ·have own':∀(m:Nat) (t:Sl) (d:D),(st.set i (s.put y))[m]?=some t->t.ow=some d->∃t2 d2,st[m]?=some t2/\t2.ow=some d2:=fun m t d hm ht=>by
   by_cases e:i=m
   ·subst e;exact⟨s,x,hs,ho⟩
   ·rw[aH e]at hm;exact⟨t,d,hm,ht⟩
  obtain⟨t1,d1,a1,b1⟩:=own' j t d hj ht;obtain⟨t2,d2,a2,b2⟩:=own' k t' d' hk ht';exact E.uni j k t1 t2 d1 d2 r a1 b1 a2 b2 e1 e2
 ·by_cases e:r=q
  ·subst e;exact new.lv
  ·exact(E.liv r hr).same fun o' eo=>by rw[ax e];exact eo
 ·have hb:b≠q:=fun z=>n (by rw[z];exact g2)
  rw[ax hb];exact e
 ·by_cases e:b=q
  ·subst e;rw[aG];simp
  ·rw[ax e];exact z
 ·by_cases e:b=q
  ·subst e;exact new.lv
  ·exact z.same fun o' eo=>by rw[ax e];exact eo
 ·by_cases e:i=j
  ·subst e;exact⟨s.put y,bD hs,by cases s<;>simp[Sl.put,Sl.get]⟩
  ·exact⟨t,by rw[aH e];exact hj,ht⟩
 ·by_cases e:i=j
  ·subst e;rw[hs]at hj;cases hj;exact⟨y,bD hs⟩
  ·exact⟨d,by rw[aH e];exact hj⟩
end
end VF
namespace VF
open PySem L2
abbrev FE:=En->Option (Rs×En)
abbrev FA:=En->Option (List Rs×En)
abbrev FT:=En->Option (Bool×En)
abbrev Rz:=D×Bool
def mk:Rz->Rs
 | (d,true)=>.f d
 | (d,false)=>.d d
def RES (K:PySem.W.Frag) (Y:AS) (H H':Hp) (v:V):Rz->Prop
 | (d,true)=>∃p,v=.ref p/\H p=none/\OA K (ins p Y) H' p d
 | (d,false)=>DA K Y H' v d
def Fsh (H:Hp) (v:V):Rs->Prop
 | .f _=>∀p,v=.ref p->H p=none
 | _=>True
theorem Ext.dead (e:Ext O H O' H') (h:H' p=none):H p=none:=by
 cases q:H p with
 | none=>rfl
 | some o=>exact absurd h (e.al p (by rw[q];simp))
theorem Fsh.back (h:Fsh H' v r) (e:Ext O H O' H'):Fsh H v r:=by
 cases r with
 | f x=>exact fun p hp=>e.dead (h p hp)
 | d x=>trivial
 | s i=>trivial
def d7 (K:PySem.W.Frag) (te:TE) (f:FE):Prop:=∀(st:En) (σ:St) (H:Hp) (O Z:AS) (Q:VK),ER K st σ H O Z->∀r st',f st=some (r,st') ->
 (∀v H' O',Ext O H O' H'->Kp st st'->ER K st' σ H' O' Z->RVal K Z st' σ H' O' v r->Fsh H v r->Q v H')->te σ H Q
inductive RVs (K:PySem.W.Frag) (Z:AS) (st:En) (σ:St) (H:Hp) (O:AS):List V->List Rs->Prop where
 | nil:RVs K Z st σ H O [] []
 | cons {v:V} {vs:List V} {r:Rs} {rs:List Rs}:RVal K Z st σ H O v r.nf->RVs K Z st σ H O vs rs->RVs K Z st σ H O (v::vs) (r::rs)
def oB (K:PySem.W.Frag) (ta:TA) (f:FA):Prop:=∀(st:En) (σ:St) (H:Hp) (O Z:AS) (Q:List V->Hp->Prop),ER K st σ H O Z->∀rs st',f st=some (rs,st') ->
 (∀vs H' O',Ext O H O' H'->Kp st st'->ER K st' σ H' O' Z->RVs K Z st' σ H' O' vs rs->Q vs H')->ta σ H Q
def qN (K:PySem.W.Frag) (tt:TT) (f:FT):Prop:=∀(st:En) (σ:St) (H:Hp) (O Z:AS) (Q:Bool->Hp->Prop),ER K st σ H O Z->∀c st',f st=some (c,st') ->
 (∀H' O',Ext O H O' H'->Kp st st'->ER K st' σ H' O' Z->Q c H')->tt σ H Q
def RdOp (K:PySem.W.Frag) (r:R2) (b:D->D->Option Rz):Prop:=∀(Y:AS) (H:Hp) (x y:V) (d1 d2:D) (z:Rz) (Q:VK),(∀p,Y p->Lv H p)->BA K Y H x d1->BA K Y H y d2->b d1 d2=some z ->
 (∀v H',Same H H'->RES K Y H H' v z->Q v H')->r x y H Q
def JU (K:PySem.W.Frag) (r:V->Hp->VK->Prop) (b:D->Option Rz):Prop:=∀(Y:AS) (H:Hp) (x:V) (d1:D) (z:Rz) (Q:VK),(∀p,Y p->Lv H p)->BA K Y H x d1->b d1=some z ->
 (∀v H',Same H H'->RES K Y H H' v z->Q v H')->r x H Q
inductive BAs (K:PySem.W.Frag) (Y:AS) (H:Hp):List V->List D->Prop where
 | nil:BAs K Y H [] []
 | cons {v:V} {vs:List V} {d:D} {ds:List D}:BA K Y H v d->BAs K Y H vs ds->BAs K Y H (v::vs) (d::ds)
def RdCB (K:PySem.W.Frag) (r:List V->Hp->VK->Prop) (b:List D->Option Rz):Prop:=∀(Y:AS) (H:Hp) (xs:List V) (ds:List D) (z:Rz) (Q:VK),(∀p,Y p->Lv H p)->BAs K Y H xs ds->b ds=some z ->
 (∀v H',Same H H'->RES K Y H H' v z->Q v H')->r xs H Q
section
variable {K:PySem.W.Frag} {Y Y' O O' O1 O2 Z:AS} {H H' H1 H2:Hp} {v:V} {d:D} {vs:List V} {ds:List D} {a p:Addr} {st st' st1 st2:En} {σ σ':St}
theorem RES.rv (E:ER K st σ H O Z) (s:Same H H') (h:RES K (U O Z) H H' v z):ER K st σ H' O Z/\RVal K Z st σ H' O v (mk z):=by
 obtain⟨d,fr⟩:=z;cases fr with
 | false=>exact⟨E.same s,h⟩
 | true =>
  obtain⟨p,rfl,hp,ho⟩:=h;have hf:=E.free hp;exact⟨E.same s,p,rfl,hf.1,hf.2,ho,E.away s hp ho.lv⟩
theorem RES.fsh (h:RES K Y H H' v z):Fsh H v (mk z):=by
 obtain⟨d,fr⟩:=z;cases fr with
 | false=>trivial
 | true=>obtain⟨p,rfl,hp,_⟩:=h;exact fun q e=>by cases e;exact hp
theorem RVs.ext (h:RVs K Z st σ H O vs rs) (e:Ext O H O' H') (k:Kp st st'):RVs K Z st' σ H' O' vs rs:=by
 induction h with
 | nil=>exact .nil
 | cons h1 _ ih=>exact .cons (h1.ext e k) ih
def fG (st:En):List Rs->Option (List D)
 | []=>some []
 | r::rs=>(cont st r).bind fun d=>(fG st rs).bind fun ds=>some (d::ds)
theorem RVs.bas (h:RVs K Z st σ H O vs rs) (E:ER K st σ H O Z):∀{ds:List D},fG st rs=some ds->BAs K (U O Z) H vs ds:=by
 induction h with
 | nil=>intro ds e;cases e;exact .nil
 | @cons v vs r rs h1 _ ih =>
  intro ds e;refine b9 e fun d e1 e=>?_;refine b9 e fun ds' e2 e=>?_;cases e;exact .cons (h1.ba E (by rw[ip];exact e1)) (ih e2)
def cq:List Rs->En->Option (List D×En)
 | [],st=>some ([],st)
 | r::rs,st=>(cont st r).bind fun d=>(zH st r).bind fun st1=>(cq rs st1).bind fun x=>some (d::x.1,x.2)
theorem DR (st:En) (r:Rs):zH st r.nf=zH st r:=by cases r<;>rfl
theorem RVs.esc:∀{rs:List Rs} {vs:List V} {st:En} {O:AS} {ds:List D} {st':En},RVs K Z st σ H O vs rs->ER K st σ H O Z->cq rs st=some (ds,st')->∃O',Ext O H O' H/\Kp st st'/\ER K st' σ H O' Z/\El K (U O' Z) H vs ds
 | [],_,st,O,ds,st',.nil,E,e=>by cases e;exact⟨O,Ext.refl O H,Kp.refl _,E,El.nil⟩
 | r::rs,_,st,O,ds,st',.cons h1 h2,E,e=>by
  refine b9 e fun d e1 e=>?_;refine b9 e fun st1 e2 e=>?_;refine cZ e fun ds2 st2 e3 e=>?_;cases e;obtain⟨O1,x1,k1,E1,da⟩:=h1.frz E (by rw[DR];exact e2) (by rw[ip];exact e1)
  obtain⟨O2,x2,k2,E2,el⟩:=RVs.esc (h2.ext x1 k1) E1 e3;exact⟨O2,x1.trans x2,k1.trans k2,E2,El.cons (da.ext x2) el⟩
def aW (i:Nat):FE:=fun st=>match st[i]? with
 | some (.v d)=>some (.d d,st)
 | some (.o _)=>some (.s i,st)
 | some (.io _)=>some (.s i,st)
 | _=>none
theorem ab (i:Nat):d7 K (tR i) (aW i):=by
 intro st σ H O Z Q E r st' h q;unfold aW at h;split at h
 ·rename_i d e
  cases h;obtain⟨v,h1,h2⟩:=E.val i d e;exact⟨v,h1,q v H O (Ext.refl O H) (Kp.refl _) E h2 True.intro⟩
 ·rename_i d e
  cases h;obtain⟨p,h1,h2,h3⟩:=E.own i _ _ e rfl;exact⟨.ref p,h1,q _ H O (Ext.refl O H) (Kp.refl _) E ⟨h1,_,e,by simp[Sl.get]⟩ True.intro⟩
 ·rename_i d e
  cases h;obtain⟨p,h1,h2,h3⟩:=E.own i _ _ e rfl;exact⟨.ref p,h1,q _ H O (Ext.refl O H) (Kp.refl _) E ⟨h1,_,e,by simp[Sl.get]⟩ True.intro⟩
 ·cases h
def fC (d:D):FE:=fun st=>some (.d d,st)
theorem ik (h:∀Y H,DA K Y H v d):d7 K (tC v) (fC d):=by
 intro st σ H O Z Q E r st' e q;cases e;exact q v H O (Ext.refl O H) (Kp.refl _) E (h _ _) True.intro
theorem ao (i:Int):d7 K (tC (.int i)) (fC (.int i)):=ik fun _ _=>.int i
theorem aA (x:Str):d7 K (tC (.str x)) (fC (.str x)):=ik fun _ _=>.str x
theorem kN (b:Bool):d7 K (tC (.bl b)) (fC (.bl b)):=ik fun _ _=>.bl b
theorem vy:d7 K (tC .non) (fC .non):=ik fun _ _=>.non
def aL (b:D->D->Option Rz) (fa fb:FE):FE:=fun st=>(fa st).bind fun x=>(fb x.2).bind fun y=>(cont y.2 x.1).bind fun d1=>(cont y.2 y.1).bind fun d2=>(b d1 d2).bind fun z=>some (mk z,y.2)
theorem ag (hr:RdOp K r b) (ha:d7 K ta fa) (hb:d7 K tb fb):d7 K (zm r ta tb) (aL b fa fb):=by
 intro st σ H O Z Q E r' st' h q;refine cZ h fun r1 st1 e1 h=>?_;refine cZ h fun r2 st2 e2 h=>?_;refine b9 h fun d1 e3 h=>?_;refine b9 h fun d2 e4 h=>?_;refine b9 h fun z e5 h=>?_;cases h;refine ha st σ H O Z _ E r1 st1 e1 fun v1 H1 O1 x1 k1 E1 rv1 w1=>?_;refine hb st1 σ H1 O1 Z _ E1 r2 st2 e2 fun v2 H2 O2 x2 k2 E2 rv2 w2=>?_;have b1:=(rv1.nf.ext x2 k2).ba E2 (by rw[ip];exact e3)
 refine hr (U O2 Z) H2 v1 v2 d1 d2 z _ E2.liv b1 (rv2.ba E2 e4) e5 fun v H3 s hres=>?_;obtain⟨E3,rv3⟩:=hres.rv E2 s;exact q v H3 O2 ((x1.trans x2).trans (Same.ext s)) (k1.trans k2) E3 rv3 (hres.fsh.back (x1.trans x2))
def Dt (b:D->Option Rz) (fa:FE):FE:=fun st=>(fa st).bind fun x=>(cont x.2 x.1).bind fun d1=>(b d1).bind fun z=>some (mk z,x.2)
theorem wO (hr:JU K r b) (ha:d7 K ta fa):d7 K (Mg r ta) (Dt b fa):=by
 intro st σ H O Z Q E r' st' h q;refine cZ h fun r1 st1 e1 h=>?_;refine b9 h fun d1 e3 h=>?_;refine b9 h fun z e5 h=>?_;cases h;refine ha st σ H O Z _ E r1 st1 e1 fun v1 H1 O1 x1 k1 E1 rv1 w1=>?_;refine hr (U O1 Z) H1 v1 d1 z _ E1.liv (rv1.ba E1 e3) e5 fun v H3 s hres=>?_;obtain⟨E3,rv3⟩:=hres.rv E1 s;exact q v H3 O1 (x1.trans (Same.ext s)) k1 E3 rv3 (hres.fsh.back x1)
def F6 (st:En) (r:Rs):Option Bool:=match cont st r with
 | some (.bl c)=>some c
 | _=>none
theorem zI (E:ER K st σ H O Z) (h:RVal K Z st σ H O v r) (t:F6 st r=some c):v=.bl c:=by
 unfold F6 at t;split at t
 ·rename_i b e
  cases t;exact h.ba E e
 ·cases t
def aO (fa:FE):FT:=fun st=>(fa st).bind fun x=>(F6 x.2 x.1).bind fun c=>some (c,x.2)
theorem aT (ha:d7 K ta fa):qN K (wE ta) (aO fa):=by
 intro st σ H O Z Q E c st' h q;refine cZ h fun r1 st1 e1 h=>?_;refine b9 h fun c' e2 h=>?_;cases h;exact ha st σ H O Z _ E r1 st1 e1 fun v1 H1 O1 x1 k1 E1 rv1 w1=>⟨c,zI E1 rv1 e2,q H1 O1 x1 k1 E1⟩
theorem gI (ha:d7 K ta fa):qN K (tB ta) (aO fa):=aT ha
def jH (f:FT):FT:=fun st=>(f st).bind fun x=>some (!x.1,x.2)
theorem iq (h:qN K t f):qN K (JD t) (jH f):=by
 intro st σ H O Z Q E c st' e q;refine cZ e fun c1 st1 e1 e=>?_;cases e;exact h st σ H O Z _ E c1 st1 e1 q
def mi (f g:FT):FT:=fun st=>(f st).bind fun x=>if x.1=true then g x.2 else some (false,x.2)
theorem rY (h:qN K t f) (h':qN K u g):qN K (JC t u) (mi f g):=by
 intro st σ H O Z Q E c st' e q;refine cZ e fun c1 st1 e1 e=>?_;refine h st σ H O Z _ E c1 st1 e1 fun H1 O1 x1 k1 E1=>?_;cases c1 with
 | true =>
  rw[Af rfl]at e ⊢;exact h' st1 σ H1 O1 Z _ E1 c st' e fun H2 O2 x2 k2 E2=>q H2 O2 (x1.trans x2) (k1.trans k2) E2
 | false =>
  simp only[Xe,if_false]at e ⊢;cases e;exact q H1 O1 x1 k1 E1
def lh (f g:FT):FT:=fun st=>(f st).bind fun x=>if x.1=true then some (true,x.2) else g x.2
theorem jI (h:qN K t f) (h':qN K u g):qN K (Mb t u) (lh f g):=by
 intro st σ H O Z Q E c st' e q;refine cZ e fun c1 st1 e1 e=>?_;refine h st σ H O Z _ E c1 st1 e1 fun H1 O1 x1 k1 E1=>?_;cases c1 with
 | true =>
  rw[Af rfl]at e ⊢;cases e;exact q H1 O1 x1 k1 E1
 | false =>
  simp only[Xe,if_false]at e ⊢;exact h' st1 σ H1 O1 Z _ E1 c st' e fun H2 O2 x2 k2 E2=>q H2 O2 (x1.trans x2) (k1.trans k2) E2
def g8:FT:=fun st=>some (true,st)
theorem m5:qN K JT g8:=by
 intro st σ H O Z Q E c st' e q;cases e;exact q H O (Ext.refl O H) (Kp.refl _) E
def js (fa fb:FE):FE:=fun st=>(fa st).bind fun x=>(F6 x.2 x.1).bind fun c=>if c=true then fb x.2 else some (.d (.bl false),x.2)
theorem gO (ha:d7 K ta fa) (hb:d7 K tb fb):d7 K (FC ta tb) (js fa fb):=by
 intro st σ H O Z Q E r st' h q;refine cZ h fun r1 st1 e1 h=>?_;refine b9 h fun c e2 h=>?_;refine ha st σ H O Z _ E r1 st1 e1 fun v1 H1 O1 x1 k1 E1 rv1 w1=>⟨c,zI E1 rv1 e2,?_⟩;cases c with
 | true =>
  rw[Af rfl]at h ⊢;exact hb st1 σ H1 O1 Z _ E1 r st' h fun v H2 O2 x2 k2 E2 rv w2=>q v H2 O2 (x1.trans x2) (k1.trans k2) E2 rv (w2.back x1)
 | false =>
  rw[Ah (by decide)]at h ⊢
  cases h;exact q _ H1 O1 x1 k1 E1 (.bl false) True.intro
def ua (fa:FE):FE:=fun st=>(fa st).bind fun x=>(F6 x.2 x.1).bind fun c=>some (.d (.bl (!c)),x.2)
theorem wP (ha:d7 K ta fa):d7 K (FD ta) (ua fa):=by
 intro st σ H O Z Q E r st' h q;refine cZ h fun r1 st1 e1 h=>?_;refine b9 h fun c e2 h=>?_;cases h;exact ha st σ H O Z _ E r1 st1 e1 fun v1 H1 O1 x1 k1 E1 rv1 w1=>⟨c,zI E1 rv1 e2,q _ H1 O1 x1 k1 E1 (.bl _) True.intro⟩
def Jo (f:FT) (fa fb:FE):FE:=fun st=>(f st).bind fun x=>if x.1=true then fa x.2 else fb x.2
theorem JV (h:qN K t f) (ha:d7 K ta fa) (hb:d7 K tb fb):d7 K (Mc t ta tb) (Jo f fa fb):=by
 intro st σ H O Z Q E r st' e q;refine cZ e fun c1 st1 e1 e=>?_;refine h st σ H O Z _ E c1 st1 e1 fun H1 O1 x1 k1 E1=>?_;cases c1 with
 | true =>
  rw[Af rfl]at e ⊢;exact ha st1 σ H1 O1 Z _ E1 r st' e fun v H2 O2 x2 k2 E2 rv w2=>q v H2 O2 (x1.trans x2) (k1.trans k2) E2 rv (w2.back x1)
 | false =>
  simp only[Xe,if_false]at e ⊢;exact hb st1 σ H1 O1 Z _ E1 r st' e fun v H2 O2 x2 k2 E2 rv w2=>q v H2 O2 (x1.trans x2) (k1.trans k2) E2 rv (w2.back x1)
def rZ (b b':D->D->Option Rz) (fa fb fc:FE):FE:=fun st=>(fa st).bind fun x=>(fb x.2).bind fun y=>(cont y.2 x.1).bind fun d1=>(cont y.2 y.1).bind fun d2=>(b d1 d2).bind fun z=>match z with
 | (.bl true,false)=>(fc y.2).bind fun w=>(cont w.2 y.1).bind fun d2'=>(cont w.2 w.1).bind fun d3=>(b' d2' d3).bind fun z'=>some (mk z',w.2)
 | (.bl false,false)=>some (.d (.bl false),y.2)
 | _=>none
theorem zJ (hr:RdOp K r b) (hr':RdOp K r' b') (ha:d7 K ta fa) (hb:d7 K tb fb) (hc:d7 K tc fc):d7 K (zr r r' ta tb tc) (rZ b b' fa fb fc):=by
 intro st σ H O Z Q E r0 st' h q;refine cZ h fun r1 st1 e1 h=>?_;refine cZ h fun r2 st2 e2 h=>?_;refine b9 h fun d1 e3 h=>?_;refine b9 h fun d2 e4 h=>?_;refine b9 h fun z e5 h=>?_;refine ha st σ H O Z _ E r1 st1 e1 fun v1 H1 O1 x1 k1 E1 rv1 w1=>?_;refine hb st1 σ H1 O1 Z _ E1 r2 st2 e2 fun v2 H2 O2 x2 k2 E2 rv2 w2=>?_;have b1:=(rv1.nf.ext x2 k2).ba E2 (by rw[ip];exact e3)
 refine hr (U O2 Z) H2 v1 v2 d1 d2 z _ E2.liv b1 (rv2.ba E2 e4) e5 fun v H3 s hres=>?_;obtain⟨dz,fr⟩:=z;cases dz with
 | bl c =>
  cases fr with
  | true=>cases c<;>cases h
  | false =>
   have ev:v=.bl c:=DA.ba (show DA K (U O2 Z) H3 v (.bl c) from hres);refine⟨c,ev,?_⟩;have E3:=E2.same s;have x3:Ext O2 H2 O2 H3:=Same.ext s;cases c with
   | false =>
    rw[Ah (by decide)]
    cases h;exact q _ H3 O2 ((x1.trans x2).trans x3) (k1.trans k2) E3 (.bl false) True.intro
   | true =>
    rw[Af rfl];refine cZ h fun r3 st3 g1 h=>?_;refine b9 h fun d2' g2 h=>?_;refine b9 h fun d3 g3 h=>?_;refine b9 h fun z' g4 h=>?_;cases h;refine hc st2 σ H3 O2 Z _ E3 r3 st3 g1 fun v3 H4 O4 x4 k4 E4 rv4 w4=>?_;have b2:=(rv2.nf.ext (x3.trans x4) k4).ba E4 (by rw[ip];exact g2)
    refine hr' (U O4 Z) H4 v2 v3 d2' d3 z' _ E4.liv b2 (rv4.ba E4 g3) g4 fun w H5 s5 hres5=>?_;obtain⟨E5,rv5⟩:=hres5.rv E4 s5;exact q w H5 O4 ((((x1.trans x2).trans x3).trans x4).trans (Same.ext s5)) ((k1.trans k2).trans k4) E5 rv5 (hres5.fsh.back (((x1.trans x2).trans x3).trans x4))
 | _=>cases fr<;>cases h
def aj:FA:=fun st=>some ([],st)
theorem ae:oB K eG aj:=by
 intro st σ H O Z Q E rs st' e q;cases e;exact q [] H O (Ext.refl O H) (Kp.refl _) E .nil
def ac (fa:FE) (fr:FA):FA:=fun st=>(fa st).bind fun x=>(fr x.2).bind fun y=>some (x.1::y.1,y.2)
theorem aa (ha:d7 K ta fa) (hr:oB K tr fr):oB K (br ta tr) (ac fa fr):=by
 intro st σ H O Z Q E rs st' h q;refine cZ h fun r1 st1 e1 h=>?_;refine cZ h fun rs2 st2 e2 h=>?_;cases h;refine ha st σ H O Z _ E r1 st1 e1 fun v1 H1 O1 x1 k1 E1 rv1 w1=>?_;refine hr st1 σ H1 O1 Z _ E1 rs2 st2 e2 fun vs H2 O2 x2 k2 E2 rvs=>?_;exact q (v1::vs) H2 O2 (x1.trans x2) (k1.trans k2) E2 (.cons (rv1.nf.ext x2 k2) rvs)
theorem few (h:n<=1000000):n<=sizeLine:=Yc h (by decide)
def r6 (fa:FA):FE:=fun st=>(fa st).bind fun x=>(cq x.1 x.2).bind fun y=>if y.1.length<=1000000 then some (.d (.tup y.1),y.2) else none
theorem m6 (ha:oB K ta fa):d7 K (Ha ta) (r6 fa):=by
 intro st σ H O Z Q E r st' h q;refine cZ h fun rs st1 e1 h=>?_;refine cZ h fun ds st2 e2 h=>?_;refine ha st σ H O Z _ E rs st1 e1 fun vs H1 O1 x1 k1 E1 rvs=>?_;obtain⟨O2,x2,k2,E2,el⟩:=rvs.esc E1 e2;obtain⟨hz,h⟩:=bo h;cases h;refine⟨by rw[el.1];exact few hz,fun p hp=>?_⟩
 obtain⟨E3,rv⟩:=E2.newT hp el;exact q _ _ O2 ((x1.trans x2).trans (Same.ext (bS hp _))) (k1.trans k2) E3 rv True.intro
def bu (fa:FA):FE:=fun st=>(fa st).bind fun x=>(cq x.1 x.2).bind fun y=>if y.1.length<=1000000 then some (.f (.lst y.1),y.2) else none
theorem aI (ha:oB K ta fa):d7 K (g6 ta) (bu fa):=by
 intro st σ H O Z Q E r st' h q;refine cZ h fun rs st1 e1 h=>?_;refine cZ h fun ds st2 e2 h=>?_;refine ha st σ H O Z _ E rs st1 e1 fun vs H1 O1 x1 k1 E1 rvs=>?_;obtain⟨O2,x2,k2,E2,el⟩:=rvs.esc E1 e2;obtain⟨hz,h⟩:=bo h;cases h;refine⟨by rw[el.1];exact few hz,fun p hp=>?_⟩
 obtain⟨E3,rv⟩:=E2.new hp el;exact q _ _ O2 ((x1.trans x2).trans (Same.ext (bS hp _))) (k1.trans k2) E3 rv fun p' e=>by cases e;exact(x1.trans x2).dead hp
def dL (b:List D->Option Rz) (fa:FA):FE:=fun st=>(fa st).bind fun x=>(fG x.2 x.1).bind fun ds=>(b ds).bind fun z=>some (mk z,x.2)
theorem bF (hr:RdCB K r b) (ha:oB K ta fa):d7 K (Ds r ta) (dL b fa):=by
 intro st σ H O Z Q E r0 st' h q;refine cZ h fun rs st1 e1 h=>?_;refine b9 h fun ds e2 h=>?_;refine b9 h fun z e3 h=>?_;cases h;refine ha st σ H O Z _ E rs st1 e1 fun vs H1 O1 x1 k1 E1 rvs=>?_;refine hr (U O1 Z) H1 vs ds z _ E1.liv (rvs.bas E1 e2) e3 fun v H3 s hres=>?_;obtain⟨E3,rv3⟩:=hres.rv E1 s;exact q v H3 O1 (x1.trans (Same.ext s)) k1 E3 rv3 (hres.fsh.back x1)
end
end VF
namespace VF
open PySem L2
def D.isSc:D->Bool
 | .non=>true
 | .bl _=>true
 | .int _=>true
 | .str _=>true
 | .ty _=>true
 | _=>false
def oC (K:PySem.W.Frag) (g:List D->Option Rz):Sp:=fun vs H Q _=>∃(Z:AS) (ds:List D) (z:Rz),El K Z H vs ds/\(∀p,Z p->Lv H p)/\g ds=some z/\∀v H',Same H H'->RES K Z H H' v z->Q v H'
def LP (K:PySem.W.Frag) (Y:AS) (f:Addr) (x':D) (H H':Hp) (v:V):Rz->Prop
 | (d,true)=>∃p,v=.ref p/\H p=none/\OA K (ins p Y) H' p d/\OA K (ins p Y) H' f x'
 | (d,false)=>DA K Y H' v d/\OA K Y H' f x'
def jt (K:PySem.W.Frag) (g:D->List D->Option (Rz×D)):Sp:=fun vs H Q _=>∃(f:Addr) (ws:List V) (Z:AS) (x:D) (ds:List D) (z:Rz) (x':D),vs=.ref f::ws/\¬ Z f/\OA K (ins f Z) H f x/\El K (ins f Z) H ws ds/\(∀p,Z p->Lv H p)/\g x ds=some (z,x') /\
 ∀v H',(∀b o,H b=some o->b≠f->H' b=some o)->LP K (ins f Z) f x' H H' v z->Q v H'
section
variable {K:PySem.W.Frag} {Y Y' O O' O1 O2 Z:AS} {H H' H1 H2:Hp} {v:V} {d:D} {vs:List V} {ds:List D} {a p:Addr} {st st' st1 st2:En} {σ σ':St}
def dJ (g:List D->Option Rz) (fa:FA):FE:=fun st=>(fa st).bind fun x=>(cq x.1 x.2).bind fun y=>(g y.1).bind fun z=>some (mk z,y.2)
theorem ir (ha:oB K ta fa):d7 K (yn (oC K g) ta) (dJ g fa):=by
 intro st σ H O Z Q E r0 st' h q;refine cZ h fun rs st1 e1 h=>?_;refine cZ h fun ds st2 e2 h=>?_;refine b9 h fun z e3 h=>?_;cases h;refine ha st σ H O Z _ E rs st1 e1 fun vs H1 O1 x1 k1 E1 rvs=>?_;obtain⟨O2,x2,k2,E2,el⟩:=rvs.esc E1 e2;refine⟨U O2 Z,ds,z,el,E2.liv,e3,fun v H3 s hres=>?_⟩;obtain⟨E3,rv3⟩:=hres.rv E2 s;exact q v H3 O2 ((x1.trans x2).trans (Same.ext s)) (k1.trans k2) E3 rv3 (hres.fsh.back (x1.trans x2))
theorem RVal.da0 (h:RVal K Z st σ H O v r) (E:ER K st σ H O Z) (c:cont st r=some d):DA K (fun _=>False) H v d:=by
 cases r with
 | d x=>cases c;exact DA.less (show DA K (U O Z) H v d from h) fun b z=>z.elim
 | f x=>cases c;exact DA.less (show DA K (U O Z) H v d from RVal.nf h) fun b z=>z.elim
 | s i =>
  obtain⟨h1,s,h2,h3⟩:=h;have c':(st[i]?).bind Sl.get=some d:=c;rw[h2]at c';cases s with
  | e=>cases c'
  | v x =>
   cases c';obtain⟨u,g1,g2⟩:=E.val i _ h2;rw[h1]at g1;cases g1;exact g2.less fun b z=>z.elim
  | o x =>
   cases c';obtain⟨p,g1,g2,g3⟩:=E.own i _ _ h2 rfl;rw[h1]at g1;cases g1;exact g3.da (fun z=>z) fun b z=>z.elim
  | io x =>
   cases c';obtain⟨p,g1,g2,g3⟩:=E.own i _ _ h2 rfl;rw[h1]at g1;cases g1;exact g3.da (fun z=>z) fun b z=>z.elim
theorem RVs.el0 (h:RVs K Z st σ H O vs rs) (E:ER K st σ H O Z):∀{ds:List D},fG st rs=some ds->El K (fun _=>False) H vs ds:=by
 induction h with
 | nil=>intro ds e;cases e;exact El.nil
 | @cons v vs r rs h1 _ ih =>
  intro ds e;refine b9 e fun d e1 e=>?_;refine b9 e fun ds' e2 e=>?_;cases e;exact El.cons (h1.da0 E (by rw[ip];exact e1)) (ih e2)
theorem DA.sc (h:DA K Y H v d) (s:d.isSc=true):DA K Y' H' v d:=by
 cases h with
 | non=>exact .non
 | bl b=>exact .bl b
 | int i=>exact .int i
 | str x=>exact .str x
 | ty n=>exact .ty n
 | _=>cases s
def eV (g:List D->Option Rz) (fa:FA):FE:=fun st=>(fa st).bind fun x=>(fG x.2 x.1).bind fun ds=>(g ds).bind fun z=>if (z.1.isSc&&!z.2)=true then some (.d z.1,x.2) else none
theorem eK (ha:oB K ta fa):d7 K (yn (oC K g) ta) (eV g fa):=by
 intro st σ H O Z Q E r0 st' h q;refine cZ h fun rs st1 e1 h=>?_;refine b9 h fun ds e2 h=>?_;refine cZ h fun dz fr e3 h=>?_;obtain⟨hc,h⟩:=bo h;cases h;have h1:dz.isSc=true/\fr=false:=by simpa using hc
 obtain⟨h1,rfl⟩:=h1;refine ha st σ H O Z _ E rs _ e1 fun vs H1 O1 x1 k1 E1 rvs=>?_;refine⟨fun _=>False,ds,(dz,false),rvs.el0 E1 e2,fun p z=>z.elim,e3,fun v H3 s hres=>?_⟩;exact q v H3 O1 (x1.trans (Same.ext s)) k1 (E1.same s) (DA.sc (show DA K (fun _=>False) H3 v dz from hres) h1) True.intro
theorem nU {s:Sl} (E:ER K st σ H O Z) (hs:st[i]?=some s) (hx:s.ow=some x) (hv:σ[i]?=some (some v)) (el:El K (U O Z) H ws ds) (hg:g x ds=some (z,x'))
  (q:∀v H' O',Ext O H O' H'->Kp st (st.set i (s.put x'))->ER K (st.set i (s.put x')) σ H' O' Z->RVal K Z (st.set i (s.put x')) σ H' O' v (mk z)->Fsh H v (mk z)->Q v H'):jt K g (v::ws) H Q XE:=by
 obtain⟨p,g1,g2,g3⟩:=E.own i s x hs hx;have ev:v=.ref p:=by rw[hv]at g1;cases g1;rfl
 subst ev;have a1:∀b,ins p (fun b=>U O Z b/\b≠p) b->U O Z b:=fun b z=>z.elim (fun q=>by rw[q];exact .inl g2) fun q=>q.1
 have a2:∀b,U O Z b->ins p (fun b=>U O Z b/\b≠p) b:=fun b z=>by
  by_cases e:b=p
  ·exact .inl e
  ·exact .inr ⟨z,e⟩
 refine⟨p,ws,fun b=>U O Z b/\b≠p,x,ds,z,x',rfl,fun z=>z.2 rfl,g3.go rfl (fun _ _ e _=>e) (fun b z=>.inl (a1 b z)),el.less a1,fun b z=>E.liv b z.1,hg,fun u H' kp hres=>?_⟩;have ho:OA K (ins p fun b=>U O Z b/\b≠p) H' p x':=by
  obtain⟨dz,fr⟩:=z;cases fr with
  | false=>exact hres.2
  | true=>obtain⟨r,_,_,_,h⟩:=hres;exact h.go rfl (fun _ _ e _=>e) fun b z=>.inl (.inr z)
 have kp':∀b o,H b=some o->¬ U O Z b->H' b=some o:=fun b o e n=>kp b o e fun z=>n (by rw[z];exact .inl g2)
 have al:∀b,H b≠none->H' b≠none:=fun b hb=>by
  by_cases e:b=p
  ·rw[e];exact ho.live
  ·cases eb:H b with
   | none=>exact absurd eb hb
   | some o=>rw[kp b o eb e];simp
 have al':∀b,Lv H b->Lv H' b:=fun b hb=>by
  by_cases e:b=p
  ·rw[e];exact ho.lv
  ·exact hb.same fun o eb=>kp b o eb e
 have ex:Ext O H O H':=⟨fun b o e n=>kp b o e fun z=>n (by rw[z];exact g2),fun b z=>.inl z,al,al'⟩
 have ho':OA K (U O Z) H' p x':=ho.go rfl (fun _ _ e _=>e) fun b z=>.inl (a2 b z);have mkE:∀(O2:AS),(∀b,O b->O2 b)->(∀b,O2 b->O b∨H b=none)->(∀b,O2 b->¬ Z b)->(∀b,O2 b->Lv H' b)->OA K (U O2 Z) H' p x'->ER K (st.set i (s.put x')) σ H' O2 Z:=fun O2 up dn ds lv ho2=>by
  have nn:∀b,U O2 Z b->U O Z b∨H b=none:=fun b z=>z.elim (fun y=>(dn b y).elim (fun w=>.inl (.inl w)) .inr) fun y=>.inl (.inr y);refine⟨by simp[E.len],fun j d hj=>?_,fun j t d hj ht=>?_,fun j k t t' d d' r hj ht hk ht' e1 e2=>?_,ds,fun r hr=>hr.elim (lv r) fun y=>al' r (E.liv r (.inr y))⟩
  ·by_cases e:i=j
   ·subst e;rw[bD hs]at hj;exact absurd (Option.some.inj hj) (Sl.put_v _ _ _)
   ·rw[aH e]at hj;obtain⟨v,h1,h2⟩:=E.val j d hj;exact⟨v,h1,h2.go kp' nn⟩
  ·by_cases e:i=j
   ·subst e;rw[bD hs]at hj;have:=Option.some.inj hj;subst this;rw[Sl.put_ow]at ht;cases ht;exact⟨p,g1,up p g2,ho2⟩
   ·rw[aH e]at hj;obtain⟨r,h1,h2,h3⟩:=E.own j t d hj ht;have hne:r≠p:=fun z=>by subst z;exact e (E.uni i j s t x d r hs hx hj ht g1 h1)
    refine⟨r,h1,up r h2,h3.go ?_ kp' nn⟩;cases er:H r with
    | none=>exact absurd er h3.live
    | some o=>exact kp r o er hne
  ·have own':∀(m:Nat) (t:Sl) (d:D),(st.set i (s.put x'))[m]?=some t->t.ow=some d->∃t2 d2,st[m]?=some t2/\t2.ow=some d2:=fun m t d hm ht=>by
    by_cases e:i=m
    ·subst e;exact⟨s,x,hs,hx⟩
    ·rw[aH e]at hm;exact⟨t,d,hm,ht⟩
   obtain⟨t1,d1,a1,b1⟩:=own' j t d hj ht;obtain⟨t2,d2,a2,b2⟩:=own' k t' d' hk ht';exact E.uni j k t1 t2 d1 d2 r a1 b1 a2 b2 e1 e2
 have kk:Kp st (st.set i (s.put x')):=by
  refine⟨by simp,fun j t hj ht=>?_,fun j d hj=>?_⟩
  ·by_cases e:i=j
   ·subst e;exact⟨s.put x',bD hs,by cases s<;>simp[Sl.put,Sl.get]⟩
   ·exact⟨t,by rw[aH e];exact hj,ht⟩
  ·by_cases e:i=j
   ·subst e;rw[hs]at hj;cases hj;exact⟨x',bD hs⟩
   ·exact⟨d,by rw[aH e];exact hj⟩
 have E':=mkE O (fun _ z=>z) (fun _ z=>.inl z) E.dis (fun b z=>al' b (E.liv b (.inl z))) ho';refine q u H' O ex kk E' ?_ ?_
 rotate_left
 ·obtain⟨dz,fr⟩:=z;cases fr with
  | false=>trivial
  | true=>obtain⟨r,rfl,hr,_⟩:=hres;exact fun q e=>by cases e;exact hr
 obtain⟨dz,fr⟩:=z;cases fr with
 | false=>exact DA.less (show DA K _ H' u dz from hres.1) a2
 | true =>
  obtain⟨r,rfl,hr,hor,hof⟩:=hres;have hf:=E.free hr;have a3:∀b,ins r (U O Z) b->ins r (ins p fun b=>U O Z b/\b≠p) b:=fun b z=>z.elim .inl fun y=>.inr (a2 b y);refine⟨r,rfl,hf.1,hf.2,hor.go rfl (fun _ _ e _=>e) (fun b z=>.inl (a3 b z)),mkE (ins r O) (fun _ z=>.inr z) (fun b z=>z.elim (fun y=>.inr (by rw[y];exact hr)) .inl) (fun b z=>z.elim (fun y=>by rw[y];exact hf.2) (E.dis b)) (fun b z=>z.elim (fun y=>by rw[y];exact hor.lv) fun y=>al' b (E.liv b (.inl y))) ?_⟩
  exact hof.go rfl (fun _ _ e _=>e) fun b z=>.inl (a3 b (z.elim (fun y=>y.elim .inl fun w=>.inr (.inl w)) fun y=>.inr (.inr y)))
def eW (g:D->List D->Option (Rz×D)) (i:Nat) (fr:FA):FE:=fun st=>(st[i]?).bind fun s0=>(s0.ow).bind fun _=>(fr st).bind fun x=>(cq x.1 x.2).bind fun y=>(y.2[i]?).bind fun s=>(s.ow).bind fun d=>(g d y.1).bind fun z=>some (mk z.1,y.2.set i (s.put z.2))
theorem bN (hr:oB K tr fr):d7 K (yn (jt K g) (br (tR i) tr)) (eW g i fr):=by
 intro st σ H O Z Q E r0 st' h q;refine b9 h fun s0 f1 h=>?_;refine b9 h fun x0 f2 h=>?_;refine cZ h fun rs st1 e1 h=>?_;refine cZ h fun ds st2 e2 h=>?_;refine b9 h fun s e3 h=>?_;refine b9 h fun x e4 h=>?_;refine cZ h fun z x' e5 h=>?_;cases h;obtain⟨p,g1,_,_⟩:=E.own i s0 x0 f1 f2;refine⟨.ref p,g1,?_⟩;refine hr st σ H O Z _ E rs st1 e1 fun vs H1 O1 x1 k1 E1 rvs=>?_;obtain⟨O2,x2,k2,E2,el⟩:=rvs.esc E1 e2;exact nU E2 e3 e4 g1 el e5 fun v H' O' ex kk E' rv w=>q v H' O' ((x1.trans x2).trans ex) ((k1.trans k2).trans kk) E' rv (w.back (x1.trans x2))
end
end VF
namespace VF
open PySem L2
structure Kq (st:En) (σ:St) (st':En) (σ':St):Prop where
 len:st'.length=st.length
 io:∀(i:Nat) d,st[i]?=some (.io d)->σ'[i]?=σ[i]?/\∃d',st'[i]?=some (.io d')
theorem Kq.refl (st:En) (σ:St):Kq st σ st σ:=⟨rfl,fun i d h=>⟨rfl,d,h⟩⟩
theorem Kq.trans (h:Kq a x b y) (g:Kq b y c z):Kq a x c z:=by
 refine⟨g.len.trans h.len,fun i d e=>?_⟩;obtain⟨e1,d1,e2⟩:=h.io i d e;obtain⟨e3,d2,e4⟩:=g.io i d1 e2;exact⟨e3.trans e1,d2,e4⟩
theorem Kp.kq (k:Kp st st'):Kq st σ st' σ:=⟨k.len,fun i d h=>⟨rfl,k.io i d h⟩⟩
abbrev FG:=D->En->Option En
def DS (K:PySem.W.Frag) (g:TG) (fg:FG) (tg:List Nat):Prop:=∀(st:En) (σ:St) (H:Hp) (O Z:AS) (x:V) (d:D) (Q:St->Hp->Prop),ER K st σ H O Z->DA K (U O Z) H x d->∀st',fg d st=some st' ->
 (∀σ',(∀j,j∉tg->σ'[j]?=σ[j]?/\st'[j]?=st[j]?)->Kq st σ st' σ'->ER K st' σ' H O Z->Q σ' H)->g x σ H Q
def Sl.isIo:Sl->Bool
 | .io _=>true
 | _=>false
def mj (i:Nat) (s:Sl) (st:En):Option En:=(st[i]?).bind fun t=>if t.isIo=true then none else some (st.set i s)
section
variable {K:PySem.W.Frag} {Y Y' O O' O1 O2 Z:AS} {H H' H1 H2:Hp} {v:V} {d:D} {vs:List V} {ds:List D} {a p:Addr} {st st' st1 st2:En} {σ σ':St}
theorem oD (h:mj i s st=some st'):∃t,st[i]?=some t/\t.isIo=false/\st'=st.set i s:=by grind [mj]
theorem m7 {s t:Sl} (e:st[i]?=some t) (n:t.isIo=false):Kq st σ (st.set i s) (σ.set i w):=by
 refine⟨by simp,fun j d h=>?_⟩
 have q:i≠j:=fun z=>by subst z;rw[e]at h;cases h;cases n
 exact⟨aH q,d,by rw[aH q];exact h⟩
theorem ER.asg (E:ER K st σ H O Z) (e:st[i]?=some t) (h:DA K (U O Z) H v d):ER K (st.set i (.v d)) (σ.set i (some v)) H O Z:=by
 have hi:i<σ.length:=by rw[← E.len];exact(Xd.mp e).1
 have sg:(σ.set i (some v))[i]?=some (some v):=by rw[Zn,Af rfl,Af hi]
 have ne:∀(j:Nat) s x,(st.set i (.v d))[j]?=some s->s.ow=some x->i≠j/\st[j]?=some s:=fun j s x h1 h2=>by
  by_cases q:i=j
  ·subst q;rw[bD e]at h1;cases h1;cases h2
  ·exact⟨q,by rw[aH q]at h1;exact h1⟩
 refine⟨by simp[E.len],fun j x hj=>?_,fun j s x h1 h2=>?_,fun j k s s' x x' r h1 h2 h3 h4 h5 h6=>?_,E.dis,E.liv⟩
 ·by_cases q:i=j
  ·subst q;rw[bD e]at hj;cases hj;exact⟨v,sg,h⟩
  ·rw[aH q]at hj;obtain⟨w,g1,g2⟩:=E.val j x hj;exact⟨w,by rw[aH q];exact g1,g2⟩
 ·obtain⟨q,h1⟩:=ne j s x h1 h2;obtain⟨r,g1,g2⟩:=E.own j s x h1 h2;exact⟨r,by rw[aH q];exact g1,g2⟩
 ·obtain⟨q1,h1⟩:=ne j s x h1 h2;obtain⟨q2,h3⟩:=ne k s' x' h3 h4;rw[aH q1]at h5;rw[aH q2]at h6;exact E.uni j k s s' x x' r h1 h2 h3 h4 h5 h6
theorem ER.asgF (E0:ER K st σ H O Z) (E:ER K st σ H (ins p O) Z) (np:¬ O p) (e:st[i]?=some t) (h:OA K (ins p (U O Z)) H p x):ER K (st.set i (.o x)) (σ.set i (some (.ref p))) H (ins p O) Z:=by
 have hi:i<σ.length:=by rw[← E.len];exact(Xd.mp e).1
 have sg:(σ.set i (some (V.ref p)))[i]?=some (some (.ref p)):=by rw[Zn,Af rfl,Af hi]
 have fresh:∀(j:Nat) s y,st[j]?=some s->s.ow=some y->σ[j]?≠some (some (.ref p)):=fun j s y h1 h2 z=>by
  obtain⟨r,g1,g2,_⟩:=E0.own j s y h1 h2;rw[z]at g1;cases g1;exact np g2
 refine⟨by simp[E.len],fun j y hj=>?_,fun j s y h1 h2=>?_,fun j k s s' y y' r h1 h2 h3 h4 h5 h6=>?_,E.dis,E.liv⟩
 ·by_cases q:i=j
  ·subst q;rw[bD e]at hj;cases hj
  ·rw[aH q]at hj;obtain⟨w,g1,g2⟩:=E.val j y hj;exact⟨w,by rw[aH q];exact g1,g2⟩
 ·by_cases q:i=j
  ·subst q;rw[bD e]at h1;cases h1;cases h2;refine⟨p,sg,.inl rfl,h.go rfl (fun _ _ e _=>e) fun b z=>.inl ?_⟩;rcases z with(z|z)|z
   ·exact .inl z
   ·exact .inr (.inl z)
   ·exact .inr (.inr z)
  ·rw[aH q]at h1;obtain⟨r,g1,g2⟩:=E.own j s y h1 h2;exact⟨r,by rw[aH q];exact g1,g2⟩
 ·by_cases q1:i=j
  ·by_cases q2:i=k
   ·exact q1.symm.trans q2
   ·subst q1;rw[aH q2]at h3 h6;rw[sg]at h5;cases h5;exact absurd h6 (fresh k s' y' h3 h4)
  ·by_cases q2:i=k
   ·subst q2;rw[aH q1]at h1 h5;rw[sg]at h6;cases h6;exact absurd h5 (fresh j s y h1 h2)
   ·rw[aH q1]at h1 h5;rw[aH q2]at h3 h6;exact E.uni j k s s' y y' r h1 h2 h3 h4 h5 h6
def gN (i:Nat):FG:=fun d st=>mj i (.v d) st
theorem cb (i:Nat):DS K (jr i) (gN i) [i]:=by
 intro st σ H O Z x d Q E da st' h q;obtain⟨t,e,n,rfl⟩:=oD h;refine q (σ.set i (some x)) (fun j hj=>?_) (m7 e n) (E.asg e da);have q:i≠j:=fun z=>hj (by rw[z];simp)
 exact⟨aH q,aH q⟩
def DT (K:PySem.W.Frag) (g:FF) (fg:List D->En->Option En) (tg:List Nat):Prop:=∀(st:En) (σ:St) (H:Hp) (O Z:AS) (xs:List V) (ds:List D) (Q:St->Hp->Prop),ER K st σ H O Z->El K (U O Z) H xs ds->∀st',fg ds st=some st' ->
 (∀σ',(∀j,j∉tg->σ'[j]?=σ[j]?/\st'[j]?=st[j]?)->Kq st σ st' σ'->ER K st' σ' H O Z->Q σ' H)->g xs σ H Q
def JW:List D->En->Option En:=fun ds st=>match ds with
 | []=>some st
 | _=>none
theorem DU:DT K JF JW []:=by
 intro st σ H O Z xs ds Q E el st' h q;cases ds with
 | nil =>
  cases h;exact⟨el.unnil,q σ (fun j _=>⟨rfl,rfl⟩) (Kq.refl _ _) E⟩
 | cons d ds=>cases h
def DV (fg:FG) (fgs:List D->En->Option En):List D->En->Option En:=fun ds st=>match ds with
 | d::r=>(fg d st).bind fun st1=>fgs r st1
 | []=>none
theorem ub (h1:DS K g fg t1) (h2:DT K gs fgs t2):DT K (FJ g gs) (DV fg fgs) (t1++t2):=by
 intro st σ H O Z xs ds Q E el st' h q;cases ds with
 | nil=>cases h
 | cons d ds =>
  refine b9 h fun st1 e1 h=>?_;obtain⟨v,r,rfl,da,el⟩:=el.uncons;refine⟨v,r,rfl,h1 st σ H O Z v d _ E da st1 e1 fun σ1 k1 q1 E1=>?_⟩;refine h2 st1 σ1 H O Z r ds _ E1 el st' h fun σ2 k2 q2 E2=>q σ2 (fun j hj=>?_) (q1.trans q2) E2;have a:=k1 j fun z=>hj (Zd _ z);have b:=k2 j fun z=>hj (Xc _ z);exact⟨b.1.trans a.1,b.2.trans a.2⟩
def gT (n:Nat) (fgs:List D->En->Option En):FG:=fun d st=>match d with
 | .tup ds=>if ds.length=n then fgs ds st else none
 | _=>none
theorem Hz (h:DT K gs fgs t):DS K (G0 K n gs) (gT n fgs) t:=by
 intro st σ H O Z x d Q E da st' e q;cases d with
 | tup ds =>
  obtain⟨hn,e⟩:=bo e;cases da with
  | tup h1 h2 h3=>exact⟨_,_,rfl,h1.sq,h2.trans hn,h st σ H O Z _ ds Q E ⟨h2,h3⟩ st' e q⟩
 | _=>cases e
abbrev FI:=En->Option (List D×En)
def JX (K:PySem.W.Frag) (Z:AS) (J:It) (items:List D) (H:Hp) (O:AS):Prop:=∀H' O',Ext O H O' H'->(∀p,U O' Z p->Lv H' p)->(∀i,items.length<=i->J.stop i H')/\∀(i:Nat) d,items[i]?=some d->J.go i H'/\∀x H'',J.yld i H' x H''->Same H' H''/\DA K (U O' Z) H'' x d
def RdI (K:PySem.W.Frag) (wi:TI) (fi:FI):Prop:=∀(st:En) (σ:St) (H:Hp) (O Z:AS) (R:It->Hp->Prop),ER K st σ H O Z->∀items st',fi st=some (items,st') ->
 (∀J H' O',Ext O H O' H'->Kp st st'->ER K st' σ H' O' Z->JX K Z J items H' O'->R J H')->wi σ H R
def esc (r:Rs) (st:En):Option (D×En):=(cont st r).bind fun d=>(zH st r).bind fun st1=>some (d,st1)
theorem RVal.esc (h:RVal K Z st σ H O v r) (E:ER K st σ H O Z) (e:esc r st=some (d,st')):∃O',Ext O H O' H/\Kp st st'/\ER K st' σ H O' Z/\DA K (U O' Z) H v d:=by
 refine b9 e fun x e1 e=>?_;refine b9 e fun s1 e2 e=>?_;cases e;exact h.frz E e2 e1
def D.its:D->Option (List D)
 | .lst ds=>some ds
 | .fl ds=>some ds
 | _=>none
def D.itt:D->Option (List D)
 | .tup ds=>some ds
 | _=>none
def Jp (fe:FE):FI:=fun st=>(fe st).bind fun x=>(esc x.1 x.2).bind fun y=>(y.1.its).bind fun ds=>some (ds,y.2)
theorem DW (h:d7 K te fe):RdI K (wz K te) (Jp fe):=by
 intro st σ H O Z R E items st' e q;refine cZ e fun r st1 e1 e=>?_;refine cZ e fun d st2 e2 e=>?_;refine b9 e fun ds e3 e=>?_;cases e;refine h st σ H O Z _ E r st1 e1 fun v H1 O1 x1 k1 E1 rv w1=>?_;obtain⟨O2,x2,k2,E2,da⟩:=rv.esc E1 e2;have fin:∀{a:Addr} {vs:List V},El K (U O2 Z) H1 vs items->(∀H' O',Ext O2 H1 O' H'->i5 K H' a vs)->wz K (fun _ H Q=>Q (.ref a) H) σ H1 R:=fun {a vs} el sq=>by
  refine⟨a,rfl,⟨vs,sq H1 O2 (Ext.refl _ _)⟩,q _ H1 O2 (x1.trans x2) (k1.trans k2) E2 fun H' O' ex _=>?_⟩;have g1:=sq H' O' ex;have el':=el.ext ex;have hl:=el.1;refine⟨fun i hi=>⟨vs,g1,by lia⟩,fun i d hd=>?_⟩
  obtain⟨v,hv,hdv⟩:=el'.at hd;refine⟨⟨vs,v,g1,hv⟩,fun x H'' hx=>?_⟩;obtain⟨rfl,hx⟩:=hx;have:=hx vs g1;rw[hv]at this;cases this;exact⟨Same.refl _,hdv⟩
 cases d with
 | lst ds' =>
  cases e3;cases da with
  | @lst a vs _ h0 h1 h2 h3=>exact fin ⟨h2,h3⟩ fun H' O' ex=>.inl (.inl (ex.kp a _ h1 fun z=>h0 (.inl z)))
 | fl ds' =>
  cases e3;cases da with
  | @fl a vs _ h1 h2 h3 =>
   refine fin ⟨h2,h3⟩ fun H' O' ex=>?_;rcases h1 with⟨h1,hn⟩|h1
   ·exact .inl (Rd.keep h1 fun o e=>ex.kp a o e fun z=>hn (.inl z))
   ·exact h1 H'
 | _=>cases e3
def LE (fe:FE):FI:=fun st=>(fe st).bind fun x=>(esc x.1 x.2).bind fun y=>(y.1.itt).bind fun ds=>some (ds,y.2)
theorem HA (h:d7 K te fe):RdI K (G2 K te) (LE fe):=by
 intro st σ H O Z R E items st' e q;refine cZ e fun r st1 e1 e=>?_;refine cZ e fun d st2 e2 e=>?_;refine b9 e fun ds e3 e=>?_;cases e;refine h st σ H O Z _ E r st1 e1 fun v H1 O1 x1 k1 E1 rv w1=>?_;obtain⟨O2,x2,k2,E2,da⟩:=rv.esc E1 e2;cases d with
 | tup ds' =>
  cases e3;cases da with
  | @tup a vs _ h1 h2 h3 =>
   refine⟨a,rfl,⟨vs,h1.sq⟩,q _ H1 O2 (x1.trans x2) (k1.trans k2) E2 fun H' O' ex _=>?_⟩;have da':=(DA.tup h1 h2 h3).ext ex;cases da' with
   | @tup _ ws _ g1 g2 g3 =>
    refine⟨fun i hi=>⟨ws,g1.sq,by lia⟩,fun i d hd=>?_⟩
    obtain⟨v,hv,hdv⟩:=El.at ⟨g2,g3⟩ hd;refine⟨⟨ws,v,g1.sq,hv⟩,fun x H'' hx=>?_⟩;obtain⟨rfl,hx⟩:=hx;have:=hx ws g1.sq;rw[hv]at this;cases this;exact⟨Same.refl _,hdv⟩
 | _=>cases e3
def rng (lo:Int) (n:Nat):List D:=(List.range n).map fun(i:Nat)=>D.int (lo+(i:Int))
theorem zK (h:(rng lo n)[i]?=some d):i<n/\d=.int (lo+i):=by grind [rng]
theorem iu (lo:Int) (n:Nat):(rng lo n).length=n:=by simp[rng]
theorem zL:JX K Z (LA lo n) (rng lo n) H O:=fun H' O' ex _=>by
 refine⟨fun i hi=>by rw[iu]at hi;exact hi,fun i d hd=>?_⟩
 obtain⟨h1,rfl⟩:=zK hd;refine⟨h1,fun x H'' hx=>?_⟩;obtain⟨rfl,rfl⟩:=hx;exact⟨Same.refl _,.int _⟩
def HB:List D->Option Int
 | [.int j]=>some j
 | _=>none
def lj (fa:FA):FI:=fun st=>(fa st).bind fun x=>(fG x.2 x.1).bind fun ds=>(HB ds).bind fun j=>if -(2 ^ 62)<=j/\j<2 ^ 62 then some (rng 0 j.toNat,x.2) else none
theorem kl (h:oB K ta fa):RdI K (FK ta) (lj fa):=by
 intro st σ H O Z R E items st' e q;refine cZ e fun rs st1 e1 e=>?_;refine b9 e fun ds e2 e=>?_;refine b9 e fun j e3 e=>?_;obtain⟨hc,e⟩:=bo e;cases e;refine h st σ H O Z _ E rs _ e1 fun vs H1 O1 x1 k1 E1 rvs=>?_;have bs:=rvs.bas E1 e2;have ed:ds=[.int j]:=by
  unfold HB at e3;split at e3
  ·cases e3;rfl
  ·cases e3
 subst ed;cases bs with
 | cons b1 b2 =>
  cases b2;obtain rfl:=(show _=V.int j from b1);exact⟨j,rfl,hc.1,hc.2,q _ H1 O1 x1 k1 E1 zL⟩
def pd (x:Str):List D:=x.cps.toList.map fun c=>D.str ⟨#[c]⟩
def Mi (fe:FE):FI:=fun st=>(fe st).bind fun x=>match cont x.2 x.1 with
 | some (.str z)=>some (pd z,x.2)
 | _=>none
theorem HD (h:d7 K te fe):RdI K (Ht te) (Mi fe):=by
 intro st σ H O Z R E items st' e q;refine cZ e fun r st1 e1 e=>?_;refine h st σ H O Z _ E r st1 e1 fun v H1 O1 x1 k1 E1 rv w1=>?_;dsimp only at e;split at e
 ·rename_i z ez
  cases e;have ev:v=.str z:=rv.ba E1 ez;refine⟨z,ev,q _ H1 O1 x1 k1 E1 fun H' O' ex _=>⟨fun i hi=>?_,fun i d hd=>?_⟩⟩
  ·show z.cps.size<=i;simpa[pd]using hi
  ·unfold pd at hd;rw[Zg]at hd;obtain⟨c,hc,rfl⟩:=Zh.mp hd;have hc':z.cps[i]?=some c:=by simpa using hc
   refine⟨(Zf.mp hc').1,fun x H'' hx=>?_⟩;obtain⟨rfl,c',h1,rfl⟩:=hx;rw[hc']at h1;cases h1;exact⟨Same.refl _,.str _⟩
 ·cases e
inductive Ot where
 | nx (st:En)|rt (r:Rs) (st:En)|bk (st:En)|ct (st:En)
abbrev FS:=En->Option Ot
def Out (K:PySem.W.Frag) (Z O:AS) (H:Hp) (st:En) (σ:St) (Dn:Ends):Ot->Prop
 | .nx st'=>∀σ' H' O',Ext O H O' H'->Kq st σ st' σ'->ER K st' σ' H' O' Z->Dn.nx σ' H'
 | .rt r st'=>∀v σ' H' O',Ext O H O' H'->Kq st σ st' σ'->ER K st' σ' H' O' Z->RVal K Z st' σ' H' O' v r->Fsh H v r->Dn.rt v H'
 | .bk st'=>∀σ' H' O',Ext O H O' H'->Kq st σ st' σ'->ER K st' σ' H' O' Z->Dn.bk σ' H'
 | .ct st'=>∀σ' H' O',Ext O H O' H'->Kq st σ st' σ'->ER K st' σ' H' O' Z->Dn.ct σ' H'
def nV (K:PySem.W.Frag) (ts:TS) (F:FS):Prop:=∀(st:En) (σ:St) (H:Hp) (O Z:AS) (Dn:Ends),ER K st σ H O Z->∀o,F st=some o->Out K Z O H st σ Dn o->ts Dn σ H
theorem Out.trans (h:Out K Z O H st σ Dn o) (x:Ext O H O1 H1) (k:Kq st σ st1 σ'):Out K Z O1 H1 st1 σ' Dn o:=by
 cases o with
 | nx s=>exact fun σ2 H2 O2 x2 k2 E2=>h σ2 H2 O2 (x.trans x2) (k.trans k2) E2
 | bk s=>exact fun σ2 H2 O2 x2 k2 E2=>h σ2 H2 O2 (x.trans x2) (k.trans k2) E2
 | ct s=>exact fun σ2 H2 O2 x2 k2 E2=>h σ2 H2 O2 (x.trans x2) (k.trans k2) E2
 | rt r s=>exact fun v σ2 H2 O2 x2 k2 E2 rv w=>h v σ2 H2 O2 (x.trans x2) (k.trans k2) E2 rv (w.back x)
def bM:FS:=fun st=>some (.nx st)
theorem bg:nV K zf bM:=by
 intro st σ H O Z Dn E o e q;cases e;exact q σ H O (Ext.refl _ _) (Kq.refl _ _) E
def aM (F G:FS):FS:=fun st=>(F st).bind fun o=>match o with
 | .nx s=>G s
 | o=>some o
theorem av (h1:nV K t F) (h2:nV K u G):nV K (DC t u) (aM F G):=by
 intro st σ H O Z Dn E o e q;refine b9 e fun o1 e1 e=>?_;refine h1 st σ H O Z _ E o1 e1 ?_;cases o1 with
 | nx s=>exact fun σ1 H1 O1 x1 k1 E1=>h2 s σ1 H1 O1 Z Dn E1 o e (q.trans x1 k1)
 | bk s=>cases e;exact q
 | ct s=>cases e;exact q
 | rt r s=>cases e;exact q
def fz (fe:FE):FS:=fun st=>(fe st).bind fun x=>some (.nx x.2)
theorem du (h:d7 K te fe):nV K (zg te) (fz fe):=by
 intro st σ H O Z Dn E o e q;refine cZ e fun r st1 e1 e=>?_;cases e;exact h st σ H O Z _ E r st1 e1 fun v H1 O1 x1 k1 E1 rv w1=>q σ H1 O1 x1 k1.kq E1
def bR (fe:FE):FS:=fun st=>(fe st).bind fun x=>some (.rt x.1 x.2)
theorem bb (h:d7 K te fe):nV K (GY te) (bR fe):=by
 intro st σ H O Z Dn E o e q;refine cZ e fun r st1 e1 e=>?_;cases e;exact h st σ H O Z _ E r st1 e1 fun v H1 O1 x1 k1 E1 rv w1=>q v σ H1 O1 x1 k1.kq E1 rv w1
def gP (f:FT) (F G:FS):FS:=fun st=>(f st).bind fun x=>if x.1=true then F x.2 else G x.2
theorem bX (hc:qN K c f) (h1:nV K t F) (h2:nV K u G):nV K (DD c t u) (gP f F G):=by
 intro st σ H O Z Dn E o e q;refine cZ e fun b st1 e1 e=>?_;refine hc st σ H O Z _ E b st1 e1 fun H1 O1 x1 k1 E1=>?_;cases b with
 | true =>
  rw[Af rfl]at e ⊢;exact h1 st1 σ H1 O1 Z Dn E1 o e (q.trans x1 k1.kq)
 | false =>
  simp only[Xe,if_false]at e ⊢;exact h2 st1 σ H1 O1 Z Dn E1 o e (q.trans x1 k1.kq)
def bn (fe:FE) (i:Nat):FS:=fun st=>(fe st).bind fun x=>match x.1 with
 | .d y=>(mj i (.v y) x.2).bind fun s=>some (.nx s)
 | .f y=>(mj i (.o y) x.2).bind fun s=>some (.nx s)
 | .s j=>(esc (.s j) x.2).bind fun y=>(mj i (.v y.1) y.2).bind fun s=>some (.nx s)
theorem aN (h:d7 K te fe):nV K (rH te (jr i)) (bn fe i):=by
 intro st σ H O Z Dn E o e q;refine cZ e fun r st1 e1 e=>?_;refine h st σ H O Z _ E r st1 e1 fun v H1 O1 x1 k1 E1 rv w1=>?_;show Dn.nx (σ.set i (some v)) H1;cases r with
 | d y =>
  refine b9 e fun s e2 e=>?_;cases e;obtain⟨t,f1,f2,rfl⟩:=oD e2;exact q _ H1 O1 x1 (k1.kq.trans (m7 f1 f2)) (E1.asg f1 rv)
 | f y =>
  refine b9 e fun s e2 e=>?_;cases e;obtain⟨t,f1,f2,rfl⟩:=oD e2;obtain⟨p,rfl,np,nz,ho,E2⟩:=rv;have hp:H p=none:=w1 p rfl;exact q _ H1 (ins p O1) ⟨x1.kp,fun b z=>z.elim (fun y=>by rw[y];exact .inr hp) (x1.nw b),x1.al,x1.lv⟩ (k1.kq.trans (m7 f1 f2)) (E1.asgF E2 np f1 ho)
 | s j =>
  refine cZ e fun d st2 e2 e=>?_;refine b9 e fun s e3 e=>?_;cases e;obtain⟨O2,x2,k2,E2,da⟩:=rv.esc E1 e2;obtain⟨t,f1,f2,rfl⟩:=oD e3;exact q _ H1 O2 (x1.trans x2) ((k1.kq.trans k2.kq).trans (m7 f1 f2)) (E2.asg f1 da)
end
end VF
namespace VF
open PySem L2
section
variable {K:PySem.W.Frag} {Y Y' O O' O1 O2 Z:AS} {H H' H1 H2:Hp} {v:V} {d:D} {vs:List V} {ds:List D} {a p:Addr} {st st' st1 st2:En} {σ σ':St}
def iw (fg:FG) (B:FS):List D->FS
 | [],st=>some (.nx st)
 | x::r,st=>(fg x st).bind fun s1=>(B s1).bind fun o=>match o with
  | .nx s2=>iw fg B r s2
  | .ct s2=>iw fg B r s2
  | .bk s2=>some (.nx s2)
  | .rt y s2=>some (.rt y s2)
def kK (fi:FI) (fg:FG) (B:FS):FS:=fun st=>(fi st).bind fun x=>iw fg B x.1 x.2
theorem jJ (hi:RdI K wi fi) (hg:DS K g fg tg) (hb:nV K tb B):nV K (JH wi g tb) (kK fi fg B):=by
 intro st σ H O Z Dn E o e q;refine cZ e fun items st1 e1 e=>?_;refine hi st σ H O Z _ E items st1 e1 fun J H1 O1 x1 k1 E1 it=>?_;have q1:=q.trans x1 (k1.kq (σ:=σ));refine⟨fun i m σ' H'=>m=items.length-i/\i<=items.length/\∃s O',Ext O1 H1 O' H'/\Kq st1 σ s σ'/\ER K s σ' H' O' Z/\iw fg B (items.drop i) s=some o,⟨items.length,by simp,Qk _,st1,O1,Ext.refl _ _,Kq.refl _ _,E1,e⟩,?_⟩
 rintro i m σ' H' ⟨rfl,hle,s,O',x2,k2,E2,e2⟩;obtain⟨stop,go⟩:=it H' O' x2 E2.liv;by_cases hlt:i<items.length
 ·right;have hd:items.drop i=items[i]::items.drop (i+1):=Yh hlt;rw[hd]at e2;refine b9 e2 fun s1 e3 e2=>?_;refine b9 e2 fun o1 e4 e2=>?_;obtain⟨g1,g2⟩:=go i _ (Qa hlt);refine⟨g1,fun σ3 H3=>∃s O3,Ext O1 H1 O3 H3/\Kq st1 σ s σ3/\ER K s σ3 H3 O3 Z/\iw fg B (items.drop (i+1)) s=some o,fun σ3 H3 ⟨s3,O3,x3,k3,E3,e3'⟩=>⟨items.length-(i+1),by lia,rfl,hlt,s3,O3,x3,k3,E3,e3'⟩,fun x H'' hy=>?_⟩
  obtain⟨sm,da⟩:=g2 x H'' hy;have xm:Ext O' H' O' H'':=Same.ext sm;refine hg s σ' H'' O' Z x _ _ (E2.same sm) da s1 e3 fun σ4 _ k4 E4=>?_;refine hb s1 σ4 H'' O' Z _ E4 o1 e4 ?_;have xx:=x2.trans xm;cases o1 with
  | nx s2=>exact fun σ5 H5 O5 x5 k5 E5=>⟨s2,O5,xx.trans x5,(k2.trans k4).trans k5,E5,e2⟩
  | ct s2=>exact fun σ5 H5 O5 x5 k5 E5=>⟨s2,O5,xx.trans x5,(k2.trans k4).trans k5,E5,e2⟩
  | bk s2 =>
   cases e2;exact fun σ5 H5 O5 x5 k5 E5=>q1 σ5 H5 O5 (xx.trans x5) ((k2.trans k4).trans k5) E5
  | rt y s2 =>
   cases e2;exact fun v σ5 H5 O5 x5 k5 E5 rv w=>q1 v σ5 H5 O5 (xx.trans x5) ((k2.trans k4).trans k5) E5 rv (w.back xx)
 ·left;have hn:items.drop i=[]:=Bg (by lia)
  rw[hn]at e2;cases e2;exact⟨stop i (by lia),q1 σ' H' O' x2 k2 E2⟩
def Du (f:FT) (B:FS):Nat->FS
 | 0,_=>none
 | n+1,st=>(f st).bind fun x=>if x.1=true then(B x.2).bind fun o=>match o with
   | .nx s2=>Du f B n s2
   | .ct s2=>Du f B n s2
   | .bk s2=>some (.nx s2)
   | .rt y s2=>some (.rt y s2)
  else some (.nx x.2)
theorem uc (n:Nat) (hc:qN K c f) (hb:nV K tb B):nV K (zk c tb) (Du f B n):=by
 intro st σ H O Z Dn E o e q;refine⟨fun m σ' H'=>∃s O',Ext O H O' H'/\Kq st σ s σ'/\ER K s σ' H' O' Z/\Du f B m s=some o,⟨n,st,O,Ext.refl _ _,Kq.refl _ _,E,e⟩,?_⟩;rintro m σ' H' ⟨s,O',x2,k2,E2,e2⟩;cases m with
 | zero=>cases e2
 | succ m =>
  refine cZ e2 fun b s1 e3 e2=>?_;refine hc s σ' H' O' Z _ E2 b s1 e3 fun H3 O3 x3 k3 E3=>?_;have xx:=x2.trans x3;have kk:=k2.trans (k3.kq (σ:=σ'));cases b with
  | false =>
   simp only[Xe,if_false]at e2 ⊢;cases e2;exact q σ' H3 O3 xx kk E3
  | true =>
   rw[Af rfl]at e2 ⊢;refine b9 e2 fun o1 e4 e2=>?_;refine⟨fun σ5 H5=>∃s O5,Ext O H O5 H5/\Kq st σ s σ5/\ER K s σ5 H5 O5 Z/\Du f B m s=some o,fun σ5 H5 h=>⟨m,AL _,h⟩,?_⟩;refine hb s1 σ' H3 O3 Z _ E3 o1 e4 ?_;cases o1 with
   | nx s2=>exact fun σ5 H5 O5 x5 k5 E5=>⟨s2,O5,xx.trans x5,kk.trans k5,E5,e2⟩
   | ct s2=>exact fun σ5 H5 O5 x5 k5 E5=>⟨s2,O5,xx.trans x5,kk.trans k5,E5,e2⟩
   | bk s2 =>
    cases e2;exact fun σ5 H5 O5 x5 k5 E5=>q σ5 H5 O5 (xx.trans x5) (kk.trans k5) E5
   | rt y s2 =>
    cases e2;exact fun v σ5 H5 O5 x5 k5 E5 rv w=>q v σ5 H5 O5 (xx.trans x5) (kk.trans k5) E5 rv (w.back xx)
structure RdM (K:PySem.W.Frag) (T:String) (r:V->List V->Hp->VK->Prop) (ok:D->Bool) (m:D->List D->Option (D×D)):Prop where
 ty:∀(Y:AS) (H:Hp) (p:Addr) (x:D),OA K Y H p x->ok x=true->JR K T (.ref p) H
 run:∀(Y:AS) (H:Hp) (p:Addr) (x:D) (vs:List V) (ds:List D) (y x':D) (Q:VK),Y p->OA K Y H p x->El K Y H vs ds->m x ds=some (y,x') ->
  (∀v o,DA K Y (upd H p o) v y->OA K Y (upd H p o) p x'->Q v (upd H p o))->r (.ref p) vs H Q
def fM (ok:D->Bool) (m:D->List D->Option (D×D)) (i:Nat) (fa:FA):FE:=fun st=>(st[i]?).bind fun s0=>(s0.ow).bind fun x0=>if ok x0=true then(fa st).bind fun x=>(cq x.1 x.2).bind fun y=>(y.2[i]?).bind fun s=>(s.ow).bind fun d=>(m d y.1).bind fun z=>some (.d z.1,y.2.set i (s.put z.2)) else none
theorem m8 (hm:RdM K T r ok m) (ha:oB K ta fa):d7 K (LD K T r (tR i) ta) (fM ok m i fa):=by
 intro st σ H O Z Q E r0 st' h q;refine b9 h fun s0 f1 h=>?_;refine b9 h fun x0 f2 h=>?_;obtain⟨hok,h⟩:=bo h;refine cZ h fun rs st1 e1 h=>?_;refine cZ h fun ds st2 e2 h=>?_;refine b9 h fun s e3 h=>?_;refine b9 h fun x e4 h=>?_;refine cZ h fun y x' e5 h=>?_;cases h;obtain⟨p,g1,g2,g3⟩:=E.own i s0 x0 f1 f2;refine⟨.ref p,g1,hm.ty _ _ _ _ g3 hok,?_⟩;refine ha st σ H O Z _ E rs st1 e1 fun vs H1 O1 x1 k1 E1 rvs=>?_;obtain⟨O2,x2,k2,E2,el⟩:=rvs.esc E1 e2;obtain⟨p',j1,j2,j3⟩:=E2.own i s x e3 e4;have ep:p'=p:=by rw[g1]at j1;cases j1;rfl
 subst ep;refine hm.run (U O2 Z) H1 p' x vs ds y x' _ (.inl j2) j3 el e5 fun v o da ho=>?_;obtain⟨E3,x3,k3⟩:=E2.write e3 e4 g1 ho;exact q v _ O2 ((x1.trans x2).trans x3) ((k1.trans k2).trans k3) E3 da True.intro
def zM (K:PySem.W.Frag) (t:zj) (m:D->D->D->Option D):Prop:=∀(Y:AS) (H:Hp) (p:Addr) (x:D) (k v:V) (dk dv x':D) (Q:Hp->Prop),Y p->OA K Y H p x->BA K Y H k dk->DA K Y H v dv->m x dk dv=some x' ->
 (∀o,OA K Y (upd H p o) p x'->Q (upd H p o))->t (.ref p) k v H Q
def qq (m:D->D->D->Option D) (fe:FE) (i:Nat) (fi:FE):FS:=fun st=>(fe st).bind fun x=>(esc x.1 x.2).bind fun y=>(y.2[i]?).bind fun s0=>(s0.ow).bind fun _=>(fi y.2).bind fun w=>(cont w.2 w.1).bind fun dk=>(w.2[i]?).bind fun s=>(s.ow).bind fun z=>(m z dk y.1).bind fun z'=>some (.nx (w.2.set i (s.put z')))
theorem lq (hm:zM K t m) (he:d7 K te fe) (hi:d7 K ti fi):nV K (rH te (JG (tR i) ti t)) (qq m fe i fi):=by
 intro st σ H O Z Dn E o e q;refine cZ e fun r st1 e1 e=>?_;refine cZ e fun dv st2 e2 e=>?_;refine b9 e fun s0 e3 e=>?_;refine b9 e fun x0 e4 e=>?_;refine cZ e fun rk st3 e5 e=>?_;refine b9 e fun dk e6 e=>?_;refine b9 e fun s e7 e=>?_;refine b9 e fun x e8 e=>?_;refine b9 e fun x' e9 e=>?_;cases e;refine he st σ H O Z _ E r st1 e1 fun v H1 O1 x1 k1 E1 rv w1=>?_;obtain⟨O2,x2,k2,E2,da⟩:=rv.esc E1 e2;obtain⟨p,g1,g2,g3⟩:=E2.own i s0 x0 e3 e4;refine⟨.ref p,g1,?_⟩;refine hi st2 σ H1 O2 Z _ E2 rk st3 e5 fun k H3 O3 x3 k3 E3 rk' w3=>?_;obtain⟨p',j1,j2,j3⟩:=E3.own i s x e7 e8;have ep:p'=p:=by rw[g1]at j1;cases j1;rfl
 subst ep;refine hm (U O3 Z) H3 p' x k v dk dv x' _ (.inl j2) j3 (rk'.ba E3 e6) (da.ext x3) e9 fun o ho=>?_;obtain⟨E4,x4,k4⟩:=E3.write e7 e8 g1 ho;exact q σ _ O3 (((x1.trans x2).trans x3).trans x4) (((k1.trans k2).trans k3).trans k4).kq E4
def g9 (k:Nat) (caps:List Nat) (st:En):En:=List.replicate k Sl.e++caps.map fun i=>(st[i]?).getD .e
def m9 (k:Nat) (s:En):En:=List.replicate k Sl.e++s.drop k
def wb:List Nat->En->En->En
 | i::r,s::sb,st=>wb r sb (st.set i s)
 | _,_,st=>st
def gJ (fg:FG) (fc:FT) (fe:FE) (k:Nat):List D->En->Option (List D×En)
 | [],sb=>some ([],sb)
 | x::r,sb=>(fg x sb).bind fun s1=>(fc s1).bind fun c=>if c.1=true then(fe c.2).bind fun y=>(esc y.1 y.2).bind fun w=>(gJ fg fc fe k r (m9 k w.2)).bind fun z=>some (w.1::z.1,z.2)
  else gJ fg fc fe k r (m9 k c.2)
def i9 (caps:List Nat) (n:Nat):Bool:=decide caps.Nodup&&caps.all fun i=>decide (i<n)
def cY (k:Nat) (caps:List Nat) (fi:FI) (fg:FG) (fc:FT) (fe:FE):FE:=fun st=>(fi st).bind fun x=>if (i9 caps x.2.length&&decide (x.1.length<=1000000))=true then(gJ fg fc fe k x.1 (g9 k caps x.2)).bind fun y=>some (.f (.lst y.1),wb caps (y.2.drop k) x.2) else none
theorem vz:∀(caps:List Nat) (sb st:En),(wb caps sb st).length=st.length
 | [],_,_=>by simp[wb]
 | _::_,[],_=>by simp[wb]
 | i::r,s::sb,st=>by rw[wb,vz r sb];simp
theorem pe:∀(caps:List Nat) (sb st:En) {i:Nat},i∉caps->(wb caps sb st)[i]?=st[i]?
 | [],_,_,_,_=>by simp[wb]
 | _::_,[],_,_,_=>by simp[wb]
 | j::r,s::sb,st,i,h=>by
  rw[wb,pe r sb _ (fun z=>h (Yb _ z))];exact aH fun z=>h (by rw[z];simp)
theorem zN:∀(caps:List Nat) (sb st:En) {j i:Nat},caps.Nodup->sb.length=caps.length->caps[j]?=some i->i<st.length->(wb caps sb st)[i]?=sb[j]?
 | [],_,_,_,_,_,_,h,_=>by simp at h
 | _::_,[],_,_,_,_,h,_,_=>by simp at h
 | c::r,s::sb,st,0,i,nd,hl,h,hi=>by
  have e:c=i:=by simpa using h
  subst e;rw[wb,pe r sb _ (Zj.mp nd).1];rw[Zn,Af rfl,Af hi];rfl
 | c::r,s::sb,st,j+1,i,nd,hl,h,hi=>by
  rw[wb,zN r sb _ (j:=j) (Zj.mp nd).2 (by simpa using hl) (by simpa using h) (by simpa using hi)];rfl
theorem wQ (h:caps[j]?=some i):(g9 k caps st)[k+j]?=some ((st[i]?).getD .e):=by grind [g9]
theorem mn {s:Sl} (h:(g9 k caps st)[i]?=some s) (n:s.get≠none):∃j i',i=k+j/\caps[j]?=some i'/\st[i']?=some s:=by
 unfold g9 at h;by_cases hi:i<k
 ·rw[Wj (by simpa using hi),Xk,Af hi]at h
  cases h;exact absurd rfl n
 ·rw[Wf (by simpa using hi),Vi,Zg]at h
  refine⟨i-k,?_⟩;obtain⟨i',e1,e2⟩:=Zh.mp h;refine⟨i',by lia,e1,?_⟩
  cases q:st[i']? with
  | none=>rw[q]at e2;subst e2;exact absurd rfl n
  | some t=>rw[q]at e2;subst e2;rfl
theorem lA (h:caps[j]?=some i):(jv k caps σ)[k+j]?=some ((σ[i]?).getD none):=by grind [jv]
theorem jK {s:Sl} (h:s.ow=some d):s.get≠none:=by cases s<;>first|(cases h;done)|simp[Sl.get]
theorem zO {l:List Nat} {j j' i:Nat} (nd:l.Nodup) (h:l[j]?=some i) (h':l[j']?=some i):j=j':=by
 obtain⟨h1,h2⟩:=Xd.mp h;obtain⟨h3,h4⟩:=Xd.mp h';exact(List.getElem_inj nd).mp (h2.trans h4.symm)
def Ob (caps:List Nat) (st:En) (σ:St):AS:=fun p=>∃i∈caps,∃s d,st[i]?=some s/\s.ow=some d/\σ[i]?=some (some (.ref p))
def Zb (caps:List Nat) (st:En) (σ:St) (O Z:AS):AS:=fun p=>Z p∨(O p/\¬ Ob caps st σ p)
theorem Ob.o (E:ER K st σ H O Z) (h:Ob caps st σ q):O q:=by
 obtain⟨i,_,s,d,h1,h2,h3⟩:=h;obtain⟨p,g1,g2,_⟩:=E.own i s d h1 h2;rw[h3]at g1;cases g1;exact g2
theorem zP {k:Nat} {caps:List Nat} (E:ER K st σ H O Z) (nd:caps.Nodup):ER K (g9 k caps st) (jv k caps σ) H (Ob caps st σ) (Zb caps st σ O Z):=by
 have up:∀b,U (Ob caps st σ) (Zb caps st σ O Z) b->U O Z b:=fun b z=>z.elim (fun y=>.inl (Ob.o E y)) fun y=>y.elim .inr fun w=>.inl w.1;refine⟨by simp[g9,jv],fun i d h=>?_,fun i s d h1 h2=>?_,fun i j s t d d' p h1 h2 h3 h4 h5 h6=>?_,fun p h z=>?_,fun p h=>E.liv p (up p h)⟩
 ·obtain⟨j,i',rfl,hc,hs⟩:=mn h (by simp[Sl.get])
  obtain⟨v,g1,g2⟩:=E.val i' d hs;exact⟨v,by rw[lA hc,g1];rfl,g2.less up⟩
 ·obtain⟨j,i',rfl,hc,hs⟩:=mn h1 (jK h2);obtain⟨p,g1,g2,g3⟩:=E.own i' s d hs h2;exact⟨p,by rw[lA hc,g1];rfl,⟨i',Yg hc,s,d,hs,h2,g1⟩,g3.go rfl (fun _ _ e _=>e) fun b z=>.inl (up b z)⟩
 ·obtain⟨j1,i1,rfl,c1,s1⟩:=mn h1 (jK h2);obtain⟨j2,i2,rfl,c2,s2⟩:=mn h3 (jK h4);obtain⟨p1,g1,_⟩:=E.own i1 s d s1 h2;obtain⟨p2,g2,_⟩:=E.own i2 t d' s2 h4;rw[lA c1,g1]at h5;rw[lA c2,g2]at h6;have e1:p1=p:=by simpa using h5
  have e2:p2=p:=by simpa using h6
  subst e1;subst e2;have e:=E.uni i1 i2 s t d d' _ s1 h2 s2 h4 g1 g2;subst e;rw[zO nd c1 c2]
 ·rcases z with z|z
  ·exact E.dis p (Ob.o E h) z
  ·exact z.2 h
theorem r9 {τ τ':St} (E:ER K st τ H O Z) (hl:τ'.length=τ.length) (hk:k<=st.length) (h:∀j,k<=j->τ'[j]?=τ[j]?):ER K (m9 k st) τ' H O Z:=by
 have at_:∀(i:Nat) s,(m9 k st)[i]?=some s->s.get≠none->k<=i/\st[i]?=some s:=fun i s e n=>by
  unfold m9 at e;by_cases hi:i<k
  ·rw[Wj (by simpa using hi),Xk,Af hi]at e
   cases e;exact absurd rfl n
  ·rw[Wf (by simpa using hi),Vi,Yf]at e
   have:k+(i-k)=i:=by lia
   rw[this]at e;exact⟨by lia,e⟩
 refine⟨?_,fun i d e=>?_,fun i s d e1 e2=>?_,fun i j s t d d' p e1 e2 e3 e4 e5 e6=>?_,E.dis,E.liv⟩
 ·rw[hl,← E.len];simp[m9];lia
 ·obtain⟨hk,e⟩:=at_ i _ e (by simp[Sl.get])
  obtain⟨v,g1,g2⟩:=E.val i d e;exact⟨v,by rw[h i hk];exact g1,g2⟩
 ·obtain⟨hk,e⟩:=at_ i _ e1 (jK e2);obtain⟨p,g1,g2⟩:=E.own i s d e e2;exact⟨p,by rw[h i hk];exact g1,g2⟩
 ·obtain⟨hk1,e1⟩:=at_ i _ e1 (jK e2);obtain⟨hk2,e3⟩:=at_ j _ e3 (jK e4);rw[h i hk1]at e5;rw[h j hk2]at e6;exact E.uni i j s t d d' p e1 e2 e3 e4 e5 e6
def Oo (caps:List Nat) (st:En) (σ:St) (O Oi:AS):AS:=fun p=>Oi p∨(O p/\¬ Ob caps st σ p)
theorem se (E:ER K st σ H O Z) (x:Ext (Ob caps st σ) H Oi H'):Ext O H (Oo caps st σ O Oi) H' :=
 ⟨fun b o e n=>x.kp b o e fun z=>n (Ob.o E z),fun b z=>z.elim (fun y=>(x.nw b y).elim (fun w=>.inl (Ob.o E w)) .inr) fun y=>.inl y.1,x.al,x.lv⟩
theorem wR {caps:List Nat} {sb:En} (E:ER K st σ H O Z) (nd:caps.Nodup) (lt:∀i∈caps,i<st.length) (hl:sb.length=k+caps.length) (x:Ext (Ob caps st σ) H Oi H') (B:ER K sb (jv k caps σ) H' Oi (Zb caps st σ O Z)) :
  ER K (wb caps (sb.drop k) st) σ H' (Oo caps st σ O Oi) Z:=by
 have dl:(sb.drop k).length=caps.length:=by rw[Xf];lia
 have cap:∀(j i:Nat),caps[j]?=some i->(wb caps (sb.drop k) st)[i]?=sb[k+j]?:=fun j i h=>by
  rw[zN caps _ st nd dl h (lt i (Yg h)),Yf]
 have out:∀i,i∉caps->(wb caps (sb.drop k) st)[i]?=st[i]?:=fun i h=>pe caps _ st h;have same:∀b,U (Oo caps st σ O Oi) Z b->U Oi (Zb caps st σ O Z) b:=fun b z=>by
  rcases z with(z|z)|z
  ·exact .inl z
  ·exact .inr (.inr z)
  ·exact .inr (.inl z)
 have kp:∀b o,H b=some o->¬ U O Z b->H' b=some o:=fun b o e n=>x.kp b o e fun z=>n (.inl (Ob.o E z));have nn:∀b,U (Oo caps st σ O Oi) Z b->U O Z b∨H b=none:=fun b z=>by
  rcases z with z|z
  ·exact((se E x).nw b z).elim (fun y=>.inl (.inl y)) .inr
  ·exact .inl (.inr z)
 have nob:∀(i:Nat) s d p,i∉caps->st[i]?=some s->s.ow=some d->σ[i]?=some (some (.ref p))->¬ Ob caps st σ p:=fun i s d p hn h1 h2 h3 z=>by
  obtain⟨i0,hm,s0,d0,g1,g2,g3⟩:=z;have:=E.uni i i0 s s0 d d0 p h1 h2 g1 g2 h3 g3;subst this;exact hn hm
 have bget:∀{j i:Nat} {v:V},caps[j]?=some i->(jv k caps σ)[k+j]?=some (some v)->σ[i]?=some (some v):=fun {j i v} hc hb=>by
  rw[lA hc]at hb;have hb':=Option.some.inj hb;cases q:σ[i]? with
  | none=>rw[q]at hb';cases hb'
  | some w=>rw[q]at hb';have:w=some v:=hb';rw[this]
 have own:∀(i:Nat) s d,(wb caps (sb.drop k) st)[i]?=some s->s.ow=some d->(∃j,caps[j]?=some i/\sb[k+j]?=some s)∨(i∉caps/\st[i]?=some s):=fun i s d h1 _=>by
  by_cases hc:i∈caps
  ·obtain⟨j,hj⟩:=Xl hc;rw[cap j i hj]at h1;exact .inl ⟨j,hj,h1⟩
  ·rw[out i hc]at h1;exact .inr ⟨hc,h1⟩
 refine⟨by rw[vz];exact E.len,fun i d h=>?_,fun i s d h1 h2=>?_,fun i j s t d d' p h1 h2 h3 h4 h5 h6=>?_,fun p h=>?_,fun p h=>?_⟩
 ·by_cases hc:i∈caps
  ·obtain⟨j,hj⟩:=Xl hc;rw[cap j i hj]at h;obtain⟨v,g1,g2⟩:=B.val _ d h;exact⟨v,bget hj g1,g2.less same⟩
  ·rw[out i hc]at h;obtain⟨v,g1,g2⟩:=E.val i d h;exact⟨v,g1,g2.go kp nn⟩
 ·rcases own i s d h1 h2 with⟨j,hj,hs⟩|⟨hc,hs⟩
  ·obtain⟨p,g1,g2,g3⟩:=B.own _ s d hs h2;exact⟨p,bget hj g1,.inl g2,g3.go rfl (fun _ _ e _=>e) fun b z=>.inl (same b z)⟩
  ·obtain⟨p,g1,g2,g3⟩:=E.own i s d hs h2;have nb:=nob i s d p hc hs h2 g1;refine⟨p,g1,.inr ⟨g2,nb⟩,g3.go ?_ kp nn⟩;cases q:H p with
   | none=>exact absurd q g3.live
   | some o=>exact x.kp p o q nb
 ·rcases own i s d h1 h2 with⟨j1,c1,s1⟩|⟨c1,s1⟩<;>rcases own j t d' h3 h4 with⟨j2,c2,s2⟩|⟨c2,s2⟩
  ·have e:=B.uni _ _ s t d d' p s1 h2 s2 h4 (by rw[lA c1,h5];rfl) (by rw[lA c2,h6];rfl)
   have e':j1=j2:=by lia
   subst e';rw[c1]at c2;exact Option.some.inj c2
  ·exfalso
   obtain⟨q,g1,g2,_⟩:=B.own _ s d s1 h2;have:=bget c1 g1;rw[h5]at this;cases this;have nb:=nob j t d' p c2 s2 h4 h6;obtain⟨q2,k1,_,k3⟩:=E.own j t d' s2 h4;rw[h6]at k1;cases k1;exact(x.nw p g2).elim nb k3.live
  ·exfalso
   obtain⟨q,g1,g2,_⟩:=B.own _ t d' s2 h4;have:=bget c2 g1;rw[h6]at this;cases this;have nb:=nob i s d p c1 s1 h2 h5;obtain⟨q2,k1,_,k3⟩:=E.own i s d s1 h2;rw[h5]at k1;cases k1;exact(x.nw p g2).elim nb k3.live
  ·exact E.uni i j s t d d' p s1 h2 s2 h4 h5 h6
 ·rcases h with h|h
  ·exact fun z=>B.dis p h (.inl z)
  ·exact E.dis p h.1
 ·rcases h with(h|h)|h
  ·exact B.liv p (.inl h)
  ·exact x.lv p (E.liv p (.inl h.1))
  ·exact x.lv p (E.liv p (.inr h))
theorem sh {a b:En} (h0:∀(i:Nat) s,a[i]?=some s->i<k->s=.e) (h:Kp a b) (hk:k<=b.length):Kp a (m9 k b):=by
 have lk:(m9 k b).length=b.length:=by simp[m9];lia
 have at_:∀i,k<=i->(m9 k b)[i]?=b[i]?:=fun i hi=>by
  unfold m9;rw[Wf (by simpa using hi),Vi,Yf]
  congr 1;lia
 refine⟨lk.trans h.len,fun i s e g=>?_,fun i d e=>?_⟩
 ·by_cases hi:i<k
  ·have:=h0 i s e hi;subst this;exact absurd rfl g
  ·obtain⟨s',e',g'⟩:=h.has i s e g;exact⟨s',by rw[at_ i (by lia)];exact e',g'⟩
 ·by_cases hi:i<k
  ·have:=h0 i _ e hi;cases this
  ·obtain⟨d',e'⟩:=h.io i d e;exact⟨d',by rw[at_ i (by lia)];exact e'⟩
theorem JY {caps:List Nat} {sb:En} (nd:caps.Nodup) (lt:∀i∈caps,i<st.length) (hl:sb.length=k+caps.length) (h:Kp (g9 k caps st) sb):Kp st (wb caps (sb.drop k) st):=by
 have dl:(sb.drop k).length=caps.length:=by rw[Xf];lia
 have cap:∀(j i:Nat),caps[j]?=some i->(wb caps (sb.drop k) st)[i]?=sb[k+j]?:=fun j i h=>by
  rw[zN caps _ st nd dl h (lt i (Yg h)),Yf]
 refine⟨vz _ _ _,fun i s e g=>?_,fun i d e=>?_⟩
 ·by_cases hc:i∈caps
  ·obtain⟨j,hj⟩:=Xl hc;rw[cap j i hj];exact h.has (k+j) s (by rw[wQ hj,e];rfl) g
  ·exact⟨s,by rw[pe _ _ _ hc];exact e,g⟩
 ·by_cases hc:i∈caps
  ·obtain⟨j,hj⟩:=Xl hc;rw[cap j i hj];exact h.io (k+j) d (by rw[wQ hj,e];rfl)
  ·exact⟨d,by rw[pe _ _ _ hc];exact e⟩
theorem jL (i:Nat) (s:Sl) (h:(g9 k caps st)[i]?=some s) (hi:i<k):s=.e:=by grind [Sl,g9]
def Mv (K:PySem.W.Frag) (Z:AS) (caps:List Nat) (st:En) (σ:St) (J:It) (items:List D) (H:Hp) (O:AS):Prop:=∀H' Oi,Ext (Ob caps st σ) H Oi H'->(∀p,U (Oo caps st σ O Oi) Z p->Lv H' p)->(∀i,items.length<=i->J.stop i H')/\∀(i:Nat) d,items[i]?=some d->J.go i H'/\∀x H'',J.yld i H' x H''->Same H' H''/\DA K (U (Oo caps st σ O Oi) Z) H'' x d
def HE (K:PySem.W.Frag) (caps:List Nat) (wi:TI) (fi:FI):Prop:=∀(st:En) (σ:St) (H:Hp) (O Z:AS) (R:It->Hp->Prop),ER K st σ H O Z->∀items st',fi st=some (items,st') ->
 (∀J H' O',Ext O H O' H'->Kp st st'->ER K st' σ H' O' Z->Mv K Z caps st' σ J items H' O'->R J H')->wi σ H R
theorem RdI.ic (h:RdI K wi fi):HE K caps wi fi:=fun st σ H O Z R E items st' e q =>
 h st σ H O Z R E items st' e fun J H1 O1 x1 k1 E1 it=>q J H1 O1 x1 k1 E1 fun H' Oi x2 lv=>it H' _ (se E1 x2) lv
theorem ud (hi:HE K caps wi fi) (hg:DS K g fg tg) (ht:∀j∈tg,j<k) (hc:qN K tc fc) (he:d7 K te fe) :
  d7 K (nS k caps wi g tc te) (cY k caps fi fg fc fe):=by
 intro st σ H O Z Q E r st' h q;refine cZ h fun items st1 e1 h=>?_;by_cases hok:(i9 caps st1.length&&decide (items.length<=1000000))=true
 rotate_left
 ·simp only[Ah hok]at h;cases h
 simp only[Af hok]at h;refine cZ h fun total sf e2 h=>?_;cases h;have hok1:caps.Nodup/\(∀i∈caps,i<st1.length)/\items.length<=1000000:=by
  rw[Qe,decide_eq_true_eq]at hok;unfold i9 at hok;rw[Qe,decide_eq_true_eq,Qf]at hok;exact⟨hok.1.1,fun i hi=>An (hok.1.2 i hi),hok.2⟩
 obtain⟨nd,lt,hfew⟩:=hok1;refine hi st σ H O Z _ E items st1 e1 fun J H1 O1 x1 k1 E1 it=>?_;have bl:(jv k caps σ).length=k+caps.length:=by simp[jv]
 have el:(g9 k caps st1).length=k+caps.length:=by simp[g9]
 refine⟨items.length,fun i xs H'=>∃sb Oi ds ds2,Ext (Ob caps st1 σ) H1 Oi H'/\ER K sb (jv k caps σ) H' Oi (Zb caps st1 σ O1 Z)/\El K (U Oi (Zb caps st1 σ O1 Z)) H' xs ds/\gJ fg fc fe k (items.drop i) sb=some (ds2,sf)/\ds++ds2=total/\Kp (g9 k caps st1) sb/\xs.length<=i,
  ⟨g9 k caps st1,Ob caps st1 σ,[],total,Ext.refl _ _,zP E1 nd,El.nil,e2,rfl,Kp.refl _,Wb _⟩,?_,?_⟩
 ·rintro xs H' ⟨sb,Oi,ds,ds2,x2,B,exs,e3,ed,kb,_⟩;rw[Bg (Wb _)]at e3;obtain⟨rfl,rfl⟩:([]:List D)=ds2/\sb=sf:=by
   have:=Option.some.inj e3;exact⟨congrArg Prod.fst this,congrArg Prod.snd this⟩
  rw[Wc]at ed;subst ed;obtain⟨stop,_⟩:=it H' Oi x2 (wR E1 nd lt (kb.len.trans el) x2 B).liv;refine⟨stop _ (Wb _),fun p hp=>?_⟩;have sl:sb.length=k+caps.length:=kb.len.trans el;have Eo:=wR E1 nd lt sl x2 B;have ko:=JY nd lt sl kb;have el2:El K (U (Oo caps st1 σ O1 Oi) Z) H' xs ds:=exs.less fun b z=>by
   rcases z with(z|z)|z
   ·exact .inl z
   ·exact .inr (.inr z)
   ·exact .inr (.inl z)
  obtain⟨E3,rv⟩:=Eo.new hp el2;have xx:=x1.trans (se E1 x2);exact q _ _ _ (xx.trans (Same.ext (bS hp _))) (k1.trans ko) E3 rv fun p' e=>by cases e;exact xx.dead hp
 ·rintro i xs H' hlt ⟨sb,Oi,ds,ds2,x2,B,exs,e3,ed,kb,hxl⟩;have hd:items.drop i=items[i]::items.drop (i+1):=Yh hlt;rw[hd]at e3;refine b9 e3 fun s1 e4 e3=>?_;refine cZ e3 fun c s2 e5 e3=>?_;obtain⟨_,go⟩:=it H' Oi x2 (wR E1 nd lt (kb.len.trans el) x2 B).liv;obtain⟨g1,g2⟩:=go i _ (Qa hlt);refine⟨g1,A1 hxl (Vb hlt (few hfew)),fun x H'' hy=>?_⟩;obtain⟨sm,da⟩:=g2 x H'' hy;have xm:Ext Oi H' Oi H'':=Same.ext sm;have da':DA K (U Oi (Zb caps st1 σ O1 Z)) H'' x items[i]:=da.less fun b z=>by
   rcases z with z|z|z
   ·exact .inl (.inl z)
   ·exact .inr z
   ·exact .inl (.inr z)
  refine hg sb _ H'' Oi _ x _ _ (B.same sm) da' s1 e4 fun τ kt kq3 E4=>?_;have sl:sb.length=k+caps.length:=kb.len.trans el;have tl:τ.length=(jv k caps σ).length:=by rw[← E4.len,kq3.len,sl,bl]
  have tk:∀j,k<=j->(jv k caps σ)[j]?=τ[j]?:=fun j hj=>((kt j fun z=>absurd (ht j z) (by lia)).1).symm
  have drop:τ.drop k=(jv k caps σ).drop k:=by
   refine BJ fun j=>?_;rw[Yf,Yf];exact(tk _ (by lia)).symm
  have kp1:Kp (g9 k caps st1) s1:=by
   refine⟨kq3.len.trans kb.len,fun j s e g=>?_,fun j d e=>?_⟩
   ·by_cases hj:j<k
    ·have:=jL j s e hj;subst this;exact absurd rfl g
    ·obtain⟨s',e',g'⟩:=kb.has j s e g;exact⟨s',by rw[(kt j fun z=>absurd (ht j z) (by lia)).2];exact e',g'⟩
   ·by_cases hj:j<k
    ·have:=jL j _ e hj;cases this
    ·obtain⟨d',e'⟩:=kb.io j d e;exact⟨d',by rw[(kt j fun z=>absurd (ht j z) (by lia)).2];exact e'⟩
  refine hc s1 τ H'' Oi _ _ E4 c s2 e5 fun H3 O3 x3 k3 E5=>?_;have kp2:=kp1.trans k3;cases c with
  | false =>
   simp only[Xe,if_false]at e3 ⊢;have hs2:k<=s2.length:=by rw[kp2.len,el];lia
   exact⟨drop,m9 k s2,O3,ds,ds2,(x2.trans xm).trans x3,r9 E5 tl.symm hs2 tk,exs.ext (xm.trans x3),e3,ed,sh jL kp2 hs2,by lia⟩
  | true =>
   rw[Af rfl]at e3 ⊢;refine cZ e3 fun ry s3 e6 e3=>?_;refine cZ e3 fun dy s4 e7 e3=>?_;refine cZ e3 fun ds3 sf' e8 e3=>?_;cases e3;refine he s2 τ H3 O3 _ _ E5 ry s3 e6 fun y H4 O4 x4 k4 E6 rv w=>?_;obtain⟨O5,x5,k5,E7,day⟩:=rv.esc E6 e7;have kp3:=(kp2.trans k4).trans k5;have hs4:k<=s4.length:=by rw[kp3.len,el];lia
   refine⟨drop,m9 k s4,O5,ds++[dy],ds3,(((x2.trans xm).trans x3).trans x4).trans x5,r9 E7 tl.symm hs4 tk,(exs.ext (((xm.trans x3).trans x4).trans x5)).app (El.one day),e8,by rw[Wd];exact ed,sh jL kp3 hs4,by simp;lia⟩
theorem fH (hi:RdI K wi fi) (hg:DS K g fg tg) (ht:∀j∈tg,j<k) (hc:qN K tc fc) (he:d7 K te fe) :
  d7 K (nS k caps wi g tc te) (cY k caps fi fg fc fe):=ud hi.ic hg ht hc he
def iK (n:Nat) (ds:List D):En:=ds.map Sl.v++List.replicate (n-ds.length) Sl.e
def HF (st:En):Rs->Option Rz
 | .d x=>some (x,false)
 | .f x=>some (x,true)
 | .s i=>match st[i]? with
  | some (.o x)=>some (x,true)
  | some (.v x)=>some (x,false)
  | _=>none
def fin:Ot->Option Rz
 | .nx _=>some (.non,false)
 | .rt r st=>HF st r
 | _=>none
def cG (F:FS) (n m:Nat):List D->Option Rz:=fun ds=>if ds.length=m then(F (iK n ds)).bind fin else none
theorem ue {N:List Str} (el:El K Z H vs ds) (lv:∀p,Z p->Lv H p):ER K (iK N.length ds) (L2.start N vs) H (fun _=>False) Z:=by
 have gv:∀(i:Nat) s,(iK N.length ds)[i]?=some s->s.get≠none->∃d,s=.v d/\ds[i]?=some d:=fun i s e n=>by
  unfold iK at e;by_cases hi:i<ds.length
  ·rw[Wj (by simpa using hi),Zg]at e
   obtain⟨d,h1,h2⟩:=Zh.mp e;exact⟨d,h2.symm,h1⟩
  ·rw[Wf (by simpa using hi),Xk]at e
   by_cases hz:i-(ds.map Sl.v).length<N.length-ds.length
   ·rw[Af hz]at e;cases e;exact absurd rfl n
   ·rw[Ah hz]at e;cases e
 have no:∀(i:Nat) s d,(iK N.length ds)[i]?=some s->s.ow=some d->False:=fun i s d e h=>by
  obtain⟨x,rfl,_⟩:=gv i s e (jK h);cases h
 refine⟨by simp[iK,L2.start,el.1],fun i d e=>?_,fun i s d e h=>(no i s d e h).elim,fun i j s t d d' p e h=>(no i s d e h).elim,fun p h=>h.elim,fun p h=>h.elim (fun z=>z.elim) (lv p)⟩
 obtain⟨x,h1,h2⟩:=gv i _ e (by simp[Sl.get])
 cases h1;obtain⟨v,g1,g2⟩:=el.at h2;refine⟨v,?_,g2.less fun b z=>z.elim (fun y=>y.elim) fun y=>y⟩;unfold L2.start;have hi:=(Xd.mp g1).1;rw[Wj (by simpa using hi),Zg,g1];rfl
theorem wS {N:List Str} (h:nV K ts F) (sp:oC K (cG F N.length m) vs H Q XE):ts { nx:=fun _ H'=>Q .non H',rt:=Q } (L2.start N vs) H:=by
 obtain⟨Z,ds,z,el,lv,e,q⟩:=sp;have hm:ds.length=m:=by
  by_cases hm:ds.length=m
  ·exact hm
  ·simp only[cG,Ah hm]at e;cases e
 simp only[cG,Af hm]at e;refine b9 e fun o e1 e2=>?_;have same:∀{O':AS} {H':Hp},Ext (fun _=>False) H O' H'->Same H H':=fun {O' H'} x b o e=>x.kp b o e fun z=>z;refine h _ _ H _ Z _ (ue el lv) o e1 ?_;cases o with
 | nx s =>
  cases e2;exact fun σ' H' O' x _ _=>q .non H' (same x) .non
 | bk s=>cases e2
 | ct s=>cases e2
 | rt r s =>
  intro v σ' H' O' x k E rv w;have sub:∀b,Z b->U O' Z b:=fun b z=>.inr z;cases r with
  | d y=>cases e2;exact q v H' (same x) (DA.less (show DA K (U O' Z) H' v y from rv) sub)
  | f y =>
   cases e2;obtain⟨p,rfl,h1,h2,h3,_⟩:=rv;exact q _ H' (same x) ⟨p,rfl,w p rfl,h3.go rfl (fun _ _ e _=>e) fun b z=>.inl (z.elim .inl fun y=>.inr (.inr y))⟩
  | s i =>
   obtain⟨h1,t,h2,h3⟩:=rv
   have e2':(match s[i]? with
    | some (.o x)=>some (x,true)
    | some (.v x)=>some (x,false)
    | _=>none)=some z:=e2
   rw[h2]at e2';cases t with
   | e=>cases e2'
   | io y=>cases e2'
   | v y =>
    cases e2';obtain⟨u,g1,g2⟩:=E.val i y h2;rw[h1]at g1;cases g1;exact q v H' (same x) (g2.less sub)
   | o y =>
    cases e2';obtain⟨p,g1,g2,g3⟩:=E.own i _ y h2 rfl;rw[h1]at g1;cases g1;refine q _ H' (same x) ⟨p,rfl,(x.nw p g2).elim (fun z=>z.elim) (fun z=>z),g3.go rfl (fun _ _ e _=>e) fun b z=>.inl (z.elim (fun y=>.inl (by rw[y];exact g2)) fun y=>.inr y)⟩
def iL (n:Nat) (x:D) (ds:List D):En:=Sl.io x::(ds.map Sl.v++List.replicate (n-(ds.length+1)) Sl.e)
def yp (z:Option Rz) (st:En):Option (Rz×D):=match st[0]? with
 | some (Sl.io x)=>z.bind fun y=>some (y,x)
 | _=>none
def F7:Ot->Option (Rz×D)
 | .nx st=>yp (some (.non,false)) st
 | .rt r st=>yp (HF st r) st
 | _=>none
def df (F:FS) (n m:Nat):D->List D->Option (Rz×D):=fun x ds=>if ds.length+1=m then(F (iL n x ds)).bind F7 else none
theorem yq {N : List Str} (nz : ¬ Z f) (ho : OA K (ins f Z) H f x) (el : El K (ins f Z) H ws ds) (lv : ∀ p, Z p → Lv H p) : ER K (iL N.length x ds) (L2.start N (.ref f :: ws)) H (fun b => b = f) Z := by
  have gv : ∀ (i : Nat) s, (iL N.length x ds)[i]? = some s → s.get ≠ none → (i = 0 ∧ s = .io x) ∨ ∃ j d, i = j + 1 ∧ s = .v d ∧ ds[j]? = some d := fun i s e n => by
    cases i with
    | zero => left; exact ⟨rfl, by have : Sl.io x = s := by simpa [iL] using e
                                   exact this.symm⟩
    | succ j =>
      right;have e : (ds.map Sl.v ++ List.replicate (N.length - (ds.length + 1)) Sl.e)[j]? = some s := by simpa [iL] using e
      by_cases hi : j < ds.length
      · rw [A3 (by simpa using hi), BI] at e
        obtain ⟨d, h1, h2⟩ := Option.map_eq_some_iff.mp e;exact ⟨j, d, rfl, h2.symm, h1⟩
      · rw [BR (by simpa using hi), BV] at e
        by_cases hz : j - (ds.map Sl.v).length < N.length - (ds.length + 1)
        · rw [Af hz] at e; cases e; exact absurd rfl n
        · rw [Ah hz] at e; cases e
  have s0 : (L2.start N (.ref f :: ws))[0]? = some (some (.ref f)) := by simp [L2.start]
  have own0 : ∀ (i : Nat) s d, (iL N.length x ds)[i]? = some s → s.ow = some d → i = 0 ∧ d = x := fun i s d e h => by
    rcases gv i s e (jK h) with ⟨h1, rfl⟩ | ⟨j, d', _, rfl, _⟩
    · cases h; exact ⟨h1, rfl⟩
    · cases h
  refine ⟨by simp [iL, L2.start, el.1], fun i d e => ?_, fun i s d e h => ?_, fun i j s t d d' p e h e' h' _ _ => ?_, fun p h => by rw [h]; exact nz, fun p h => ?_⟩
  · rcases gv i _ e (by simp [Sl.get]) with ⟨_, h⟩ | ⟨j, d', rfl, h, h2⟩
    · cases h
    · cases h
      obtain ⟨v, g1, g2⟩ := el.at h2;refine ⟨v, ?_, g2⟩;have hi := (List.getElem?_eq_some_iff.mp g1).1;unfold L2.start;rw [A3 (by simp; lia), BI]
      simp [g1]
  · obtain ⟨rfl, rfl⟩ := own0 i s d e h
    exact ⟨f, s0, rfl, ho⟩
  · rw [(own0 i s d e h).1, (own0 j t d' e' h').1]
  · rcases h with h | h
    · rw [h]; exact ho.lv
    · exact lv p h
theorem qO {N:List Str} (h:nV K ts F) (sp:jt K (df F N.length m) vs H Q XE):ts { nx:=fun _ H'=>Q .non H',rt:=Q } (L2.start N vs) H:=by
 obtain⟨f,ws,Z,x,ds,z,x',rfl,nz,ho,el,lv,e,q⟩:=sp;have hm:ds.length+1=m:=by
  by_cases hm:ds.length+1=m
  ·exact hm
  ·simp only[df,Ah hm]at e;cases e
 simp only[df,Af hm]at e;refine b9 e fun o e1 e2=>?_;have but:∀{O':AS} {H':Hp},Ext (fun b=>b=f) H O' H'->∀b o,H b=some o->b≠f->H' b=some o:=fun {O' H'} x b o e n=>x.kp b o e n;have i0:(iL N.length x ds)[0]?=some (.io x):=rfl;have s0:(L2.start N (.ref f::ws))[0]?=some (some (.ref f)):=by simp[L2.start]
 have f0:∀{s:En} {σ':St} {H':Hp} {O':AS} {y:D},Kq (iL N.length x ds) (L2.start N (.ref f::ws)) s σ'->ER K s σ' H' O' Z->s[0]?=some (.io y)->O' f/\OA K (U O' Z) H' f y:=fun {s σ' H' O' y} k E e=>by
  obtain⟨g1,_⟩:=k.io 0 x i0;obtain⟨p,h1,h2,h3⟩:=E.own 0 _ y e rfl;rw[g1,s0]at h1;cases h1;exact⟨h2,h3⟩
 refine h _ _ H _ Z _ (yq nz ho el lv) o e1 ?_;cases o with
 | bk s=>cases e2
 | ct s=>cases e2
 | nx s =>
  intro σ' H' O' x2 k E;have e3:yp (some (.non,false)) s=some (z,x'):=e2;unfold yp at e3;split at e3
  ·rename_i y ey
   cases e3;obtain⟨h1,h2⟩:=f0 k E ey;exact q .non H' (but x2) ⟨.non,h2.go rfl (fun _ _ e _=>e) fun b z=>.inl (z.elim (fun w=>.inl (by rw[w];exact h1)) .inr)⟩
  ·cases e3
 | rt r s =>
  intro v σ' H' O' x2 k E rv w;have e3:yp (HF s r) s=some (z,x'):=e2;unfold yp at e3;split at e3
  ·rename_i y ey
   refine b9 e3 fun z' e4 e3=>?_;cases e3;obtain⟨h1,h2⟩:=f0 k E ey;have sub:∀b,ins f Z b->U O' Z b:=fun b z=>z.elim (fun w=>.inl (by rw[w];exact h1)) .inr
   cases r with
   | d u=>cases e4;exact q v H' (but x2) ⟨DA.less (show DA K (U O' Z) H' v u from rv) sub,h2.go rfl (fun _ _ e _=>e) fun b z=>.inl (sub b z)⟩
   | f u =>
    cases e4;obtain⟨p,rfl,g1,g2,g3,E2⟩:=rv;obtain⟨h3,h4⟩:=f0 k E2 ey;exact q _ H' (but x2) ⟨p,rfl,w p rfl,g3.go rfl (fun _ _ e _=>e) (fun b z=>.inl (z.elim .inl fun y=>.inr (sub b y))),h4.go rfl (fun _ _ e _=>e) fun b z=>.inl (z.elim (fun y=>.inl (.inl y)) fun y=>(sub b y).elim (fun a=>.inl (.inr a)) .inr)⟩
   | s i =>
    obtain⟨g1,t,g2,g3⟩:=rv
    have e5:(match s[i]? with
     | some (.o x)=>some (x,true)
     | some (.v x)=>some (x,false)
     | _=>none)=some z:=e4
    rw[g2]at e5;cases t with
    | e=>cases e5
    | io u=>cases e5
    | v u =>
     cases e5;obtain⟨u',j1,j2⟩:=E.val i u g2;rw[g1]at j1;cases j1;exact q v H' (but x2) ⟨j2.less sub,h2.go rfl (fun _ _ e _=>e) fun b z=>.inl (sub b z)⟩
    | o u =>
     cases e5;obtain⟨p,j1,j2,j3⟩:=E.own i _ u g2 rfl;rw[g1]at j1;cases j1;have npf:p≠f:=fun z=>by
      subst z;obtain⟨p0,l1,_⟩:=E.own 0 _ _ ey rfl;obtain⟨l2,_⟩:=k.io 0 x i0;rw[l2,s0]at l1;cases l1;have:=E.uni i 0 _ _ u _ _ g2 rfl ey rfl g1 (by rw[l2,s0])
      subst this;rw[ey]at g2;cases g2
     have hp:H p=none:=(x2.nw p j2).elim (fun z=>absurd z npf) (fun z=>z);have sub2:∀b,ins p (ins f Z) b->U O' Z b:=fun b z=>z.elim (fun y=>.inl (by rw[y];exact j2)) (sub b)
     exact q _ H' (but x2) ⟨p,rfl,hp,j3.go rfl (fun _ _ e _=>e) (fun b z=>.inl (sub2 b z)),h2.go rfl (fun _ _ e _=>e) fun b z=>.inl (sub2 b z)⟩
  ·cases e3
theorem DX (sp:oC K (cG F n m) vs H Q XE):vs.length=m:=by
 obtain⟨Z,ds,z,el,lv,e,q⟩:=sp;by_cases hm:ds.length=m
 ·exact el.1.trans hm
 ·simp only[cG,Ah hm]at e;cases e
theorem F8 (sp:jt K (df F n m) vs H Q XE):vs.length=m:=by
 obtain⟨f,ws,Z,x,ds,z,x',rfl,nz,ho,el,lv,e,q⟩:=sp;by_cases hm:ds.length+1=m
 ·have:=el.1;simp;lia
 ·simp only[df,Ah hm]at e;cases e
end
end VF
namespace VF
open PySem L2
section
variable {K:PySem.W.Frag} {Y Y':AS} {H H':Hp} {v:V} {d:D} {vs:List V} {ds:List D}
def ng (b b':D->D->Option Rz):D->D->Option Rz:=fun x y=>match b x y with
 | some z=>some z
 | none=>b' x y
theorem RdOp.or (h:RdOp K r b) (h':RdOp K r' b'):RdOp K (fun x y H Q=>r x y H Q∨r' x y H Q) (ng b b'):=by grind [RdOp,ng]
def Jq (b b':List D->Option Rz):List D->Option Rz:=fun x=>match b x with
 | some z=>some z
 | none=>b' x
theorem RdCB.or (h:RdCB K r b) (h':RdCB K r' b'):RdCB K (fun xs H Q=>r xs H Q∨r' xs H Q) (Jq b b'):=by grind [RdCB,Jq]
def HG (g:Int->Int->D):D->D->Option Rz
 | .int i,.int j=>some (g i j,false)
 | _,_=>none
theorem qP (h:∀Y H i j,DA K Y H (gV i j) (gD i j)):RdOp K (tU gV) (HG gD):=by
 intro Y H x y d1 d2 z Q lv b1 b2 e q;cases d1 with
 | int i =>
  cases d2 with
  | int j =>
   cases e;exact⟨i,j,b1,b2,q _ H (Same.refl H) (h Y H i j)⟩
  | _=>cases e
 | _=>cases e
def bI (C:Int->Int->Prop) [∀i j,Decidable (C i j)] (g:Int->Int->D):D->D->Option Rz
 | .int i,.int j=>if C i j then some (g i j,false) else none
 | _,_=>none
theorem DY [dc:∀i j,Decidable (C i j)] (h:∀Y H i j,DA K Y H (gV i j) (gD i j)):RdOp K (rI C gV) (bI C gD):=by
 intro Y H x y d1 d2 z Q lv b1 b2 e q;cases d1 with
 | int i =>
  cases d2 with
  | int j =>
   obtain⟨c,e⟩:=bo e;cases e;exact⟨i,j,b1,b2,c,q _ H (Same.refl H) (h Y H i j)⟩
  | _=>cases e
 | _=>cases e
instance (i j:Int):Decidable (CMul i j):=by unfold CMul;infer_instance
instance (i j:Int):Decidable (vk i j):=by unfold vk;infer_instance
instance (i j:Int):Decidable (zn i j):=by unfold zn;infer_instance
def uf:=HG fun i j=>.int (i+j)
def yr:=HG fun i j=>.int (i-j)
def wT:=bI CMul fun i j=>.int (i*j)
def vA:=bI vk fun i j=>.int (i / j)
def pf:=bI (fun _ j=>0<j) fun i j=>.int (i % j)
def JZ:=bI zn fun i j=>.int (i ^ j.toNat)
def J0:=HG fun i j=>.bl (decide (i<j))
def HH:=HG fun i j=>.bl (decide (i<=j))
def LQ:=HG fun i j=>.bl (decide (j<i))
def Mj:=HG fun i j=>.bl (decide (j<=i))
theorem ro_addI:RdOp K (tU fun i j=>.int (i+j)) uf:=qP fun _ _ _ _=>.int _
theorem vB:RdOp K (tU fun i j=>.int (i-j)) yr:=qP fun _ _ _ _=>.int _
theorem ro_mulI:RdOp K (rI CMul fun i j=>.int (i*j)) wT:=DY fun _ _ _ _=>.int _
theorem si:RdOp K (rI vk fun i j=>.int (i / j)) vA:=DY fun _ _ _ _=>.int _
theorem jM:RdOp K (rI (fun _ j=>0<j) fun i j=>.int (i % j)) pf:=DY fun _ _ _ _=>.int _
theorem HI:RdOp K (rI zn fun i j=>.int (i ^ j.toNat)) JZ:=DY fun _ _ _ _=>.int _
theorem ro_ltI:RdOp K (tU fun i j=>.bl (decide (i<j))) J0:=qP fun _ _ _ _=>.bl _
theorem F9:RdOp K (tU fun i j=>.bl (decide (i<=j))) HH:=qP fun _ _ _ _=>.bl _
theorem Ga:RdOp K (tU fun i j=>.bl (decide (j<i))) LQ:=qP fun _ _ _ _=>.bl _
theorem Ka:RdOp K (tU fun i j=>.bl (decide (j<=i))) Mj:=qP fun _ _ _ _=>.bl _
def qr:D->Option Rz
 | .int i=>some (.int (-i),false)
 | _=>none
theorem sj:JU K (rU fun i=>.int (-i)) qr:=by
 intro Y H x d1 z Q lv b1 e q;cases d1 with
 | int i=>cases e;exact⟨i,b1,q _ H (Same.refl H) (.int _)⟩
 | _=>cases e
def Jr:D->Option V
 | .non=>some .non
 | .bl b=>some (.bl b)
 | .int i=>some (.int i)
 | .str x=>some (.str x)
 | _=>none
theorem nh (h:BA K Y H v d) (e:Jr d=some w):v=w:=by
 cases d with
 | non=>cases e;exact h
 | bl b=>cases e;exact h
 | int i=>cases e;exact h
 | str x=>cases e;exact h
 | _=>cases e
theorem ug (e:Jr d=some w):kM w=true:=by
 cases d with
 | non=>cases e;rfl
 | bl b=>cases e;rfl
 | int i=>cases e;rfl
 | str x=>cases e;rfl
 | _=>cases e
def DZ (neg:Bool):D->D->Option Rz:=fun a b=>(Jr a).bind fun x=>(Jr b).bind fun y=>if G9 x y=true then some (.bl (if neg then !decide (x=y) else decide (x=y)),false) else none
theorem HJ:RdOp K JJ (DZ false):=by
 intro Y H x y d1 d2 z Q lv b1 b2 e q;refine b9 e fun x' e1 e=>?_;refine b9 e fun y' e2 e=>?_;obtain⟨c,e⟩:=bo e;cases e;obtain rfl:=nh b1 e1;obtain rfl:=nh b2 e2;exact⟨c,q _ H (Same.refl H) (.bl _)⟩
theorem ro_neS:RdOp K LM (DZ true):=by
 intro Y H x y d1 d2 z Q lv b1 b2 e q;refine b9 e fun x' e1 e=>?_;refine b9 e fun y' e2 e=>?_;obtain⟨c,e⟩:=bo e;cases e;obtain rfl:=nh b1 e1;obtain rfl:=nh b2 e2;exact⟨c,q _ H (Same.refl H) (.bl _)⟩
def D.isN:D->Bool
 | .non=>true
 | _=>false
theorem HK (h:BA K Y H v d):decide (v=.non)=d.isN:=by
 cases d with
 | non=>rw[show v=V.non from h];rfl
 | bl b=>rw[show v=V.bl b from h];rfl
 | int i=>rw[show v=V.int i from h];rfl
 | str x=>rw[show v=V.str x from h];rfl
 | ty x=>rw[show v=V.ty x from h];rfl
 | tup ds=>obtain⟨a,_,rfl,_⟩:=h;rfl
 | lst ds=>obtain⟨a,_,rfl,_⟩:=h;rfl
 | fl ds=>obtain⟨a,_,rfl,_⟩:=h;rfl
 | dk ds=>obtain⟨a,_,rfl,_⟩:=h;rfl
 | dt ds=>obtain⟨a,_,_,rfl,_⟩:=h;rfl
 | xc _ _ _=>obtain⟨a,rfl,_⟩:=h;rfl
def HL (neg:Bool):D->D->Option Rz
 | a,.non=>some (.bl (if neg then !a.isN else a.isN),false)
 | _,_=>none
theorem zQ:RdOp K (fun x y H Q=>y=.non/\Q (.bl (decide (x=.non))) H) (HL false):=by
 intro Y H x y d1 d2 z Q lv b1 b2 e q;cases d2 with
 | non =>
  cases e;refine⟨b2,?_⟩;rw[HK b1];exact q _ H (Same.refl H) (.bl _)
 | _=>cases e
def wU:D->D->Option Rz
 | .str a,.str b=>if a.length+b.length<=1000000 then some (.str (a++b),false) else none
 | _,_=>none
theorem ro_addS:RdOp K (fun x y H Q=>∃i j,x=.str i/\y=.str j/\i.length+j.length<=sizeLine/\Q (.str (i++j)) H) wU:=by
 intro Y H x y d1 d2 z Q lv b1 b2 e q;cases d1 with
 | str a =>
  cases d2 with
  | str b =>
   obtain⟨c,e⟩:=bo e;cases e;exact⟨a,b,b1,b2,few c,q _ H (Same.refl H) (.str _)⟩
  | _=>cases e
 | _=>cases e
theorem km (el:El K Y H vs ds) (hp:H p=none):RES K Y H (upd H p (.lst vs)) (.ref p) (.lst ds,true) :=
 ⟨p,rfl,hp,vs,aG,el.away (bS hp _) hp⟩
theorem jN (el:El K Y H vs ds) (hp:H p=none) (lv:∀p,Y p->Lv H p):RES K Y H (upd H p (.tup vs)) (.ref p) (.tup ds,false) :=
 .tup ⟨aG,fun z=>(lv p z).1 hp⟩ el.1 (el.same (bS hp _)).2
def D0:D->D->Option Rz
 | .lst a,.lst b=>if a.length+b.length<=1000000 then some (.lst (a++b),true) else none
 | _,_=>none
theorem ro_cat:RdOp K Ho D0:=by
 intro Y H x y d1 d2 z Q lv b1 b2 e q;cases d1 with
 | lst a =>
  cases d2 with
  | lst b =>
   obtain⟨c,e⟩:=bo e;cases e;obtain⟨p,xs,rfl,hp,el⟩:=b1;obtain⟨p2,ys,rfl,hp2,el2⟩:=b2;exact⟨p,p2,xs,ys,rfl,rfl,hp,hp2,by rw[el.1,el2.1];exact few c,fun r hr=>q _ _ (bS hr _) (km (el.app el2) hr)⟩
  | _=>cases e
 | _=>cases e
def Gb:D->D->Option Rz
 | .tup (x::a),.tup (y::b)=>if a.length+b.length<=999998 then some (.tup ((x::a)++(y::b)),false) else none
 | .tup (x::a),.tup []=>if a.length<=999998 then some (.tup (x::a),false) else none
 | _,_=>none
theorem D1:RdOp K (zA K) Gb:=by
 intro Y H x y d1 d2 z Q lv b1 b2 e q;cases d1 with
 | tup a =>
  cases a with
  | nil=>cases e
  | cons a0 a =>
  cases d2 with
  | tup b =>
   obtain⟨p,xs,rfl,hp,el⟩:=b1;obtain⟨p2,ys,rfl,hp2,el2⟩:=b2;have hx:xs≠[]:=fun z=>by have:=el.1;rw[z]at this;cases this
   cases b with
   | nil =>
    obtain⟨c,e⟩:=bo e;cases e;obtain rfl:=el2.unnil;exact⟨p,p2,xs,[],rfl,rfl,hp.sq,hp2.sq,hx,by rw[el.1];exact few (by simp;lia),fun _=>q _ H (Same.refl H) (.tup hp el.1 el.2),fun z=>absurd rfl z⟩
   | cons b0 b =>
    obtain⟨c,e⟩:=bo e;cases e;have hy:ys≠[]:=fun z=>by have:=el2.1;rw[z]at this;cases this
    exact⟨p,p2,xs,ys,rfl,rfl,hp.sq,hp2.sq,hx,by rw[el.1,el2.1];exact few (by simp;lia),fun z=>absurd z hy,fun _ r hr=>q _ _ (bS hr _) (jN (el.app el2) hr lv)⟩
  | _=>cases e
 | _=>cases e
def fB:=ng uf (ng wU (ng D0 Gb))
def zR:D->D->Option Rz
 | .str a,.int n=>if 0<=n/\n<=1000/\a.length<=1000 then some (.str (Txt.mul a n),false) else none
 | _,_=>none
theorem D2:RdOp K (fun x y H Q=>∃(a:Str) (n:Int),x=.str a/\y=.int n/\MulOk a n/\Q (.str (Txt.mul a n)) H) zR:=by
 intro Y H x y d1 d2 z Q lv b1 b2 e q;cases d1 with
 | str a =>
  cases d2 with
  | int n =>
   obtain⟨c,e⟩:=bo e;cases e;exact⟨a,n,b1,b2,mulOk_of c.1 c.2.1 c.2.2,q _ H (Same.refl H) (.str _)⟩
  | _=>cases e
 | _=>cases e
def mo:=ng wT zR
def Kb:D->D->Option Rz
 | .str a,.str b=>some (.bl (decide (a.cps.toList<b.cps.toList)),false)
 | _,_=>none
theorem HM:RdOp K (fun x y H Q=>∃i j,x=.str i/\y=.str j/\Q (.bl (decide (i.cps.toList<j.cps.toList))) H) Kb:=by
 intro Y H x y d1 d2 z Q lv b1 b2 e q;cases d1 with
 | str a =>
  cases d2 with
  | str b=>cases e;exact⟨a,b,b1,b2,q _ H (Same.refl H) (.bl _)⟩
  | _=>cases e
 | _=>cases e
def HN:=ng J0 Kb
def sv (neg:Bool):D->D->Option Rz
 | .str a,.str b=>some (.bl (if neg then !(!(Builtin.Str.occurrences b a 0 b.length 1).isEmpty) else !(Builtin.Str.occurrences b a 0 b.length 1).isEmpty),false)
 | _,_=>none
theorem ro_inS:RdOp K (fun x y H Q=>∃i j,x=.str i/\y=.str j/\Q (.bl (!(Builtin.Str.occurrences j i 0 j.length 1).isEmpty)) H) (sv false):=by
 intro Y H x y d1 d2 z Q lv b1 b2 e q;cases d1 with
 | str a =>
  cases d2 with
  | str b=>cases e;exact⟨a,b,b1,b2,q _ H (Same.refl H) (.bl _)⟩
  | _=>cases e
 | _=>cases e
theorem ro_notinS:RdOp K (fun x y H Q=>∃i j,x=.str i/\y=.str j/\Q (.bl (!(!(Builtin.Str.occurrences j i 0 j.length 1).isEmpty))) H) (sv true):=by
 intro Y H x y d1 d2 z Q lv b1 b2 e q;cases d1 with
 | str a =>
  cases d2 with
  | str b=>cases e;exact⟨a,b,b1,b2,q _ H (Same.refl H) (.bl _)⟩
  | _=>cases e
 | _=>cases e
def jO:List D->Option (List V)
 | []=>some []
 | d::r=>(Jr d).bind fun v=>(jO r).bind fun vs=>some (v::vs)
theorem uh:∀{ds:List D} {vs ws:List V},El K Y H vs ds->jO ds=some ws->vs=ws/\ws.all kM=true
 | [],vs,ws,el,e=>by cases e;exact⟨el.unnil,rfl⟩
 | d::r,vs,ws,el,e=>by
  refine b9 e fun w e1 e=>?_;refine b9 e fun ws' e2 e=>?_;cases e;obtain⟨v,t,rfl,da,el⟩:=el.uncons;obtain⟨rfl,h⟩:=uh el e2;have hv:=nh da.ba e1;subst hv;exact⟨rfl,by rw[A8,ug e1,h];rfl⟩
def D.seq:D->Option (List D)
 | .lst ds=>some ds
 | .tup ds=>some ds
 | .fl ds=>some ds
 | _=>none
theorem vC (h:BA K Y H v d) (e:d.seq=some ds):∃a vs,v=.ref a/\(i5 K H a vs∨mV K H a vs)/\El K Y H vs ds:=by
 cases d with
 | lst _=>cases e;obtain⟨a,vs,h1,h2,h3⟩:=h;exact⟨a,vs,h1,.inl (.inl (.inl h2)),h3⟩
 | tup _=>cases e;obtain⟨a,vs,h1,h2,h3⟩:=h;exact⟨a,vs,h1,.inr h2.sq,h3⟩
 | fl _=>cases e;obtain⟨a,vs,h1,h2,h3⟩:=h;exact⟨a,vs,h1,.inl h2.sq,h3⟩
 | _=>cases e
def ph (neg:Bool):D->D->Option Rz:=fun a b=>(Jr a).bind fun x=>(b.seq).bind fun ds=>(jO ds).bind fun ws=>some (.bl (if neg then !vc x ws else vc x ws),false)
theorem zS (neg:Bool):RdOp K (JQ K neg) (ph neg):=by
 intro Y H x y d1 d2 z Q lv b1 b2 e q;refine b9 e fun x' e1 e=>?_;refine b9 e fun ds e2 e=>?_;refine b9 e fun ws e3 e=>?_;cases e;obtain⟨a,vs,rfl,sq,el⟩:=vC b2 e2;obtain rfl:=nh b1 e1;obtain⟨rfl,h⟩:=uh el e3;exact⟨a,vs,rfl,sq,ug e1,h,q _ H (Same.refl H) (.bl _)⟩
def yt:=ng (sv false) (ph false)
def iM:=ng (sv true) (ph true)
def zT:D->D->Option Rz
 | .lst ds,.int i=>(mf ds i).bind fun d=>some (d,false)
 | .fl ds,.int i=>(mf ds i).bind fun d=>some (d,false)
 | _,_=>none
def D5:D->D->Option Rz
 | .tup ds,.int i=>(mf ds i).bind fun d=>some (d,false)
 | _,_=>none
def HP:D->D->Option Rz
 | .str z,.int i=>if z.length<=1000000 then(mf z.cps.toList i).bind fun c=>some (.str ⟨#[c]⟩,false) else none
 | _,_=>none
theorem vD (el:El K Y H vs ds) (e:mf ds i=some d):∃v,mf vs i=some v/\DA K Y H v d:=by
 unfold mf at e ⊢;rw[el.1];refine b9 e fun j e1 e2=>?_;obtain⟨v,h1,h2⟩:=el.at e2;exact⟨v,by rw[e1];exact h1,h2⟩
theorem ro_ixL:RdOp K (Hh K) zT:=by
 intro Y H x y d1 d2 z Q lv b1 b2 e q;cases d1 with
 | lst a =>
  cases d2 with
  | int i =>
   refine b9 e fun d e1 e=>?_;cases e;obtain⟨p,xs,rfl,hp,el⟩:=b1;obtain⟨v,h1,h2⟩:=vD el e1;exact⟨p,xs,i,v,rfl,b2,.inl (.inl hp),h1,q v H (Same.refl H) h2⟩
  | _=>cases e
 | fl a =>
  cases d2 with
  | int i =>
   refine b9 e fun d e1 e=>?_;cases e;obtain⟨p,xs,rfl,hp,el⟩:=b1;obtain⟨v,h1,h2⟩:=vD el e1;exact⟨p,xs,i,v,rfl,b2,hp.sq,h1,q v H (Same.refl H) h2⟩
  | _=>cases e
 | _=>cases e
theorem ro_ixT:RdOp K (Hi K) D5:=by
 intro Y H x y d1 d2 z Q lv b1 b2 e q;cases d1 with
 | tup a =>
  cases d2 with
  | int i =>
   refine b9 e fun d e1 e=>?_;cases e;obtain⟨p,xs,rfl,hp,el⟩:=b1;obtain⟨v,h1,h2⟩:=vD el e1;exact⟨p,xs,i,v,rfl,b2,hp.sq,h1,q v H (Same.refl H) h2⟩
  | _=>cases e
 | _=>cases e
theorem HQ:RdOp K Hj HP:=by
 intro Y H x y d1 d2 z Q lv b1 b2 e q;cases d1 with
 | str a =>
  cases d2 with
  | int i =>
   obtain⟨c,e⟩:=bo e;refine b9 e fun ch e1 e=>?_;cases e;exact⟨a,i,ch,b1,b2,few c,e1,q _ H (Same.refl H) (.str _)⟩
  | _=>cases e
 | _=>cases e
def cK:=ng zT (ng D5 HP)
theorem bH:RdOp K (LC K) cK:=ro_ixL.or (ro_ixT.or HQ)
abbrev FO:=En->Option (Option Int×En)
def LF (K:PySem.W.Frag) (t:TO) (f:FO):Prop:=∀(st:En) (σ:St) (H:Hp) (O Z:AS) (Q:Option Int->Hp->Prop),ER K st σ H O Z->∀c st',f st=some (c,st') ->
 (∀H' O',Ext O H O' H'->Kp st st'->ER K st' σ H' O' Z->Q c H')->t σ H Q
def gQ:FO:=fun st=>some (none,st)
theorem bL:LF K wJ gQ:=by
 intro st σ H O Z Q E c st' e q;cases e;exact q H O (Ext.refl _ _) (Kp.refl _) E
def asInt (st:En) (r:Rs):Option Int:=match cont st r with
 | some (.int i)=>some i
 | _=>none
def bC (fe:FE):FO:=fun st=>(fe st).bind fun x=>(asInt x.2 x.1).bind fun i=>some (some i,x.2)
theorem aU (h:d7 K te fe):LF K (FQ te) (bC fe):=by
 intro st σ H O Z Q E c st' e q;refine cZ e fun r st1 e1 e=>?_;refine b9 e fun i e2 e=>?_;cases e;refine h st σ H O Z _ E r _ e1 fun v H1 O1 x1 k1 E1 rv w=>?_;have ev:v=.int i:=by
  unfold asInt at e2;split at e2
  ·rename_i j ej
   cases e2;exact rv.ba E1 ej
  ·cases e2
 exact⟨i,ev,q H1 O1 x1 k1 E1⟩
def RdSl (K:PySem.W.Frag) (r:V->Option Int->Option Int->Hp->VK->Prop) (b:D->Option Int->Option Int->Option Rz):Prop:=∀(Y:AS) (H:Hp) (x:V) (lo hi:Option Int) (d1:D) (z:Rz) (Q:VK),(∀p,Y p->Lv H p)->BA K Y H x d1->b d1 lo hi=some z ->
 (∀v H',Same H H'->RES K Y H H' v z->Q v H')->r x lo hi H Q
def gl (b:D->Option Int->Option Int->Option Rz) (fe:FE) (fl fh:FO):FE:=fun st=>(fe st).bind fun x=>(fl x.2).bind fun l=>(fh l.2).bind fun u=>(cont u.2 x.1).bind fun d=>(b d l.1 u.1).bind fun z=>some (mk z,u.2)
theorem aY (hr:RdSl K r b) (he:d7 K te fe) (hl:LF K tl fl) (hh:LF K th fh):d7 K (Mh r te tl th) (gl b fe fl fh):=by
 intro st σ H O Z Q E r' st' h q;refine cZ h fun r1 st1 e1 h=>?_;refine cZ h fun lo st2 e2 h=>?_;refine cZ h fun hi st3 e3 h=>?_;refine b9 h fun d1 e4 h=>?_;refine b9 h fun z e5 h=>?_;cases h;refine he st σ H O Z _ E r1 st1 e1 fun v1 H1 O1 x1 k1 E1 rv1 w1=>?_;refine hl st1 σ H1 O1 Z _ E1 lo st2 e2 fun H2 O2 x2 k2 E2=>?_;refine hh st2 σ H2 O2 Z _ E2 hi _ e3 fun H3 O3 x3 k3 E3=>?_;have b1:=(rv1.nf.ext (x2.trans x3) (k2.trans k3)).ba E3 (by rw[ip];exact e4)
 refine hr (U O3 Z) H3 v1 lo hi d1 z _ E3.liv b1 e5 fun v H4 s hres=>?_;obtain⟨E4,rv4⟩:=hres.rv E3 s;have xx:=(x1.trans x2).trans x3;exact q v H4 O3 (xx.trans (Same.ext s)) ((k1.trans k2).trans k3) E4 rv4 (hres.fsh.back xx)
def cutD (xs:List D) (lo hi:Option Int):List D:=(xs.drop (HT.sIx xs.length 0 lo)).take (HT.sIx xs.length xs.length hi-HT.sIx xs.length 0 lo)
theorem El.cut (el:El K Y H vs ds) (lo hi:Option Int):El K Y H (tZ vs lo hi) (cutD ds lo hi):=by
 unfold tZ cutD;rw[el.1];exact(el.drop _).take _
def Js (b b':D->Option Int->Option Int->Option Rz):D->Option Int->Option Int->Option Rz:=fun x l h=>match b x l h with
 | some z=>some z
 | none=>b' x l h
theorem RdSl.or (h:RdSl K r b) (h':RdSl K r' b'):RdSl K (fun x lo hi H Q=>r x lo hi H Q∨r' x lo hi H Q) (Js b b'):=by grind [RdSl,Js]
def HR:D->Option Int->Option Int->Option Rz
 | .lst ds,lo,hi=>some (.lst (cutD ds lo hi),true)
 | .fl ds,lo,hi=>some (.lst (cutD ds lo hi),true)
 | _,_,_=>none
theorem Kc:RdSl K (Hl K) HR:=by
 intro Y H x lo hi d1 z Q lv b1 e q;cases d1 with
 | lst a =>
  cases e;obtain⟨p,xs,rfl,hp,el⟩:=b1;exact⟨p,xs,rfl,.inl (.inl hp),fun r hr=>q _ _ (bS hr _) (km (el.cut lo hi) hr)⟩
 | fl a =>
  cases e;obtain⟨p,xs,rfl,hp,el⟩:=b1;exact⟨p,xs,rfl,hp.sq,fun r hr=>q _ _ (bS hr _) (km (el.cut lo hi) hr)⟩
 | _=>cases e
def zU:D->Option Int->Option Int->Option Rz
 | .tup ds,lo,hi=>if HT.sIx ds.length 0 lo=0/\HT.sIx ds.length ds.length hi=ds.length then none else some (.tup (cutD ds lo hi),false)
 | _,_,_=>none
theorem Kd:RdSl K (Hf K) zU:=by
 intro Y H x lo hi d1 z Q lv b1 e q;cases d1 with
 | tup a =>
  by_cases c:HT.sIx a.length 0 lo=0/\HT.sIx a.length a.length hi=a.length
  ·simp only[zU,Af c]at e;cases e
  ·simp only[zU,Ah c]at e;cases e;obtain⟨p,xs,rfl,hp,el⟩:=b1;exact⟨p,xs,rfl,hp.sq,by rw[el.1];exact c,fun r hr=>q _ _ (bS hr _) (jN (el.cut lo hi) hr lv)⟩
 | _=>cases e
def HS:D->Option Int->Option Int->Option Rz
 | .str z,lo,hi=>if z.length<=1000000 then some (.str (Txt.slice z lo hi),false) else none
 | _,_,_=>none
theorem Ke:RdSl K (fun x lo hi H Q=>∃z:Str,x=.str z/\z.length<=sizeLine/\Q (.str (Txt.slice z lo hi)) H) HS:=by
 intro Y H x lo hi d1 z Q lv b1 e q;cases d1 with
 | str a =>
  obtain⟨c,e⟩:=bo e;cases e;exact⟨a,b1,few c,q _ H (Same.refl H) (.str _)⟩
 | _=>cases e
def D6:=Js HR (Js zU HS)
def zV:List D->Option Rz
 | [d]=>(d.seq).bind fun ds=>some (.int ds.length,false)
 | _=>none
theorem rc_lenQ:RdCB K (fun xs H Q=>∃p ys,xs=[.ref p]/\(i5 K H p ys∨mV K H p ys)/\Q (.int ys.length) H) zV:=by
 intro Y H xs ds z Q lv bs e q;cases bs with
 | nil=>cases e
 | cons b1 bs =>
  cases bs with
  | cons _ _=>cases e
  | nil =>
   refine b9 e fun es e1 e=>?_;cases e;obtain⟨a,vs,rfl,sq,el⟩:=vC b1 e1;refine⟨a,vs,rfl,sq,?_⟩;rw[el.1];exact q _ H (Same.refl H) (.int _)
def zW:List D->Option Rz
 | [.str z]=>if z.length<=1000000 then some (.int z.length,false) else none
 | _=>none
theorem D7:RdCB K (fun xs H Q=>∃z:Str,xs=[.str z]/\z.length<=sizeLine/\Q (.int z.length) H) zW:=by
 intro Y H xs ds z Q lv bs e q;cases bs with
 | nil=>cases e
 | @cons v vs d ds b1 bs =>
  cases bs with
  | cons _ _=>cases d<;>cases e
  | nil =>
   cases d with
   | str a =>
    obtain⟨c,e⟩:=bo e;cases e;exact⟨a,by rw[show v=V.str a from b1],few c,q _ H (Same.refl H) (.int _)⟩
   | _=>cases e
def dQ:=Jq zV zW
def Gc:List D->Option Rz
 | [d]=>(d.seq).bind fun ds=>some (.lst ds,true)
 | _=>none
theorem rc_list:RdCB K (fun xs H Q=>∃p ys,xs=[.ref p]/\(i5 K H p ys∨mV K H p ys)/\∀l,H l=none->Q (.ref l) (upd H l (.lst ys))) Gc:=by
 intro Y H xs ds z Q lv bs e q;cases bs with
 | nil=>cases e
 | cons b1 bs =>
  cases bs with
  | cons _ _=>cases e
  | nil =>
   refine b9 e fun es e1 e=>?_;cases e;obtain⟨a,vs,rfl,sq,el⟩:=vC b1 e1;exact⟨a,vs,rfl,sq,fun r hr=>q _ _ (bS hr _) (km el hr)⟩
def zX:List D->Option Rz
 | [.lst ds]=>some (.tup ds,false)
 | [.fl ds]=>some (.tup ds,false)
 | [.tup ds]=>some (.tup ds,false)
 | _=>none
theorem rc_tuple:RdCB K (fun xs H Q=>∃p ys,xs=[.ref p]/\((i5 K H p ys/\∀l,H l=none->Q (.ref l) (upd H l (.tup ys)))∨(mV K H p ys/\Q (.ref p) H))) zX:=by
 intro Y H xs ds z Q lv bs e q;cases bs with
 | nil=>cases e
 | @cons v vs d ds b1 bs =>
  cases bs with
  | cons _ _=>cases d<;>cases e
  | nil =>
   cases d with
   | lst a =>
    cases e;obtain⟨p,xs,rfl,hp,el⟩:=b1;exact⟨p,xs,rfl,.inl ⟨.inl (.inl hp),fun r hr=>q _ _ (bS hr _) (jN el hr lv)⟩⟩
   | fl a =>
    cases e;obtain⟨p,xs,rfl,hp,el⟩:=b1;exact⟨p,xs,rfl,.inl ⟨hp.sq,fun r hr=>q _ _ (bS hr _) (jN el hr lv)⟩⟩
   | tup a =>
    cases e;obtain⟨p,xs,rfl,hp,el⟩:=b1;exact⟨p,xs,rfl,.inr ⟨hp.sq,q _ H (Same.refl H) (.tup hp el.1 el.2)⟩⟩
   | _=>cases e
def mq:List D->Option (List Bool)
 | []=>some []
 | .bl b::r=>(mq r).bind fun bs=>some (b::bs)
 | _=>none
theorem uk:∀{ds:List D} {vs:List V} {bs:List Bool},El K Y H vs ds->mq ds=some bs->vs=bs.map V.bl
 | [],vs,bs,el,e=>by cases e;exact el.unnil
 | d::r,vs,bs,el,e=>by
  obtain⟨v,t,rfl,da,el2⟩:=el.uncons;cases d with
  | bl b =>
   refine b9 e fun bs' e1 e=>?_;cases e;have h:=uk el2 e1;rw[h,show v=V.bl b from da.ba];rfl
  | _=>cases e
def vE:List D->Option Rz
 | [.lst ds]=>(mq ds).bind fun bs=>some (.bl (bs.all id),false)
 | _=>none
theorem vF:RdCB K (fun xs H Q=>∃(p:Addr) (bs:List Bool),xs=[.ref p]/\i5 K H p (bs.map V.bl)/\Q (.bl (bs.all id)) H) vE:=by
 intro Y H xs ds z Q lv bs e q;cases bs with
 | nil=>cases e
 | @cons v vs d ds b1 bs =>
  cases bs with
  | cons _ _=>cases d<;>cases e
  | nil =>
   cases d with
   | lst a =>
    refine b9 e fun bs e1 e=>?_;cases e;obtain⟨p,xs,rfl,hp,el⟩:=b1;obtain rfl:=uk el e1;exact⟨p,bs,rfl,.inl (.inl hp),q _ H (Same.refl H) (.bl _)⟩
   | _=>cases e
def yu (K:PySem.W.Frag) (r:V->List V->Hp->VK->Prop) (b:D->List D->Option Rz):Prop:=∀(Y:AS) (H:Hp) (x:V) (xs:List V) (d:D) (ds:List D) (z:Rz) (Q:VK),(∀p,Y p->Lv H p)->BA K Y H x d->BAs K Y H xs ds->b d ds=some z ->
 (∀v H',Same H H'->RES K Y H H' v z->Q v H')->r x xs H Q
def HU (T:String):D->Bool
 | .str _=>decide (T="str")
 | .lst _=>decide (T="list")
 | .dk _=>decide (T="dict")
 | .dt _=>decide (T="dict")
 | _=>false
theorem Kf (h:BA K Y H v d) (e:HU T d=true):JR K T v H:=by
 cases d with
 | str x =>
  have e':T="str":=An e;rw[show v=V.str x from h];exact e'
 | lst x=>obtain⟨a,vs,rfl,h1,_⟩:=h;exact .inl ⟨An e,vs,.inl (.inl h1)⟩
 | dk x=>obtain⟨a,vs,rfl,h1,_⟩:=h;exact .inr (.inr (.inl ⟨An e,.inl ⟨vs,h1⟩⟩))
 | dt x=>obtain⟨a,ep,vs,rfl,_,h1,_⟩:=h;exact .inr (.inr (.inl ⟨An e,.inr ⟨ep,vs,h1⟩⟩))
 | _=>cases e
def Gd (T:String) (b:D->List D->Option Rz) (fo:FE) (fa:FA):FE:=fun st=>(fo st).bind fun x=>(cont x.2 x.1).bind fun d0=>if HU T d0=true then(fa x.2).bind fun y=>(cont y.2 x.1).bind fun d=>(fG y.2 y.1).bind fun ds=>(b d ds).bind fun z=>some (mk z,y.2) else none
theorem ul (hr:yu K r b) (ho:d7 K to fo) (ha:oB K ta fa):d7 K (LD K T r to ta) (Gd T b fo fa):=by
 intro st σ H O Z Q E r' st' h q;refine cZ h fun r1 st1 e1 h=>?_;refine b9 h fun d0 e2 h=>?_;obtain⟨c,h⟩:=bo h;refine cZ h fun rs st2 e3 h=>?_;refine b9 h fun d e4 h=>?_;refine b9 h fun ds e5 h=>?_;refine b9 h fun z e6 h=>?_;cases h;refine ho st σ H O Z _ E r1 st1 e1 fun v1 H1 O1 x1 k1 E1 rv1 w1=>⟨Kf (rv1.ba E1 e2) c,?_⟩;refine ha st1 σ H1 O1 Z _ E1 rs _ e3 fun vs H2 O2 x2 k2 E2 rvs=>?_;have b1:=(rv1.nf.ext x2 k2).ba E2 (by rw[ip];exact e4)
 refine hr (U O2 Z) H2 v1 vs d ds z _ E2.liv b1 (rvs.bas E2 e5) e6 fun v H3 s hres=>?_;obtain⟨E3,rv3⟩:=hres.rv E2 s;exact q v H3 O2 ((x1.trans x2).trans (Same.ext s)) (k1.trans k2) E3 rv3 (hres.fsh.back (x1.trans x2))
def ni:List D->Option (List Str)
 | []=>some []
 | .str x::r=>(ni r).bind fun xs=>some (x::xs)
 | _=>none
theorem qQ:∀{ds:List D} {vs:List V} {xs:List Str},El K Y H vs ds->ni ds=some xs->vs=xs.map V.str
 | [],vs,xs,el,e=>by cases e;exact el.unnil
 | d::r,vs,xs,el,e=>by
  obtain⟨v,t,rfl,da,el2⟩:=el.uncons;cases d with
  | str b =>
   refine b9 e fun xs' e1 e=>?_;cases e;have h:=qQ el2 e1;rw[h,show v=V.str b from da.ba];rfl
  | _=>cases e
def zY:D->List D->Option Rz
 | .str sep,[.lst ds]=>(ni ds).bind fun ys=>if (ys.map (·.length)).sum+ys.length*sep.length<=16777216 then some (.str (Txt.join sep ys),false) else none
 | _,_=>none
theorem D8:yu K (fun x vs H Q=>∃(sep:Str) (p:Addr) (ys:List Str),x=.str sep/\vs=[.ref p]/\i5 K H p (ys.map V.str)/\(ys.map (·.length)).sum+ys.length*sep.length<=16777216/\Q (.str (Txt.join sep ys)) H) zY:=by
 intro Y H x xs d ds z Q lv b1 bs e q;cases d with
 | str sep =>
  cases bs with
  | nil=>cases e
  | @cons v vs d ds b2 bs =>
   cases bs with
   | cons _ _=>cases d<;>cases e
   | nil =>
    cases d with
    | lst es =>
     refine b9 e fun ys e1 e=>?_;obtain⟨c,e⟩:=bo e;cases e;obtain⟨p,ws,rfl,hp,el⟩:=b2;obtain rfl:=qQ el e1;exact⟨sep,p,ys,b1,rfl,.inl (.inl hp),c,q _ H (Same.refl H) (.str _)⟩
    | _=>cases e
 | _=>cases e
def wV:D->List D->Option Rz
 | .str a,[.str b]=>some (.bl (Txt.startswith a b),false)
 | _,_=>none
theorem yv:yu K (fun x vs H Q=>∃(a b:Str),x=.str a/\vs=[.str b]/\Q (.bl (Txt.startswith a b)) H) wV:=by
 intro Y H x xs d ds z Q lv b1 bs e q;cases d with
 | str a =>
  cases bs with
  | nil=>cases e
  | @cons v vs d ds b2 bs =>
   cases bs with
   | cons _ _=>cases d<;>cases e
   | nil =>
    cases d with
    | str b=>cases e;exact⟨a,b,b1,by rw[show v=V.str b from b2],q _ H (Same.refl H) (.bl _)⟩
    | _=>cases e
 | _=>cases e
def qR:D->Bool
 | .lst _=>true
 | _=>false
theorem LR (h:OA K Y H p x) (e:qR x=true):JR K "list" (.ref p) H:=by
 cases x with
 | lst ds=>obtain⟨vs,h1,_⟩:=h;exact .inl ⟨rfl,vs,.inl (.inl h1)⟩
 | _=>cases e
theorem El.upd (h:El K Y H vs ds) (hp:Y p):El K Y (L2.upd H p o) vs ds:=h.go (fun b u e n=>by
 have hb:b≠p:=fun z=>n (by rw[z];exact hp)
 rw[ax hb];exact e) fun b z=>.inl z
theorem DA.upd (h:DA K Y H v d) (hp:Y p):DA K Y (L2.upd H p o) v d:=h.go (fun b u e n=>by
 have hb:b≠p:=fun z=>n (by rw[z];exact hp)
 rw[ax hb];exact e) fun b z=>.inl z
def dA:D->List D->Option (D×D)
 | .lst xs,[y]=>if xs.length<1000000 then some (.non,.lst (xs++[y])) else none
 | _,_=>none
theorem dg:RdM K "list" rV qR dA:=⟨fun Y H p x h e=>LR h e,fun Y H p x vs ds y x' Q hp ho el e q=>by
 cases x with
 | lst xs =>
  cases ds with
  | nil=>cases e
  | cons d ds =>
   cases ds with
   | cons _ _=>cases e
   | nil =>
    obtain⟨c,e⟩:=bo e;cases e;obtain⟨ws,h1,h2⟩:=ho;obtain⟨v,r,rfl,da,el⟩:=el.uncons;obtain rfl:=el.unnil;exact⟨p,ws,v,rfl,rfl,h1,by rw[h2.1];exact few (by lia),q .non _ .non ⟨_,aG,(h2.app (El.one da)).upd hp⟩⟩
 | _=>cases e⟩
def sw:D->List D->Option (D×D)
 | .lst xs,[.int i]=>if -(2 ^ 63)<=i/\i<2 ^ 63 then(seqIndex? i xs.length).bind fun k=>(xs[k]?).bind fun y=>some (y,.lst (xs.eraseIdx k)) else none
 | _,_=>none
theorem zZ:RdM K "list" zD qR sw:=⟨fun Y H p x h e=>LR h e,fun Y H p x vs ds y x' Q hp ho el e q=>by
 cases x with
 | lst xs =>
  cases ds with
  | nil=>cases e
  | cons d ds =>
   cases d with
   | int i =>
    cases ds with
    | cons _ _=>cases e
    | nil =>
     obtain⟨c,e⟩:=bo e;refine b9 e fun k e1 e=>?_;refine b9 e fun y' e2 e=>?_;cases e;obtain⟨ws,h1,h2⟩:=ho;obtain⟨v,r,rfl,da,el⟩:=el.uncons;obtain rfl:=el.unnil;obtain rfl:=(show v=V.int i from da.ba);obtain⟨u,g1,g2⟩:=h2.at e2;exact⟨p,ws,i,k,u,rfl,rfl,h1,c.1,c.2,by rw[h2.1];exact e1,g1,q u _ (g2.upd hp) ⟨_,aG,(h2.erase k).upd hp⟩⟩
   | _=>cases ds<;>cases e
 | _=>cases e⟩
def pi:D->D->D->Option D
 | .lst xs,.int k,v=>(yg xs.length k).bind fun j=>some (.lst (xs.set j v))
 | _,_,_=>none
theorem gZ:zM K FU pi:=by
 intro Y H p x k v dk dv x' Q hp ho bk da e q;cases x with
 | lst xs =>
  cases dk with
  | int i =>
   refine b9 e fun j e1 e=>?_;cases e;obtain⟨ws,h1,h2⟩:=ho;exact⟨p,ws,i,j,rfl,bk,h1,by rw[h2.1];exact e1,q _ ⟨_,aG,(h2.set da j).upd hp⟩⟩
  | _=>cases e
 | _=>cases e
def ix (xs:List Str):FA:=fun st=>some (xs.map fun x=>.d (.str x),st)
theorem gm:oB K (F0 xs) (ix xs):=by
 intro st σ H O Z Q E rs st' e q;cases e;refine q _ H O (Ext.refl _ _) (Kp.refl _) E ?_;clear q;induction xs with
 | nil=>exact .nil
 | cons x r ih=>exact .cons (show DA K _ H (.str x) (.str x) from .str x) ih
end
end VF
namespace VF
open PySem PySem.Spec PyProof.Rows L2
section
variable {X:Cx} {K:PySem.W.Frag} {Y:AS} {H:Hp} {v:V} {d:D} {vs:List V} {ds:List D}
def wW (K:PySem.W.Frag):R2:=fun x y H Q=>(tU fun i j=>.int (i+j)) x y H Q∨((∃i j,x=.str i/\y=.str j/\i.length+j.length<=sizeLine/\Q (.str (i++j)) H)∨(Ho x y H Q∨zA K x y H Q))
theorem wX (h:X.K=K):OpR X (binaryOp .Add) (wW K):=op_add.or (op_add_str.or (op_cat.or (h ▸ DJ)))
theorem ro_addA:RdOp K (wW K) fB:=ro_addI.or (ro_addS.or (ro_cat.or D1))
def Ge:R2:=fun x y H Q=>(rI CMul fun i j=>.int (i*j)) x y H Q∨(∃(a:Str) (n:Int),x=.str a/\y=.int n/\MulOk a n/\Q (.str (Txt.mul a n)) H)
theorem kn:OpR X (binaryOp .Mult) Ge:=op_mul.or vx
theorem kr:RdOp K Ge mo:=ro_mulI.or D2
def Kg:R2:=fun x y H Q=>(tU fun i j=>.bl (decide (i<j))) x y H Q∨(∃i j,x=.str i/\y=.str j/\Q (.bl (decide (i.cps.toList<j.cps.toList))) H)
theorem vG:OpR X (compareOp .Lt) Kg:=op_lt.or yc
theorem vH:RdOp K Kg HN:=ro_ltI.or HM
def Kh (K:PySem.W.Frag):R2:=fun x y H Q=>(∃i j,x=.str i/\y=.str j/\Q (.bl (!(Builtin.Str.occurrences j i 0 j.length 1).isEmpty)) H)∨JQ K false x y H Q
theorem pk (h:X.K=K):OpR X (compareOp .In) (Kh K):=op_in_str.or (h ▸ yh)
theorem pp:RdOp K (Kh K) yt:=ro_inS.or (zS false)
def wY (K:PySem.W.Frag):R2:=fun x y H Q=>(∃i j,x=.str i/\y=.str j/\Q (.bl (!(!(Builtin.Str.occurrences j i 0 j.length 1).isEmpty))) H)∨JQ K true x y H Q
theorem nj (h:X.K=K):OpR X (compareOp .NotIn) (wY K):=op_notin_str.or (h ▸ rQ)
theorem nk:RdOp K (wY K) iM:=ro_notinS.or (zS true)
def ju:=DZ false
theorem HV (_:X.K=K) (_:X.A.units+64<cLine):OpR X (compareOp .Eq) JJ:=de
theorem ro_eqA:RdOp K JJ ju:=HJ
def Ki:D->D->Option Rz
 | .lst xs,.lst []=>some (.bl (!xs.isEmpty),false)
 | _,_=>none
def Kj (K:PySem.W.Frag):R2:=fun x y H Q=>∃(a b:Addr) (xs:List V),x=.ref a/\y=.ref b/\i5 K H a xs/\i5 K H b []/\Q (.bl (!xs.isEmpty)) H
theorem HW:RdOp K (Kj K) Ki:=by
 intro Y H x y d1 d2 z Q lv b1 b2 e q;cases d1 with
 | lst xs =>
  cases d2 with
  | lst ys =>
   cases ys with
   | nil =>
    cases e;obtain⟨p,ws,rfl,hp,el⟩:=b1;obtain⟨p2,zs,rfl,hp2,el2⟩:=b2;obtain rfl:=el2.unnil;refine⟨p,p2,ws,rfl,rfl,.inl (.inl hp),.inl (.inl hp2),?_⟩;have e:ws.isEmpty=xs.isEmpty:=by
     cases ws with
     | nil=>cases xs with
      | nil=>rfl
      | cons _ _=>cases el.1
     | cons _ _=>cases xs with
      | nil=>cases el.1
      | cons _ _=>rfl
    rw[e];exact q _ H (Same.refl H) (.bl _)
   | cons _ _=>cases e
  | _=>cases e
 | _=>cases e
def tM:=ng (DZ true) Ki
def Kk (K:PySem.W.Frag):R2:=fun x y H Q=>LM x y H Q∨Kj K x y H Q
theorem iN (h:X.K=K) (hu:X.A.units+64<cLine):OpR X (compareOp .NotEq) (Kk K):=op_ne.or (by subst h;exact Hy (by lia))
theorem iO:RdOp K (Kk K) tM:=ro_neS.or HW
def HX (K:PySem.W.Frag):V->Option Int->Option Int->Hp->VK->Prop:=fun x lo hi H Q=>Hl K x lo hi H Q∨(Hf K x lo hi H Q∨(∃z:Str,x=.str z/\z.length<=sizeLine/\Q (.str (Txt.slice z lo hi)) H))
theorem sy (h:X.K=K):SlR X (HX K):=SlR.or (h ▸ DK) (SlR.or (h ▸ Hg) Hv)
theorem oE:RdSl K (HX K) D6:=RdSl.or Kc (RdSl.or Kd Ke)
def z0 (K:PySem.W.Frag):List V->Hp->VK->Prop:=fun xs H Q=>(∃p ys,xs=[.ref p]/\(i5 K H p ys∨mV K H p ys)/\Q (.int ys.length) H)∨(∃z:Str,xs=[.str z]/\z.length<=sizeLine/\Q (.int z.length) H)
theorem yw (h:X.K=K):CallR X (.builtin "len") (z0 K):=CallR.or (h ▸ rR) rS
theorem dM:RdCB K (z0 K) dQ:=rc_lenQ.or D7
theorem z3 (z:Str):El K Y H (sgn z) (pd z):=by
 refine⟨by simp[sgn,pd],fun i v d h1 h2=>?_⟩
 unfold sgn at h1;unfold pd at h2;rw[Zg]at h1 h2;obtain⟨c,e1,rfl⟩:=Zh.mp h1;rw[e1]at h2;obtain rfl:=Option.some.inj h2;exact .str _
def z4:List D->Option Rz
 | [.str z]=>if z.cps.size<=1000000 then some (.lst (pd z),true) else none
 | _=>none
def z5:List V->Hp->VK->Prop:=fun xs H Q=>∃z:Str,xs=[.str z]/\z.cps.size<=sizeLine/\∀l,H l=none->Q (.ref l) (upd H l (.lst (sgn z)))
theorem z6:RdCB K z5 z4:=by
 intro Y H xs ds z Q lv bs e q;cases bs with
 | nil=>cases e
 | @cons v vs d ds b1 bs =>
  cases bs with
  | cons _ _=>cases d<;>cases e
  | nil =>
   cases d with
   | str a =>
    obtain⟨c,e⟩:=bo e;cases e;exact⟨a,by rw[show v=V.str a from b1],few c,fun r hr=>q _ _ (bS hr _) (km (z3 a) hr)⟩
   | _=>cases e
def wZ:List D->Option Rz
 | [.str z]=>if z.cps.size<=1000000 then some (.tup (pd z),false) else none
 | _=>none
def w5:List V->Hp->VK->Prop:=fun xs H Q=>∃z:Str,xs=[.str z]/\z.cps.size<=sizeLine/\∀l,H l=none->Q (.ref l) (upd H l (.tup (sgn z)))
theorem yx:RdCB K w5 wZ:=by
 intro Y H xs ds z Q lv bs e q;cases bs with
 | nil=>cases e
 | @cons v vs d ds b1 bs =>
  cases bs with
  | cons _ _=>cases d<;>cases e
  | nil =>
   cases d with
   | str a =>
    obtain⟨c,e⟩:=bo e;cases e;exact⟨a,by rw[show v=V.str a from b1],few c,fun r hr=>q _ _ (bS hr _) (jN (z3 a) hr lv)⟩
   | _=>cases e
def ja:=Jq Gc z4
def fI:=Jq zX wZ
def z7 (K:PySem.W.Frag):List V->Hp->VK->Prop:=fun xs H Q=>(∃p ys,xs=[.ref p]/\(i5 K H p ys∨mV K H p ys)/\∀l,H l=none->Q (.ref l) (upd H l (.lst ys)))∨z5 xs H Q
def sA (K:PySem.W.Frag):List V->Hp->VK->Prop:=fun xs H Q=>(∃p ys,xs=[.ref p]/\((i5 K H p ys/\∀l,H l=none->Q (.ref l) (upd H l (.tup ys)))∨(mV K H p ys/\Q (.ref p) H)))∨w5 xs H Q
theorem fY (h:X.K=K) (hc:X.calm=true):CallR X (.type "list") (z7 K):=CallR.or (h ▸ rT) (pc hc)
theorem um (h:X.K=K) (hc:X.calm=true):CallR X (.type "tuple") (sA K):=CallR.or (h ▸ qo) (oi hc)
theorem iV:RdCB K (z7 K) ja:=rc_list.or z6
theorem fA:RdCB K (sA K) fI:=rc_tuple.or yx
def D9:D->String
 | .non=>"NoneType"
 | .bl _=>"bool"
 | .int _=>"int"
 | .str _=>"str"
 | .tup _=>"tuple"
 | .lst _=>"list"
 | .fl _=>"list"
 | .dk _=>"dict"
 | .dt _=>"dict"
 | .ty _=>"type"
 | .xc _ _ _=>"type"
def z8 (n T:String):Bool:=n == T||(n == "bool"&&T == "int")
theorem HY:∀n∈["NoneType","bool","int","str","tuple","list","dict"],∀T∈["bool","int","str","tuple","list","dict"],
  (if (Value.type n == Value.type T)=true then some true else if PySem.W.kitMeta T=true then(fastBuiltinMro n).map (·.contains (Value.type T)) else none)=some (z8 n T):=by decide +kernel
def LS:List D->Option Rz
 | [d,.ty T]=>if (["bool","int","str","tuple","list","dict"].contains T&&D9 d != "type")=true then some (.bl (z8 (D9 d) T),false) else none
 | _=>none
def cc:=LS
def HZ (K:PySem.W.Frag):List V->Hp->VK->Prop:=fun xs H Q=>∃(Y:AS) (x:V) (d:D) (T:String),xs=[x,.ty T]/\BA K Y H x d/\(["bool","int","str","tuple","list","dict"].contains T&&D9 d != "type")=true/\Q (.bl (z8 (D9 d) T)) H
theorem b6:RdCB K (HZ K) cc:=by
 intro Y H xs ds z Q lv bs e q;cases bs with
 | nil=>cases e
 | @cons v vs d ds b1 bs =>
  cases bs with
  | nil=>cases e
  | @cons v2 vs2 d2 ds2 b2 bs =>
   cases bs with
   | cons _ _=>cases d2<;>cases e
   | nil =>
    cases d2 with
    | ty T =>
     obtain⟨c,e⟩:=bo e;cases e;exact⟨Y,v,d,T,by rw[show v2=V.ty T from b2],b1,c,q _ H (Same.refl H) (.bl _)⟩
    | _=>cases e
theorem sB (h:X.K=K):CallR X (.builtin "isinstance") (HZ K):=by
 subst h;intro pins s σ H xs us Q I rv h;obtain⟨Y,x,d,T,rfl,b1,c,q⟩:=h;obtain⟨u,w',rfl,rx,ry⟩:=vals2 rv;cases (show w'=Value.type T from ry);rw[Qe]at c;have hT:T∈["bool","int","str","tuple","list","dict"]:=List.contains_iff_mem.mp c.1;refine bW ?_;have fin:∀tk,s.toks<=tk->EP X pins σ Q (.bool (z8 (D9 d) T)) { s with toks:=tk }:=fun tk hle=>⟨.bl _,H,I.tok tk (I.tkl' hle),rfl,q⟩;have ko:∀n∈["NoneType","bool","int","str","tuple","list","dict"],D9 d=n->PySem.W.kitOne X.K (.type n) (.type T)=some (z8 (D9 d) T):=fun n hn e=>by
  rw[e];exact Hx (HY n hn T hT)
 cases d with
 | non =>
  obtain rfl:=(show x=V.non from b1);exact fW I rx .non (ko "NoneType" (by decide) rfl) fin
 | bl b =>
  obtain rfl:=(show x=V.bl b from b1);exact fW I rx (.bl b) (ko "bool" (by decide) rfl) fin
 | int i =>
  obtain rfl:=(show x=V.int i from b1);exact fW I rx (.int i) (ko "int" (by decide) rfl) fin
 | str z =>
  obtain rfl:=(show x=V.str z from b1);exact fW I rx (.str z) (ko "str" (by decide) rfl) fin
 | ty n=>exact absurd c.2 (by simp[D9])
 | xc _ _ _=>exact absurd c.2 (by simp[D9])
 | lst ds =>
  obtain⟨a,vs,rfl,h1,_⟩:=b1;exact fW I rx (.lst h1) (ko "list" (by decide) rfl) fin
 | fl ds =>
  obtain⟨a,vs,rfl,h1,_⟩:=b1;cases (show u=Value.ref a from rx);obtain⟨its,_,pl,_⟩:=I.list h1.sq;obtain⟨o,ho,hc,_⟩:=pl.isList;exact PySem.W.kia_one PySem.W.kitx_list I.kIn ⟨o,ho,hc⟩ (ko "list" (by decide) rfl) (fun z=>nomatch z) fin
 | tup ds =>
  obtain⟨a,vs,rfl,h1,_⟩:=b1;cases (show u=Value.ref a from rx);obtain⟨its,_,pl,_⟩:=I.tuple h1.sq;obtain⟨o,ho,hc,_⟩:=pl;exact PySem.W.kia_one PySem.W.kitx_tuple I.kIn ⟨o,ho,hc⟩ (ko "tuple" (by decide) rfl) (fun z=>nomatch z) fin
 | dk ds =>
  obtain⟨a,vs,rfl,h1,_⟩:=b1;exact fW I rx (.dK h1) (ko "dict" (by decide) rfl) fin
 | dt ds =>
  obtain⟨a,ep,vs,rfl,_,h1,_⟩:=b1;exact fW I rx (.dT h1) (ko "dict" (by decide) rfl) fin
theorem oj (l:Addr) (its:Array Value) (n:Nat) (b:Addr) (more:Array Value) (m:Nat) (dd:Option Addr) (sl:Array (Option Value)) (h0:¬(!its.isEmpty&&Builtin.List.listTooLong (its.size+more.size))=true) (h1:its.size<=sizeLine) (h2:its.size+more.size<=sizeLine+1) :
  Meets (Builtin.«list.extend» ⟨[.ref l,.ref b],[]⟩) (fun _ R s=>s.heap.get? l=some { cls:=.type "list",dict:=none,data:=.seq its n,slots:=#[] }/\s.heap.get? b=some { cls:=.type "tuple",dict:=dd,data:=.seq more m,slots:=sl }/\R (.ok (.ret Value.none)) { s with heap:=s.heap.update l (Obj.mapSeq fun x=>x++more),toks:=s.toks }) :=
 .of_wp fun prog w A R s0 hh=>by
  obtain⟨hp,gg,dp,tks,oo⟩:=s0;obtain⟨hl,hb,hR⟩:=hh;have a1:=AutoSeq1.idx_int;have a2:=AutoSeq1.sub_tuple_tuple;have a3:=AutoSeq1.sub_list_list;have a4:=AutoSeq1.sub_tuple_list;have a5:=AutoSeq1.sub_list_tuple;have fits:(its++more).size<=sizeLine+1:=by
   rw[Array.size_append];exact h2
  wp_walk using (wpAny_updateSeq hl rfl (hz:=h1) (_hz':=fits)),wpAny_loadPart' hl,wpAny_loadPart' hb
  exact⟨_,rfl,hR⟩
def Gf (K:PySem.W.Frag):V->List V->Hp->VK->Prop:=fun x vs H Q=>∃l b xs zs,x=.ref l/\vs=[.ref b]/\H l=some (.lst xs)/\mV K H b zs/\xs.length+zs.length<=sizeLine/\Q .non (upd H l (.lst (xs++zs)))
theorem Ea (h:X.K=K):JS X "list.extend" (Gf K):=by
 subst h;intro pins s σ H x vs v us Q I rx rv h;obtain⟨l,b,xs,zs,rfl,rfl,hH,hB,hz,q⟩:=h;cases rx;obtain⟨u,rfl,ru⟩:=rv.one;cases ru;obtain⟨z,its,n,r,hl,e⟩:=I.lstM hH;obtain⟨its2,r2,pl,hz2⟩:=I.tuple hB;obtain⟨⟨c2,dd2,d2,sl2⟩,ho2,hc2,n2,hd2⟩:=id pl;obtain rfl:c2=.type "tuple":=hc2;obtain rfl:d2=.seq its2.toArray n2:=hd2;have hl2:=r2.length;have hsz:its.toArray.size+its2.toArray.size<=sizeLine:=by rw[Qb,Qb];lia
 have hlong:¬ (!its.toArray.isEmpty&&Builtin.List.listTooLong (its.toArray.size+its2.toArray.size))=true:=by
  rw[t5 hsz,Bool.and_false];exact Yd
 refine AB F.slot_list_extend ⟨_,e,rfl⟩ F.entry_list_extend (F.args_list_extend_2 _ _)
  (oj l its.toArray n b its2.toArray n2 dd2 sl2 hlong (by rw[Qb];lia) (by lia)) ⟨e,ho2,?_⟩
 refine⟨.non,_,I.lset (its':=its++its2) hH e (by simp) (r.append r2) ?_,rfl,q⟩
 rw[Wa];lia
def Gg (K:PySem.W.Frag):V->List V->Hp->VK->Prop:=fun x vs H Q=>wL x vs H Q∨Gf K x vs H Q
theorem vI (h:X.K=K) (_:X.calm=true):JS X "list.extend" (Gg K):=by
 intro pins s σ H x vs v us Q I rx rv hh;rcases hh with hh|hh
 ·exact yj pins s σ H x vs v us Q I rx rv hh
 ·exact Ea h pins s σ H x vs v us Q I rx rv hh
def sC:D->List D->Option (D×D)
 | .lst xs,[.lst ys]=>if xs.length+ys.length<=1000000 then some (.non,.lst (xs++ys)) else none
 | .lst xs,[.tup ys]=>if xs.length+ys.length<=1000000 then some (.non,.lst (xs++ys)) else none
 | _,_=>none
theorem yy:RdM K "list" (Gg K) qR sC:=⟨fun Y H p x h e=>LR h e,fun Y H p x vs ds y x' Q hp ho el e q=>by
 cases x with
 | lst xs =>
  cases ds with
  | nil=>cases e
  | cons d ds =>
   cases ds with
   | cons _ _=>cases d<;>cases e
   | nil =>
    obtain⟨ws,h1,h2⟩:=ho;obtain⟨v,r,rfl,da,el⟩:=el.uncons;obtain rfl:=el.unnil;cases d with
    | lst ys =>
     obtain⟨c,e⟩:=bo e;cases e;cases da with
     | @lst a us _ g0 g1 g2 g3=>exact .inl ⟨p,a,ws,us,rfl,rfl,h1,g1,by rw[h2.1,g2];exact few c,q .non _ .non ⟨_,aG,(h2.app ⟨g2,g3⟩).upd hp⟩⟩
    | tup ys =>
     obtain⟨c,e⟩:=bo e;cases e;cases da with
     | @tup a us _ g1 g2 g3=>exact .inr ⟨p,a,ws,us,rfl,rfl,h1,g1.sq,by rw[h2.1,g2];exact few c,q .non _ .non ⟨_,aG,(h2.app ⟨g2,g3⟩).upd hp⟩⟩
    | _=>cases e
 | _=>cases e⟩
def Kl (K:PySem.W.Frag) (tl:TE):TI:=fun σ H R=>wz K tl σ H R∨(G2 K tl σ H R∨Ht tl σ H R)
theorem fJ (h:X.K=K) (hl:PE X l tl):PI X tg l (Kl K tl):=by
 subst h;intro pins s σ H R I hh;rcases hh with hh|hh|hh
 ·exact DF hl pins s σ H R I hh
 ·exact G6 hl pins s σ H R I hh
 ·exact Hu hl pins s σ H R I hh
def lB (fe:FE):FI:=fun st=>match Jp fe st with
 | some z=>some z
 | none=>match LE fe st with
  | some z=>some z
  | none=>Mi fe st
theorem fK (h:d7 K te fe):RdI K (Kl K te) (lB fe):=by
 intro st σ H O Z R E items st' e q;unfold lB at e;split at e
 ·rename_i z ez
  cases e;exact .inl (DW h st σ H O Z R E items st' ez q)
 ·split at e
  ·rename_i z ez
   cases e;exact .inr (.inl (HA h st σ H O Z R E items st' ez q))
  ·exact .inr (.inr (HD h st σ H O Z R E items st' e q))
theorem Eb (xs:List Str):El K Y H (xs.map V.str) (xs.map D.str):=by
 refine⟨by simp,fun i v d h1 h2=>?_⟩
 rw[Zg]at h1 h2;obtain⟨c,e1,rfl⟩:=Zh.mp h1;rw[e1]at h2;obtain rfl:=Option.some.inj h2;exact .str _
end
end VF
namespace VF
open PySem L2
section
variable {K:PySem.W.Frag}
def Ec (g:D->List D->Option (Rz×D)) (i:Nat) (dds:List D) (fr:FA):FE:=fun st=>(st[i]?).bind fun s0=>(s0.ow).bind fun _=>(fr st).bind fun x=>(cq x.1 x.2).bind fun y=>(y.2[i]?).bind fun s=>(s.ow).bind fun d=>(g d (y.1++dds)).bind fun z=>some (mk z.1,y.2.set i (s.put z.2))
theorem H9 (hd:∀Y H,El K Y H dvs dds) (hr:oB K tr fr):d7 K (F3 (jt K g) dvs (br (tR i) tr)) (Ec g i dds fr):=by
 intro st σ H O Z Q E r0 st' h q;refine b9 h fun s0 f1 h=>?_;refine b9 h fun x0 f2 h=>?_;refine cZ h fun rs st1 e1 h=>?_;refine cZ h fun ds st2 e2 h=>?_;refine b9 h fun s e3 h=>?_;refine b9 h fun x e4 h=>?_;refine cZ h fun z x' e5 h=>?_;cases h;obtain⟨p,g1,_,_⟩:=E.own i s0 x0 f1 f2;refine⟨.ref p,g1,?_⟩;refine hr st σ H O Z _ E rs st1 e1 fun vs H1 O1 x1 k1 E1 rvs=>?_;obtain⟨O2,x2,k2,E2,el⟩:=rvs.esc E1 e2;exact nU E2 e3 e4 g1 (el.app (hd _ _)) e5 fun v H' O' ex kk E' rv w=>q v H' O' ((x1.trans x2).trans ex) ((k1.trans k2).trans kk) E' rv (w.back (x1.trans x2))
theorem gx {X:Cx} (hg:Gl X x) (hm:X.mg x=none) (hv:bootBuiltins x=some (.type T)) (hn:x≠"__name__":=by decide) (hd:(x == ("__debug__":Str))=false:=by decide):PE X (.Name x pos) (tC (.ty T)):=DB hg hm hv rfl hn hd
def w6 (K:PySem.W.Frag):Sp:=fun vs H Q _=>∃(a:Addr) (ns:List Int),vs=[.ref a]/\i5 K H a (ns.map V.int)/\ns.length<=63/\∀H',Q (.bl true) H'
end
end VF
namespace VF
open PySem L2
inductive Dp:Nat->D->Prop where
 | bl (n:Nat) (b:Bool):Dp (n+1) (.bl b)
 | int (n:Nat) (i:Int):Dp (n+1) (.int i)
 | str (n:Nat) (x:Str):Dp (n+1) (.str x)
 | non (n:Nat):Dp (n+1) .non
 | tup {n:Nat} {ds:List D}:ds.length<=1000000->(∀d∈ds,Dp n d)->Dp (n+1) (.tup ds)
 | lst {n:Nat} {ds:List D}:ds.length<=1000000->(∀d∈ds,Dp n d)->Dp (n+1) (.lst ds)
open Classical in
noncomputable def eX (n:Nat):List D->Option Rz
 | [u,v]=>if u=v/\Dp n u then some (.bl true,false) else none
 | _=>none
open Classical in
theorem lC (h:Dp n u):eX n [u,u]=some (.bl true,false):=by
 show(if u=u/\Dp n u then some (D.bl true,false) else none)=_;rw[Af ⟨rfl,h⟩]
theorem qS (h:eX n ds=some z):∃u,ds=[u,u]/\Dp n u/\z=(.bl true,false):=by
 unfold eX at h;split at h
 ·rename_i u v
  by_cases c:u=v/\Dp n u
  ·rw[Af c]at h;obtain⟨rfl,c⟩:=c;exact⟨u,rfl,c,(Option.some.inj h).symm⟩
  ·rw[Ah c]at h;cases h
 ·cases h
end VF
namespace VF
open PySem L2
section
variable {st st1 st2 st3 s s1 s2:En} {r r1 r2:Rs} {d d1 d2 x y x':D} {ds es:List D} {rs:List Rs} {z:Rz} {o:Ot} {i k n m:Nat} {F G B:FS} {fa fb fe fi':FE} {fr:FA} {f g:FT} {fi:FI} {fg:FG} {caps:List Nat}
theorem af (h:F st=some (.nx s)) (h2:G s=a):aM F G st=a:=by simp only[aM,h,Ya];exact h2
theorem cW (h:F st=some (.rt r s)):aM F G st=some (.rt r s):=by simp only[aM,h,Ya]
theorem iW (h:f st=some (true,s)) (h2:F s=a):gP f F G st=a:=by simp only[gP,h,Ya,if_true];exact h2
theorem gE (h:f st=some (false,s)) (h2:G s=a):gP f F G st=a:=by simp only[gP,h,Ya,Xe,if_false];exact h2
theorem cH (h:fe st=some (.d x,s)) (h2:mj i (.v x) s=some s1):bn fe i st=some (.nx s1):=by simp only[bn,h,Ya,h2]
theorem hJ (h:fe st=some (.f x,s)) (h2:mj i (.o x) s=some s1):bn fe i st=some (.nx s1):=by simp only[bn,h,Ya,h2]
theorem dB (h:fe st=some (r,s)):fz fe st=some (.nx s):=by simp only[fz,h,Ya]
theorem bE (h:fe st=some (r,s)):bR fe st=some (.rt r s):=by simp only[bR,h,Ya]
theorem aq (h1:fa st=some (r1,s1)) (h2:fb s1=some (r2,s2)) (h3:cont s2 r1=some d1) (h4:cont s2 r2=some d2) (h5:b d1 d2=some z) (hz:mk z=r:=by rfl):aL b fa fb st=some (r,s2):=by
 simp only[aL,h1,h2,h3,h4,h5,hz,Ya]
theorem ak (h1:fa st=some (r,s1)) (h2:fr s1=some (rs,s2)):ac fa fr st=some (r::rs,s2):=by simp only[ac,h1,h2,Ya]
theorem cP (h1:fr st=some (rs,s1)) (h2:fG s1 rs=some ds) (h3:b ds=some z) (hz:mk z=r:=by rfl):dL b fr st=some (r,s1):=by simp only[dL,h1,h2,h3,hz,Ya]
theorem cE (h1:fr st=some (rs,s1)) (h2:cq rs s1=some (ds,s2)) (h3:b ds=some z) (hz:mk z=r:=by rfl):dJ b fr st=some (r,s2):=by simp only[dJ,h1,h2,h3,hz,Ya]
theorem cr (h1:fr st=some (rs,s1)) (h2:fG s1 rs=some ds) (h3:b ds=some (d,false)) (h4:d.isSc=true):eV b fr st=some (.d d,s1):=by
 simp only[eV,h1,h2,h3,Ya,h4];rfl
theorem bJ {t t0:Sl} (h0:st[i]?=some t0) (h00:t0.ow=some x0) (h1:fr st=some (rs,s1)) (h2:cq rs s1=some (ds,s2)) (h3:s2[i]?=some t) (h4:t.ow=some x) (h5:b x ds=some (z,x')) (hz:mk z=r:=by rfl) (h6:s2.set i (t.put x')=st3:=by rfl):eW b i fr st=some (r,st3):=by
 simp only[eW,h0,h00,h1,h2,h3,h4,h5,h6,hz,Ya]
theorem Ia {t t0:Sl} (h0:st[i]?=some t0) (h00:t0.ow=some x0) (h1:fr st=some (rs,s1)) (h2:cq rs s1=some (ds,s2)) (h3:s2[i]?=some t) (h4:t.ow=some x) (h5:b x (ds++es)=some (z,x')) (hz:mk z=r:=by rfl) (h6:s2.set i (t.put x')=st3:=by rfl):Ec b i es fr st=some (r,st3):=by
 simp only[Ec,h0,h00,h1,h2,h3,h4,h5,h6,hz,Ya]
theorem mt {t t0:Sl} (h0:st[i]?=some t0) (h00:t0.ow=some x0) (hk:ok x0=true) (h1:fr st=some (rs,s1)) (h2:cq rs s1=some (ds,s2)) (h3:s2[i]?=some t) (h4:t.ow=some x) (h5:mm x ds=some (y,x')) (h6:s2.set i (t.put x')=st3:=by rfl):fM ok mm i fr st=some (.d y,st3):=by
 simp only[fM,h0,h00,hk,h1,h2,h3,h4,h5,h6,Ya,if_true]
theorem aK (h:fe st=some (r,s)) (h2:F6 s r=some c):aO fe st=some (c,s):=by simp only[aO,h,h2,Ya]
theorem fL (h:f st=some (c,s)):jH f st=some (!c,s):=by simp only[jH,h,Ya]
theorem qT (h:f st=some (true,s)) (h2:g s=a):mi f g st=a:=by simp only[mi,h,Ya,if_true];exact h2
theorem Gh (h:f st=some (false,s)):mi f g st=some (false,s):=by simp only[mi,h,Ya,Xe,if_false]
theorem lD (h:f st=some (false,s)) (h2:g s=a):lh f g st=a:=by simp only[lh,h,Ya,Xe,if_false];exact h2
theorem Ed (h:f st=some (true,s)):lh f g st=some (true,s):=by simp only[lh,h,Ya,if_true]
theorem jP (h:fa st=some (r,s)) (h1:F6 s r=some true) (h2:fb s=a):js fa fb st=a:=by simp only[js,h,h1,Ya,if_true];exact h2
theorem d8 (h1:fi st=some (ds,s1)) (h2:(i9 caps s1.length&&decide (ds.length<=1000000))=true) (h3:gJ fg fc fe k ds (g9 k caps s1)=some (es,s2)) (h4:wb caps (s2.drop k) s1=st3:=by rfl):cY k caps fi fg fc fe st=some (.f (.lst es),st3):=by
 simp only[cY,h1,Ya];rw[Af h2,h3,← h4];rfl
theorem iP (h1:fi st=some (ds,s1)) (h2:iw fg B ds s1=some o):kK fi fg B st=some o:=by simp only[kK,h1,Ya];exact h2
theorem bY (h0:ds.length=m) (h1:F (iK n ds)=some o) (h2:fin o=some z):cG F n m ds=some z:=by
 simp only[cG,Af h0,h1,Ya];exact h2
theorem cu (h0:ds.length+1=m) (h1:F (iL n x ds)=some o) (h2:F7 o=some w):df F n m x ds=some w:=by
 simp only[df,Af h0,h1,Ya];exact h2
theorem qU (h:D->D):∀(items:List D) (sb:En),(∀x∈items,∃s1 s2 y s3 s4,fg x sb=some s1/\fc s1=some (true,s2)/\fe s2=some (y,s3)/\esc y s3=some (h x,s4)/\m9 k s4=sb)->gJ fg fc fe k items sb=some (items.map h,sb)
 | [],sb,_=>rfl
 | x::r,sb,hh=>by
  obtain⟨s1,s2,y,s3,s4,e1,e2,e3,e4,e5⟩:=hh x Va;have ih:=qU h r sb fun z hz=>hh z (Yb _ hz);simp only[gJ,e1,e2,e3,e4,Ya,if_true,e5,ih,Ze]
theorem qV (I:List D->En->Prop) (step:∀(pre:List D) (x:D) (sb:En),I pre sb->∃s1 s2 y s3 d s4,fg x sb=some s1/\fc s1=some (true,s2)/\fe s2=some (y,s3)/\esc y s3=some (d,s4)/\I (pre++[d]) (m9 k s4)) :
  ∀(items:List D) (pre:List D) (sb:En),I pre sb->∃ds sf,gJ fg fc fe k items sb=some (ds,sf)/\ds.length=items.length/\I (pre++ds) sf
 | [],pre,sb,h=>⟨[],sb,rfl,rfl,by rw[Wc];exact h⟩
 | x::r,pre,sb,h=>by
  obtain⟨s1,s2,y,s3,d,s4,e1,e2,e3,e4,e5⟩:=step pre x sb h;obtain⟨ds,sf,e6,e7,e8⟩:=qV I step r (pre++[d]) (m9 k s4) e5;refine⟨d::ds,sf,?_,by simp[e7],by rw[Wd]at e8;exact e8⟩
  simp only[gJ,e1,e2,e3,e4,Ya,if_true,e6]
theorem vJ (I:Nat->En->Prop) (Out:En->Prop) (step:∀(m:Nat) (st:En),I m st->(∃s1,f st=some (false,s1)/\Out s1)∨∃s1 s2 m',f st=some (true,s1)/\B s1=some (.nx s2)/\m'<m/\I m' s2) :
  ∀(n m:Nat) (st:En),m<n->I m st->∃sf,Du f B n st=some (.nx sf)/\Out sf
 | 0,m,st,hn,_=>absurd hn (Nat.not_lt_zero _)
 | n+1,m,st,hn,h=>by
  rcases step m st h with⟨s1,e1,ho⟩|⟨s1,s2,m',e1,e2,hm,h2⟩
  ·exact⟨s1,by simp only[Du,e1,Ya,Xe,if_false],ho⟩
  ·obtain⟨sf,e3,ho⟩:=vJ I Out step n m' s2 (by lia) h2
   exact⟨sf,by simp only[Du,e1,e2,Ya,if_true];exact e3,ho⟩
end
end VF
namespace VF
open PySem L2
theorem ix_str {z:Str} (hz:z.length<=1000000) (h:mf z.cps.toList i=some c):cK (.str z) (.int i)=some (.str ⟨#[c]⟩,false):=by
 have e1:zT (.str z) (.int i)=none:=rfl;have e2:D5 (.str z) (.int i)=none:=rfl;have e3:HP (.str z) (.int i)=some (.str ⟨#[c]⟩,false):=by
  show(if z.length<=1000000 then(mf z.cps.toList i).bind (fun c=>some (D.str ⟨#[c]⟩,false)) else none)=_;rw[Af hz,h];rfl
 unfold cK ng;rw[e1,e2];exact e3
theorem ku {a b:Str} (h:a.length+b.length<=1000000):fB (.str a) (.str b)=some (.str (a++b),false):=by
 have e1:uf (.str a) (.str b)=none:=rfl;have e2:wU (.str a) (.str b)=some (.str (a++b),false):=by
  show(if a.length+b.length<=1000000 then some (D.str (a++b),false) else none)=_;rw[Af h]
 unfold fB ng;rw[e1,e2]
theorem w9 {a:Str} (h:0<=n/\n<=1000/\a.length<=1000):mo (.str a) (.int n)=some (.str (Txt.mul a n),false):=by
 have e1:wT (.str a) (.int n)=none:=rfl;have e2:zR (.str a) (.int n)=some (.str (Txt.mul a n),false):=by
  show(if 0<=n/\n<=1000/\a.length<=1000 then some (D.str (Txt.mul a n),false) else none)=_;rw[Af h]
 unfold mo ng;rw[e1,e2]
theorem pq:∀xs:List Str,ni (xs.map D.str)=some xs
 | []=>rfl
 | x::r=>by
  show(ni (r.map D.str)).bind (fun xs=>some (x::xs))=_;rw[pq r];rfl
theorem kx:∀xs:List Str,jO (xs.map D.str)=some (xs.map V.str)
 | []=>rfl
 | x::r=>by
  show(jO (r.map D.str)).bind (fun vs=>some (V.str x::vs))=_;rw[kx r];rfl
theorem qW:∀n:Nat,mq (List.replicate n (D.bl true))=some (List.replicate n true)
 | 0=>rfl
 | n+1=>by
  show(mq (List.replicate n (D.bl true))).bind (fun bs=>some (true::bs))=_;rw[qW n];rfl
theorem uo (n:Nat):vE [.lst (List.replicate n (D.bl true))]=some (.bl true,false):=by
 show(mq (List.replicate n (D.bl true))).bind (fun bs=>some (D.bl (bs.all id),false))=_;rw[qW];show some (D.bl ((List.replicate n true).all id),false)=_;have:(List.replicate n true).all id=true:=by
  rw[Qf];intro b hb;exact BT hb
 rw[this]
theorem uq {xs:List Str}:yt (.str x) (.lst (xs.map D.str))=some (.bl (decide (x∈xs)),false):=by
 have e1:sv false (.str x) (.lst (xs.map D.str))=none:=rfl;have e2:ph false (.str x) (.lst (xs.map D.str))=some (.bl (decide (x∈xs)),false):=by
  show(jO (xs.map D.str)).bind (fun ws=>some (D.bl (vc (.str x) ws),false))=_;rw[kx];show some (D.bl (vc (.str x) (xs.map V.str)),false)=_;have e:vc (.str x) (xs.map V.str)=decide (x∈xs):=by
   unfold vc;rw[BK];induction xs with
   | nil=>rfl
   | cons y r ih =>
    rw[Ym,ih rfl];show((y == x)||decide (x∈r))=_;by_cases e:y=x
    ·subst e;simp
    ·have e':¬ x=y:=fun z=>e z.symm;simp[e,e']
  rw[e]
 unfold yt ng;rw[e1];exact e2
theorem z9 {z:Str} (h:z.length<=1000000):D6 (.str z) lo hi=some (.str (Txt.slice z lo hi),false):=by
 have e1:HR (.str z) lo hi=none:=rfl;have e2:zU (.str z) lo hi=none:=rfl;have e3:HS (.str z) lo hi=some (.str (Txt.slice z lo hi),false):=by
  show(if z.length<=1000000 then some (D.str (Txt.slice z lo hi),false) else none)=_;rw[Af h]
 unfold D6 Js;rw[e1,e2];exact e3
section
variable {st s s1 s2 s3:En} {r r1:Rs} {rs:List Rs} {d d0 d1:D} {ds:List D} {z:Rz} {fe fo:FE} {fa:FA} {fl fh:FO}
theorem xa (h1:fo st=some (r1,s1)) (h2:cont s1 r1=some d0) (h3:HU T d0=true) (h4:fa s1=some (rs,s2)) (h5:cont s2 r1=some d) (h6:fG s2 rs=some ds) (h7:b d ds=some z) (hz:mk z=r:=by rfl):Gd T b fo fa st=some (r,s2):=by
 simp only[Gd,h1,h2,h3,h4,h5,h6,h7,hz,Ya,if_true]
theorem ky {j:Int} (h1:fa st=some (rs,s1)) (h2:fG s1 rs=some [.int j]) (h3:-(2 ^ 62)<=j/\j<2 ^ 62):lj fa st=some (rng 0 j.toNat,s1):=by
 simp only[lj,h1,h2,Ya,HB];rw[Af h3]
theorem cQ (h1:fe st=some (r,s1)) (h2:fl s1=some (lo,s2)) (h3:fh s2=some (hi,s3)) (h4:cont s3 r=some d) (h5:b d lo hi=some z) (hz:mk z=r':=by rfl):gl b fe fl fh st=some (r',s3):=by
 simp only[gl,h1,h2,h3,h4,h5,hz,Ya]
theorem Gi {f:FT} {fa fb:FE} {a:Option (Rs×En)} (h:f st=some (true,s)) (h2:fa s=a):Jo f fa fb st=a:=by simp only[Jo,h,Ya,if_true];exact h2
theorem Gj {f:FT} {fa fb:FE} {a:Option (Rs×En)} (h:f st=some (false,s)) (h2:fb s=a):Jo f fa fb st=a:=by simp only[Jo,h,Ya,Xe,if_false];exact h2
theorem kO (h1:fe st=some (r,s1)) (h2:esc r s1=some (.lst ds,s2)):lB fe st=some (ds,s2):=by
 have:Jp fe st=some (ds,s2):=by simp only[Jp,h1,h2,Ya,D.its]
 unfold lB;rw[this]
theorem xb (h1:fe st=some (r,s1)) (h2:esc r s1=some (.tup ds,s2)):lB fe st=some (ds,s2):=by
 have e1:Jp fe st=none:=by simp only[Jp,h1,h2,Ya,D.its,Option.bind_none]
 have e2:LE fe st=some (ds,s2):=by simp only[LE,h1,h2,Ya,D.itt]
 unfold lB;rw[e1,e2]
theorem px (h1:fa st=some (rs,s1)) (h2:cq rs s1=some (ds,s2)) (h3:ds.length<=1000000):r6 fa st=some (.d (.tup ds),s2):=by
 simp only[r6,h1,h2,Ya];rw[Af h3]
end
theorem jQ (all:List D) (I:List D->En->Prop) (step:∀(gone:List D) (x:D) (rest:List D) (st:En),all=gone++x::rest->I gone st->∃s1 s2,fg x st=some s1/\B s1=some (.nx s2)/\I (gone++[x]) s2) :
  ∀(items gone:List D) (st:En),all=gone++items->I gone st->∃sf,iw fg B items st=some (.nx sf)/\I all sf
 | [],gone,st,ha,h=>⟨st,rfl,by rw[ha,Wc];exact h⟩
 | x::r,gone,st,ha,h=>by
  obtain⟨s1,s2,e1,e2,e3⟩:=step gone x r st ha h;obtain⟨sf,e4,e5⟩:=jQ all I step r (gone++[x]) s2 (by rw[Wd];exact ha) e3
  refine⟨sf,?_,e5⟩;simp only[iw,e1,e2,Ya];exact e4
theorem qX (all:List D) (I:List D->List D->En->Prop) (step:∀(gone:List D) (x:D) (rest pre:List D) (sb:En),all=gone++x::rest->I gone pre sb->∃s1 s2 y s3 d s4,fg x sb=some s1/\fc s1=some (true,s2)/\fe s2=some (y,s3)/\esc y s3=some (d,s4)/\I (gone++[x]) (pre++[d]) (m9 k s4)) :
  ∀(items gone pre:List D) (sb:En),all=gone++items->I gone pre sb->∃ds sf,gJ fg fc fe k items sb=some (ds,sf)/\I all (pre++ds) sf
 | [],gone,pre,sb,ha,h=>⟨[],sb,rfl,by rw[ha,Wc,Wc];exact h⟩
 | x::r,gone,pre,sb,ha,h=>by
  obtain⟨s1,s2,y,s3,d,s4,e1,e2,e3,e4,e5⟩:=step gone x r pre sb ha h;obtain⟨ds,sf,e6,e8⟩:=qX all I step r (gone++[x]) (pre++[d]) (m9 k s4) (by rw[Wd];exact ha) e5
  refine⟨d::ds,sf,?_,by rw[Wd]at e8;exact e8⟩
  simp only[gJ,e1,e2,e3,e4,Ya,if_true,e6]
end VF
namespace VF
open PySem L2
inductive Pl:Nat->D->Prop where
 | non (n:Nat):Pl (n+1) .non
 | int (n:Nat) (i:Int):Pl (n+1) (.int i)
 | str (n:Nat) (x:Str):Pl (n+1) (.str x)
 | tup {n:Nat} {ds:List D}:(∀d∈ds,Pl n d)->Pl (n+1) (.tup ds)
 | lst {n:Nat} {ds:List D}:(∀d∈ds,Pl n d)->Pl (n+1) (.lst ds)
inductive RH (h:Heap):Value->D->Prop where
 | non:RH h .none .non
 | int (i:Int) (t:Tok):RH h (.int i t) (.int i)
 | str (x:Str) (t:Tok):RH h (.str x t) (.str x)
 | tup {a:Addr} {its:List Value} {ds:List D}:h.IsTuple a its.toArray->its.length=ds.length->(∀(i:Nat) u d,its[i]?=some u->ds[i]?=some d->RH h u d)->RH h (.ref a) (.tup ds)
 | lst {a:Addr} {its:List Value} {ds:List D}:h.IsList a its.toArray->its.length=ds.length->(∀(i:Nat) u d,its[i]?=some u->ds[i]?=some d->RH h u d)->RH h (.ref a) (.lst ds)
section
variable {X:Cx} {K:PySem.W.Frag} {Y:AS} {H:Hp} {s:Shared} {pins:List (Addr×Obj)} {σ:St}
theorem kz:∀{vs:List V} {us:List Value},Vals vs us->∀(i:Nat) u,us[i]?=some u->∃v,vs[i]?=some v/\RelV v u
 | _,_,.nil,i,u,h=>by simp at h
 | v::_,w::_,.cons r rs,0,u,h=>by
  have e:w=u:=by simpa using h
  exact⟨v,rfl,e ▸ r⟩
 | _::_,_::_,.cons r rs,i+1,u,h=>by
  obtain⟨v,h1,h2⟩:=kz rs i u (by simpa using h)
  exact⟨v,by simpa using h1,h2⟩
theorem DA.rh (h:DA K Y H v d) (p:Pl n d) (I:Inv X pins σ H s) (hK:X.K=K):∀{u:Value},RelV v u->RH s.heap u d:=by
 induction h generalizing n with
 | non=>intro u r;cases r;exact .non
 | bl b=>cases p
 | int i=>intro u r;obtain⟨t,rfl⟩:=r;exact .int i t
 | str x=>intro u r;obtain⟨t,rfl⟩:=r;exact .str x t
 | ty n=>cases p
 | fl _ _ _ _=>cases p
 | dk _ _ _ _ _=>cases p
 | dt _ _ _ _ _ _=>cases p
 | xc _=>cases p
 | @tup a vs ds h1 h2 h3 ih =>
  intro u r;cases r;cases p with
  | tup p =>
   obtain⟨its,r,t,_⟩:=I.tuple (hK ▸ h1.sq);refine .tup t (r.length.symm.trans h2) fun i u d e1 e2=>?_;obtain⟨v,e3,rv⟩:=kz r i u e1;exact ih i v d e3 e2 (p d (Yg e2)) rv
 | @lst a vs ds h0 h1 h2 h3 ih =>
  intro u r;cases r;cases p with
  | lst p =>
   obtain⟨its,r,t,_⟩:=I.list (show i5 X.K H a vs from .inl (.inl h1));refine .lst t.isList (r.length.symm.trans h2) fun i u d e1 e2=>?_;obtain⟨v,e3,rv⟩:=kz r i u e1;exact ih i v d e3 e2 (p d (Yg e2)) rv
theorem BA.rh (h:BA K Y H v d) (p:Pl n d) (I:Inv X pins σ H s) (hK:X.K=K) (ru:RelV v u):RH s.heap u d:=by
 cases p with
 | non=>cases (show v=.non from h);cases ru;exact .non
 | int _ i=>cases (show v=.int i from h);obtain⟨t,rfl⟩:=ru;exact .int i t
 | str _ x=>cases (show v=.str x from h);obtain⟨t,rfl⟩:=ru;exact .str x t
 | tup p =>
  obtain⟨a,vs,rfl,h1,el⟩:=h;cases ru;obtain⟨its,r,t,_⟩:=I.tuple (hK ▸ h1.sq);refine .tup t (r.length.symm.trans el.1) fun i u d e1 e2=>?_;obtain⟨v,e3,rv⟩:=kz r i u e1;exact(el.2 i v d e3 e2).rh (p d (Yg e2)) I hK rv
 | lst p =>
  obtain⟨a,vs,rfl,h1,el⟩:=h;cases ru;obtain⟨its,r,t,_⟩:=I.list (show i5 X.K H a vs from .inl (.inl h1));refine .lst t.isList (r.length.symm.trans el.1) fun i u d e1 e2=>?_;obtain⟨v,e3,rv⟩:=kz r i u e1;exact(el.2 i v d e3 e2).rh (p d (Yg e2)) I hK rv
theorem yz {h:Heap} (h1:h.IsTuple a x) (h2:h.IsTuple a y):x=y:=by
 obtain⟨o,e1,_,n,d1⟩:=h1;obtain⟨o',e2,_,n',d2⟩:=h2;rw[e1]at e2;cases e2;rw[d1]at d2;cases d2;rfl
theorem vK {h:Heap} (h1:h.IsList a x) (h2:h.IsList a y):x=y:=by
 obtain⟨o,e1,_,n,d1⟩:=h1;obtain⟨o',e2,_,n',d2⟩:=h2;rw[e1]at e2;cases e2;rw[d1]at d2;cases d2;rfl
theorem ur {h:Heap} (h1:h.IsList a x) (h2:h.IsTuple a y):False:=by
 obtain⟨o,e1,c1,_⟩:=h1;obtain⟨o',e2,c2,_⟩:=h2;rw[e1]at e2;cases e2;rw[c1]at c2;injection c2 with c2;exact absurd c2 (by decide)
theorem RH.inj (r:RH h u d):∀{d':D},RH h u d'->d=d':=by
 induction r with
 | non=>intro d' r';cases r';rfl
 | int i t=>intro d' r';cases r';rfl
 | str x t=>intro d' r';cases r';rfl
 | @tup a its ds t hl _ ih =>
  intro d' r';cases r' with
  | @tup _ its' ds' t' hl' f =>
   have e:its=its':=by simpa using yz t t'
   subst e;have:ds=ds':=by
    refine List.ext_getElem (hl.symm.trans hl') fun i h1 h2=>?_;exact ih i its[i] ds[i] (Qa (by lia)) (Qa h1) (f i its[i] ds'[i] (Qa (by lia)) (Qa h2))
   rw[this]
  | lst t' _ _=>exact(ur t' t).elim
 | @lst a its ds t hl _ ih =>
  intro d' r';cases r' with
  | @lst _ its' ds' t' hl' f =>
   have e:its=its':=by simpa using vK t t'
   subst e;have:ds=ds':=by
    refine List.ext_getElem (hl.symm.trans hl') fun i h1 h2=>?_;exact ih i its[i] ds[i] (Qa (by lia)) (Qa h1) (f i its[i] ds'[i] (Qa (by lia)) (Qa h2))
   rw[this]
  | tup t' _ _=>exact(ur t t').elim
open Classical in
theorem Ab {xs ys:List D} (h:xs.length=ys.length):((List.range xs.length).all fun j=>decide (xs[j]?=ys[j]?))=decide (xs=ys):=by
 rw[Vg,Qf,decide_eq_true_eq];constructor
 ·intro e;refine BJ fun j=>?_;by_cases hj:j<xs.length
  ·exact An (e j (Yj.mpr hj))
  ·rw[BZ (by lia),BZ (by lia)]
 ·rintro rfl j _;exact Ae rfl
open Classical in
theorem eq3 {d1 d2:D} {u1 u2:Value} {A:Around} (h:¬ d1=d2) (a:SeqAt.EqAt A s u1 u2 false) (b:SeqAt.RcAt A s u1 u2 false) (c:SeqAt.RcNeAt A s u1 u2 true) :
  SeqAt.EqAt A s u1 u2 (decide (d1=d2))/\SeqAt.RcAt A s u1 u2 (decide (d1=d2))/\SeqAt.RcNeAt A s u1 u2 (!decide (d1=d2)):=by
 rw[Ag h];exact⟨a,b,c⟩
open Classical in
theorem Mk {s:Shared} {its its':List Value} {ds ds':List D} (hl:its.length=ds.length) (hl':its'.length=ds'.length) (f:∀(j:Nat) u d,its[j]?=some u->ds[j]?=some d->RH s.heap u d) (f':∀(j:Nat) u d,its'[j]?=some u->ds'[j]?=some d->RH s.heap u d) (p1:∀d∈ds,Pl n d) (p2:∀d∈ds',Pl n d)
  (ih:∀{d1 d2:D} {u1 u2:Value},Pl n d1->Pl n d2->RH s.heap u1 d1->RH s.heap u2 d2->SeqAt.EqAt A s u1 u2 (decide (d1=d2))) (j:Nat) (h1:j<its.toArray.size) (h2:j<its'.toArray.size):SeqAt.EqAt A s its.toArray[j] its'.toArray[j] (decide (ds[j]?=ds'[j]?)):=by
 have h1':j<its.length:=by simpa using h1
 have h2':j<its'.length:=by simpa using h2
 have e1:ds[j]?=some ds[j]:=Qa (hl ▸ h1');have e2:ds'[j]?=some ds'[j]:=Qa (hl' ▸ h2');have z:=ih (p1 _ (Yg e1)) (p2 _ (Yg e2)) (f j its[j] _ (Qa h1') e1) (f' j its'[j] _ (Qa h2') e2);have e:decide (ds[j]?=ds'[j]?)=decide (ds[j]=ds'[j]):=by rw[e1,e2,Vg];simp
 rw[e];exact z
open Classical in
theorem RH.eqAt:∀(n:Nat) {s:Shared} {d1 d2:D} {u1 u2:Value} {A:Around},Pl n d1->Pl n d2->RH s.heap u1 d1->RH s.heap u2 d2->A.units+n<cLine ->
  SeqAt.EqAt A s u1 u2 (decide (d1=d2))/\SeqAt.RcAt A s u1 u2 (decide (d1=d2))/\SeqAt.RcNeAt A s u1 u2 (!decide (d1=d2)):=by
 intro n;induction n with
 | zero=>intro s d1 d2 u1 u2 A p;cases p
 | succ n ih =>
  intro s d1 d2 u1 u2 A p1 p2 r1 r2 hu;have hu':A.units<cLine:=by lia
  cases r1 with
  | non =>
   cases r2 with
   | non=>rw[Ae rfl];exact⟨SeqAt.EqAt.same _,SeqAt.RcAt.none_none,SeqAt.RcNeAt.none_none⟩
   | int i t=>exact eq3 (by intro z;cases z) (SeqAt.EqAt.none_int _ _) (SeqAt.RcAt.none_int _ _) (SeqAt.RcNeAt.none_int _ _)
   | str x t=>exact eq3 (by intro z;cases z) (SeqAt.EqAt.none_str _ _) (SeqAt.RcAt.none_str _ _) (SeqAt.RcNeAt.none_str _ _)
   | tup t _ _=>exact eq3 (by intro z;cases z) (SeqAt.EqAt.none_tuple t hu') (SeqAt.RcAt.none_tuple t hu') (SeqAt.RcNeAt.none_tuple t hu')
   | lst t _ _=>exact eq3 (by intro z;cases z) (SeqAt.EqAt.none_list t hu') (SeqAt.RcAt.none_list t hu') (SeqAt.RcNeAt.none_list t hu')
  | int i t =>
   cases r2 with
   | non=>exact eq3 (by intro z;cases z) (SeqAt.EqAt.int_none _ _) (SeqAt.RcAt.int_none _ _) (SeqAt.RcNeAt.int_none _ _)
   | int j t' =>
    have e:decide (D.int i=D.int j)=(i == j):=by rw[Vg];simp
    rw[e];exact⟨SeqAt.EqAt.int_int _ _ _ _,SeqAt.RcAt.int_int _ _ _ _,SeqAt.RcNeAt.int_int _ _ _ _⟩
   | str x t'=>exact eq3 (by intro z;cases z) (Bx _ _ _ _) (SeqAt.RcAt.int_str _ _ _ _) (SeqAt.RcNeAt.int_str _ _ _ _)
   | tup t' _ _=>exact eq3 (by intro z;cases z) (SeqAt.EqAt.int_tuple _ _ t' hu') (SeqAt.RcAt.int_tuple _ _ t' hu') (SeqAt.RcNeAt.int_tuple _ _ t' hu')
   | lst t' _ _=>exact eq3 (by intro z;cases z) (SeqAt.EqAt.int_list _ _ t' hu') (SeqAt.RcAt.int_list _ _ t' hu') (SeqAt.RcNeAt.int_list _ _ t' hu')
  | str x t =>
   cases r2 with
   | non=>exact eq3 (by intro z;cases z) (SeqAt.EqAt.str_none _ _) (SeqAt.RcAt.str_none _ _) (SeqAt.RcNeAt.str_none _ _)
   | int j t'=>exact eq3 (by intro z;cases z) (Bw _ _ _ _) (SeqAt.RcAt.str_int _ _ _ _) (SeqAt.RcNeAt.str_int _ _ _ _)
   | str y t' =>
    have e:decide (D.str x=D.str y)=(x == y):=by rw[Vg];simp
    rw[e];exact⟨SeqAt.EqAt.str_str _ _ _ _,SeqAt.RcAt.str_str _ _ _ _,SeqAt.RcNeAt.str_str _ _ _ _⟩
   | tup t' _ _=>exact eq3 (by intro z;cases z) (SeqAt.EqAt.str_tuple _ _ t' hu') (SeqAt.RcAt.str_tuple _ _ t' hu') (SeqAt.RcNeAt.str_tuple _ _ t' hu')
   | lst t' _ _=>exact eq3 (by intro z;cases z) (SeqAt.EqAt.str_list _ _ t' hu') (SeqAt.RcAt.str_list _ _ t' hu') (SeqAt.RcNeAt.str_list _ _ t' hu')
  | @tup a its ds t hl f =>
   cases r2 with
   | non=>exact eq3 (by intro z;cases z) (SeqAt.EqAt.tuple_none t hu') (SeqAt.RcAt.tuple_none t hu') (SeqAt.RcNeAt.tuple_none t hu')
   | int j t'=>exact eq3 (by intro z;cases z) (SeqAt.EqAt.tuple_int _ _ t hu') (SeqAt.RcAt.tuple_int _ _ t hu') (SeqAt.RcNeAt.tuple_int _ _ t hu')
   | str y t'=>exact eq3 (by intro z;cases z) (SeqAt.EqAt.tuple_str _ _ t hu') (SeqAt.RcAt.tuple_str _ _ t hu') (SeqAt.RcNeAt.tuple_str _ _ t hu')
   | lst t' _ _=>exact eq3 (by intro z;cases z) (SeqAt.EqAt.tuple_list t t' hu') (SeqAt.RcAt.tuple_list t t' hu') (SeqAt.RcNeAt.tuple_list t t' hu')
   | @tup b its' ds' t' hl' f' =>
    cases p1 with
    | tup p1 =>
    cases p2 with
    | tup p2 =>
    have it:=Mk (A:=A.in1) hl hl' f f' p1 p2 fun q1 q2 q3 q4=>(ih (A:=A.in1) q1 q2 q3 q4 (by show A.units+1+n<cLine;lia)).1
    have e:decide (D.tup ds=D.tup ds')=((List.range (min its.toArray.size its'.toArray.size)).all (fun j=>decide (ds[j]?=ds'[j]?))&&its.toArray.size == its'.toArray.size):=by
     simp only[Qb];by_cases hh:its.length=its'.length
     ·rw[← hh,Nat.min_self,hl,Ab (by lia),Vg];simp
     ·have:ds≠ds':=fun z=>hh (by rw[hl,hl',z])
      rw[Vg];simp[hh,this]
    have rc:SeqAt.RcAt A s (.ref a) (.ref b) (decide (D.tup ds=D.tup ds')):=by
     rw[e];exact SeqAt.RcAt.tuples (A:=A) (e:=fun j=>decide (ds[j]?=ds'[j]?)) t t' hu' it
    have rn:SeqAt.RcNeAt A s (.ref a) (.ref b) (!decide (D.tup ds=D.tup ds')):=by
     rw[e];exact SeqAt.RcNeAt.tuples (A:=A) (e:=fun j=>decide (ds[j]?=ds'[j]?)) t t' hu' it
    refine⟨?_,rc,rn⟩;by_cases hab:a=b
    ·subst hab;have:=RH.inj (RH.tup t hl f) (RH.tup t' hl' f');rw[this,Ae rfl];exact SeqAt.EqAt.same _
    ·exact SeqAt.EqAt.of_refs hab rc
  | @lst a its ds t hl f =>
   cases r2 with
   | non=>exact eq3 (by intro z;cases z) (SeqAt.EqAt.list_none t hu') (SeqAt.RcAt.list_none t hu') (SeqAt.RcNeAt.list_none t hu')
   | int j t'=>exact eq3 (by intro z;cases z) (SeqAt.EqAt.list_int _ _ t hu') (SeqAt.RcAt.list_int _ _ t hu') (SeqAt.RcNeAt.list_int _ _ t hu')
   | str y t'=>exact eq3 (by intro z;cases z) (SeqAt.EqAt.list_str _ _ t hu') (SeqAt.RcAt.list_str _ _ t hu') (SeqAt.RcNeAt.list_str _ _ t hu')
   | tup t' _ _=>exact eq3 (by intro z;cases z) (SeqAt.EqAt.list_tuple t t' hu') (SeqAt.RcAt.list_tuple t t' hu') (SeqAt.RcNeAt.list_tuple t t' hu')
   | @lst b its' ds' t' hl' f' =>
    cases p1 with
    | lst p1 =>
    cases p2 with
    | lst p2 =>
    have it:=Mk (A:=A.in1) hl hl' f f' p1 p2 fun q1 q2 q3 q4=>(ih (A:=A.in1) q1 q2 q3 q4 (by show A.units+1+n<cLine;lia)).1
    have both:SeqAt.RcAt A s (.ref a) (.ref b) (decide (D.lst ds=D.lst ds'))/\SeqAt.RcNeAt A s (.ref a) (.ref b) (!decide (D.lst ds=D.lst ds')):=by
     by_cases hh:its.length=its'.length
     ·have e:decide (D.lst ds=D.lst ds')=(List.range its.toArray.size).all fun j=>decide (ds[j]?=ds'[j]?):=by
       simp only[Qb];rw[hl,Ab (by lia),Vg];simp
      rw[e];exact⟨SeqAt.RcAt.lists (A:=A) (e:=fun j=>decide (ds[j]?=ds'[j]?)) t t' (by simpa using hh) hu' it,SeqAt.RcNeAt.lists (A:=A) (e:=fun j=>decide (ds[j]?=ds'[j]?)) t t' (by simpa using hh) hu' it⟩
     ·have:ds≠ds':=fun z=>hh (by rw[hl,hl',z])
      rw[Ag (by intro z;cases z;exact this rfl)]
      exact⟨SeqAt.RcAt.lists_lengths t t' (by simpa using hh) hu',BQ t t' (by simpa using hh) hu'⟩
    obtain⟨rc,rn⟩:=both;refine⟨?_,rc,rn⟩;by_cases hab:a=b
    ·subst hab;have:=RH.inj (RH.lst t hl f) (RH.lst t' hl' f');rw[this,Ae rfl];exact SeqAt.EqAt.same _
    ·exact SeqAt.EqAt.of_refs hab rc
open Classical in
noncomputable def Ib (neg:Bool):D->D->Option Rz:=fun a b=>if Pl 40 a/\Pl 40 b then some (.bl (if neg then !decide (a=b) else decide (a=b)),false) else none
open Classical in
def Ic (K:PySem.W.Frag) (neg:Bool):R2:=fun x y H Q=>∃(Y:AS) (a b:D),BA K Y H x a/\BA K Y H y b/\Pl 40 a/\Pl 40 b/\Q (.bl (if neg then !decide (a=b) else decide (a=b))) H
theorem Id (neg:Bool):RdOp K (Ic K neg) (Ib neg):=by
 intro Y H x y d1 d2 z Q lv b1 b2 e q;unfold Ib at e;obtain⟨c,e⟩:=bo e;cases e;exact⟨Y,d1,d2,b1,b2,c.1,c.2,q _ H (Same.refl H) (.bl _)⟩
theorem Ie (h:X.K=K) (hu:X.A.units+64<cLine):OpR X (compareOp .Eq) (Ic K false):=by
 intro pins s σ H x y v u Q I rx ry ⟨Y,a,b,b1,b2,p1,p2,q⟩;exact(RH.eqAt 40 (A:=X.A) p1 p2 (b1.rh p1 I h rx) (b2.rh p2 I h ry) (by lia)).2.1 _ _ _ _ ⟨.bl _,H,I,rfl,q⟩
noncomputable def B1:=ng ju (Ib false)
def Km (K:PySem.W.Frag):R2:=fun x y H Q=>JJ x y H Q∨Ic K false x y H Q
theorem sD (h:X.K=K) (hu:X.A.units+64<cLine):OpR X (compareOp .Eq) (Km K):=(HV h hu).or (Ie h hu)
theorem sE:RdOp K (Km K) B1:=ro_eqA.or (Id false)
end
end VF
namespace VF
open PySem L2 PySem.Spec
section
variable {X:Cx} {a b e:Expr} {ta te:TE}
theorem Ee (hK:X.K=K) (hc:X.calm=true) (h:JE X es t)
  (hn:(assignEach es X.env).length=n:=by rfl) (hst:(assignEach es X.env).findIdx? (·.1)=none:=by rfl):PG X (.Tuple es k pos) (G0 K n t):=hK ▸ G1 hc h hn hst
end
section
variable {K:PySem.W.Frag} {Y O O' Z:AS} {H H':Hp} {v:V} {d:D} {st st':En} {σ:St}
def B2:FS:=fun _=>none
theorem B3:nV K zh B2:=by
 intro st σ H O Z Dn E o e;cases e
end
end VF
namespace VF
open PySem L2 PySem.Spec
section
variable {X:Cx} {K:PySem.W.Frag}
def B4 (K:PySem.W.Frag):R2:=fun x y H Q=>∃a b ys,x=.ref a/\y=.ref b/\mV K H a []/\mV K H b ys/\Q (.ref b) H
theorem Ef (h:X.K=K):OpR X (binaryOp .Add) (B4 K):=by
 intro pins s σ H x y v u Q I rx ry hh;obtain⟨a,b,ys,rfl,rfl,ha,hb,q⟩:=hh;cases rx;cases ry;subst h;obtain⟨its,r1,p1,_⟩:=I.tuple ha;obtain⟨its2,r2,p2,_⟩:=I.tuple hb;cases r1;obtain⟨⟨cls,dd,data,sl⟩,ho,hc,n,hd⟩:=id p1;obtain⟨⟨cls2,dd2,data2,sl2⟩,ho2,hc2,n2,hd2⟩:=id p2;simp only at hc hd hc2 hd2;subst hc hd hc2 hd2;exact concat_meets ⟨_,ho,rfl⟩ ⟨_,ho2,rfl⟩ BM seq_tuple_add PySem.F.slot_tuple_add PySem.F.entry_tuple_add (PySem.F.args_tuple_add_2 _ _)
   (PyProof.Rows.tuple_addW0 a b _ _ n n2 dd dd2 sl sl2 rfl) ⟨ho,ho2,.ref b,H,I,rfl,q⟩
def Gk:D->D->Option Rz
 | .tup [],.tup b=>some (.tup b,false)
 | _,_=>none
theorem Eg:RdOp K (B4 K) Gk:=by
 intro Y H x y d1 d2 z Q lv b1 b2 e q;cases d1 with
 | tup a =>
  cases a with
  | cons a0 a=>cases e
  | nil =>
   cases d2 with
   | tup b =>
    cases e;obtain⟨p,xs,rfl,hp,el⟩:=b1;obtain⟨p2,ys,rfl,hp2,el2⟩:=b2;obtain rfl:=el.unnil;exact⟨p,p2,ys,rfl,rfl,hp.sq,hp2.sq,q _ H (Same.refl H) (.tup hp2 el2.1 el2.2)⟩
   | _=>cases e
 | _=>cases e
def aR:=ng fB Gk
def Gm (K:PySem.W.Frag):R2:=fun x y H Q=>wW K x y H Q∨B4 K x y H Q
theorem aE (h:X.K=K):OpR X (binaryOp .Add) (Gm K):=(wX h).or (Ef h)
theorem aF:RdOp K (Gm K) aR:=ro_addA.or Eg
def Ig (K:PySem.W.Frag):V->Option Int->Option Int->Hp->VK->Prop:=fun x lo hi H Q=>∃a xs,x=.ref a/\mV K H a xs/\(HT.sIx xs.length 0 lo=0/\HT.sIx xs.length xs.length hi=xs.length)/\Q (.ref a) H
end
end VF
namespace HT
open PySem PyProof.Rows
section
variable {prog:Program} {w:World} {A:Around} {E:Value->Shared->Prop} {s:Shared}
theorem getItem_tuple_all {t sl:Addr} {items:Array Value} {vl vu:Value} {lo hi:Option Int} {Q:Value->Shared->Prop} (ht:IsTup s.heap t items) (hs:s.heap.IsSliceOf sl vl vu .none) (pl:IsPart vl lo) (pu:IsPart vu hi)
  (hw:sIx items.size 0 lo=0/\sIx items.size items.size hi=items.size) (h:Q (.ref t) s):wpAny (model prog w) A (getItem (.ref t) (.ref sl)) Q E s:=by
 obtain⟨os,hos,hcs,hds⟩:=id hs;have hTs:s.TypeIs (.ref sl) "slice":=⟨os,hos,hcs⟩;unfold getItem
 try with_reducible refine A6 ?_
 first|refine Aa (Ai ?_)|skip
 refine Aa (wpAny_sequenceKey ht.typeIs (by decide) ?_)
 refine Aa (wpAny_callSpecial?_slot (name:=Str.ofString "__getitem__") ht.typeIs Az
  (wpAny_call_entry Az ht.typeIs entry_tuple_getitem ?_ (args_tuple_getitem _ _)))
 show wpAny _ _ (Builtin.Tuple.tupleItemsOf (.ref t) >>= _) _ _ s;refine Aa (tupleItemsOf_ ht ?_);refine Aa (wpAny_typeOf hTs ?_);rw[Af (by decide)]
 refine Aa (iU hs pl pu ?_);have hyes:(((sIx items.size 0 lo:Nat):Int) == 0&&(1:Int) == 1&&(sIx items.size items.size hi-sIx items.size 0 lo) == items.size)=true:=by
  rw[hw.1,hw.2];simp
 show wpAny _ _ (if (((sIx items.size 0 lo:Nat):Int) == 0&&(1:Int) == 1&&(sIx items.size items.size hi-sIx items.size 0 lo) == items.size)=true then _ else _) _ _ s;rw[Af hyes];unfold Builtin.Tuple.tupleIsExact;refine Aa (Aa (wpAny_typeOf ht.typeIs (Ai ?_)));rw[Af (by decide)]
 exact Aa (wpAny_rule (Ai ⟨_,rfl,Ai h⟩))
end
end HT
namespace VF
open PySem L2
section
variable {X:Cx} {K:PySem.W.Frag}
theorem B5 (h:X.K=K):SlR X (Ig K):=by
 intro pins s σ H x v vl vu lo hi sl Q I rx hs pl pu hh;obtain⟨a,xs,rfl,hx,hw,q⟩:=hh;cases rx;subst h;obtain⟨its,r,ht,hz⟩:=I.tuple hx;have hlen:its.toArray.size=xs.length:=by rw[Qb];exact r.length.symm
 refine⟨"tuple",_,Az.lookup,ht.typeIs,?_⟩;exact HT.getItem_tuple_all ht hs pl pu (by rw[hlen];exact hw) ⟨.ref a,H,I,rfl,q⟩
def Ko:D->Option Int->Option Int->Option Rz
 | .tup ds,lo,hi=>if HT.sIx ds.length 0 lo=0/\HT.sIx ds.length ds.length hi=ds.length then some (.tup ds,false) else none
 | _,_,_=>none
theorem Kr:RdSl K (Ig K) Ko:=by
 intro Y H x lo hi d1 z Q lv b1 e q;cases d1 with
 | tup a =>
  obtain⟨c,e⟩:=bo e;cases e;obtain⟨p,xs,rfl,hp,el⟩:=b1;exact⟨p,xs,rfl,hp.sq,by rw[el.1];exact c,q _ H (Same.refl H) (.tup hp el.1 el.2)⟩
 | _=>cases e
def bV:=Js D6 Ko
def Ks (K:PySem.W.Frag):V->Option Int->Option Int->Hp->VK->Prop:=fun x lo hi H Q=>HX K x lo hi H Q∨Ig K x lo hi H Q
theorem bv (h:X.K=K):SlR X (Ks K):=SlR.or (sy h) (B5 h)
theorem bc:RdSl K (Ks K) bV:=RdSl.or oE Kr
theorem fN {a b:List D} (h:a.length+b.length<=1000000):aR (.lst a) (.lst b)=some (.lst (a++b),true):=by
 have e1:uf (.lst a) (.lst b)=none:=rfl;have e2:wU (.lst a) (.lst b)=none:=rfl;have e3:D0 (.lst a) (.lst b)=some (.lst (a++b),true):=by simp only[D0];rw[Af h]
 unfold aR fB ng;rw[e1,e2,e3]
theorem Ih {ds:List D} (h:j<=ds.length):cutD ds none (some (j:Int))=ds.take j:=by
 unfold cutD;rw[HT.sIx_none,HT.sIx_nat,Bj h];simp
theorem B6 {ds:List D} (h:i<=ds.length):cutD ds (some (i:Int)) none=ds.drop i:=by
 unfold cutD;rw[HT.sIx_none,HT.sIx_nat,Bj h,Vm];rw[Xf];lia
end
end VF
namespace VF
open PySem L2
section
variable {α:Type} {fg:FG} {B:FS} {fc:FT} {fe:FE} {k:Nat}
theorem kA (f:α->D) (all:List α) (I:List α->En->Prop) (step:∀(gone:List α) (x:α) (rest:List α) (st:En),all=gone++x::rest->I gone st->∃s1 s2,fg (f x) st=some s1/\B s1=some (.nx s2)/\I (gone++[x]) s2) :
  ∀(items gone:List α) (st:En),all=gone++items->I gone st->∃sf,iw fg B (items.map f) st=some (.nx sf)/\I all sf
 | [],gone,st,ha,h=>⟨st,rfl,by rw[ha,Wc];exact h⟩
 | x::r,gone,st,ha,h=>by
  obtain⟨s1,s2,e1,e2,e3⟩:=step gone x r st ha h;obtain⟨sf,e4,e5⟩:=kA f all I step r (gone++[x]) s2 (by rw[Wd];exact ha) e3
  refine⟨sf,?_,e5⟩;simp only[Ze,iw,e1,e2,Ya];exact e4
theorem dW (f g:α->D) (p:α->Bool) (sb:En):∀(xs:List α),(∀x∈xs,∃s1 s2,fg (f x) sb=some s1/\fc s1=some (p x,s2)/\(p x=false->m9 k s2=sb)/\(p x=true->∃y s3 s4,fe s2=some (y,s3)/\esc y s3=some (g x,s4)/\m9 k s4=sb)) ->
  gJ fg fc fe k (xs.map f) sb=some ((xs.filter p).map g,sb)
 | [],_=>rfl
 | x::r,h=>by
  obtain⟨s1,s2,e1,e2,hf,ht⟩:=h x Va;have ih:=dW f g p sb r fun y hy=>h y (Yb _ hy);cases hp:p x with
  | false =>
   rw[hp]at e2;simp only[Ze,gJ,e1,e2,Ya,Xe,if_false,hf hp,ih,BN,hp]
  | true =>
   rw[hp]at e2;obtain⟨y,s3,s4,e3,e4,e5⟩:=ht hp;simp only[Ze,gJ,e1,e2,Ya,if_true,e3,e4,e5,ih,BN,hp]
theorem lE (f g:α->D) (sb:En) (xs:List α) (h:∀x∈xs,∃s1 s2 y s3 s4,fg (f x) sb=some s1/\fc s1=some (true,s2)/\fe s2=some (y,s3)/\esc y s3=some (g x,s4)/\m9 k s4=sb) :
  gJ fg fc fe k (xs.map f) sb=some (xs.map g,sb):=by
 have:=dW (fg:=fg) (fc:=fc) (fe:=fe) (k:=k) f g (fun _=>true) sb xs fun x hx=>by
  obtain⟨s1,s2,y,s3,s4,e1,e2,e3,e4,e5⟩:=h x hx;exact⟨s1,s2,e1,e2,fun z=>(Bool.noConfusion z),fun _=>⟨y,s3,s4,e3,e4,e5⟩⟩
 rw[this,List.filter_eq_self.mpr fun _ _=>rfl]
end
theorem Eh (a n:Nat):rng (a:Int) n=(List.range n).map fun t=>D.int ((a+t:Nat):Int):=by
 unfold rng;exact Vk fun t _=>by rw[Int.natCast_add]
end VF
namespace VF22
open PySem PySem.Spec PyProof.Rows L2 VF
def B7:D->Option Key
 | .int i=>some (.inl i)
 | .str x=>some (.inr x)
 | _=>none
def xf:List D->Option (List Key)
 | []=>some []
 | d::r=>(B7 d).bind fun k=>(xf r).bind fun ks=>some (k::ks)
section
variable {κ:Type} [DecidableEq κ]
def jR (kvs:List (κ×D)) (k:κ):Option D:=(kvs.find? fun kv=>decide (kv.1=k)).map (·.2)
def vL (kvs:List (κ×D)) (k:κ) (d:D):List (κ×D):=if (kvs.any fun kv=>decide (kv.1=k))=true then kvs.map (fun kv=>if kv.1=k then(kv.1,d) else kv) else kvs++[(k,d)]
def Go (R:V->D->Prop) (kvs:List (κ×V)) (ds:List (κ×D)):Prop:=kvs.map (·.1)=ds.map (·.1)/\∀(i:Nat) v d,kvs[i]?=some v->ds[i]?=some d->R v.2 d.2
theorem Go.nil:Go R ([]:List (κ×V)) []:=⟨rfl,fun i v d h _=>by simp at h⟩
theorem Go.cons (h1:p.1=q.1) (h2:R p.2 q.2) (t:Go R kvs ds):Go R (p::kvs) (q::ds):=by grind [Go]
theorem Go.un (h:Go R (p::kvs) (q::ds)):p.1=q.1/\R p.2 q.2/\Go R kvs ds:=by
 obtain⟨h1,h2⟩:=h;rw[Ze,Ze]at h1;injection h1 with a b;exact⟨a,h2 0 p q rfl rfl,b,fun i v d x y=>h2 (i+1) v d x y⟩
theorem Go.look:∀{kvs:List (κ×V)} {ds:List (κ×D)} (k:κ),Go R kvs ds->(jB kvs k=none/\jR ds k=none)∨∃v d,jB kvs k=some v/\jR ds k=some d/\R v d
 | [],[],_,_=>.inl ⟨rfl,rfl⟩
 | [],_::_,_,h=>by have:=h.1;simp at this
 | _::_,[],_,h=>by have:=h.1;simp at this
 | p::ps,q::qs,k,h=>by
  obtain⟨h1,h2,h3⟩:=h.un;by_cases e:p.1=k
  ·refine .inr ⟨p.2,q.2,jC e,?_,h2⟩;simp[jR,Wi,h1.symm.trans e]
  ·have e':¬ q.1=k:=fun z=>e (h1.trans z);rw[jD e,show jR (q::qs) k=jR qs k by simp[jR,Wi,e']]
   exact h3.look k
theorem Go.any {kvs:List (κ×V)} {ds:List (κ×D)} (h:Go R kvs ds) (k:κ):(kvs.any fun kv=>decide (kv.1=k))=ds.any fun kv=>decide (kv.1=k):=by
 have a:∀l:List (κ×V),(l.any fun kv=>decide (kv.1=k))=(l.map (·.1)).any fun x=>decide (x=k):=fun l=>by rw[BK];rfl
 rw[a,h.1,BK];rfl
theorem Go.repl (k:κ) (r:R y d):∀{kvs:List (κ×V)} {ds:List (κ×D)},Go R kvs ds->Go R (kvs.map fun kv=>if kv.1=k then(kv.1,y) else kv) (ds.map fun kv=>if kv.1=k then(kv.1,d) else kv)
 | [],[],_=>Go.nil
 | [],_::_,h=>by have:=h.1;simp at this
 | _::_,[],h=>by have:=h.1;simp at this
 | p::ps,q::qs,h=>by
  obtain⟨h1,h2,h3⟩:=h.un;rw[Ze,Ze];by_cases e:p.1=k
  ·rw[Af e,Af (h1.symm.trans e)];exact Go.cons h1 r (h3.repl k r)
  ·rw[Ah e,Ah fun z=>e (h1.trans z)];exact Go.cons h1 h2 (h3.repl k r)
theorem Go.snoc (k:κ) (r:R y d):∀{kvs:List (κ×V)} {ds:List (κ×D)},Go R kvs ds->Go R (kvs++[(k,y)]) (ds++[(k,d)])
 | [],[],_=>Go.cons rfl r Go.nil
 | [],_::_,h=>by have:=h.1;simp at this
 | _::_,[],h=>by have:=h.1;simp at this
 | p::ps,q::qs,h=>by
  obtain⟨h1,h2,h3⟩:=h.un;exact Go.cons h1 h2 (h3.snoc k r)
theorem Go.put (k:κ) (h:Go R kvs ds) (r:R y d):Go R (putK kvs k y) (vL ds k d):=by
 unfold putK vL;rw[h.any k];split
 ·exact h.repl k r
 ·exact h.snoc k r
theorem Go.len {kvs:List (κ×V)} {ds:List (κ×D)} (h:Go R kvs ds):kvs.length=ds.length:=by
 have:=congrArg List.length h.1;rwa [Xa,Xa]at this
theorem Go.map (h:Go R kvs ds) (f:∀v d,R v d->S v d):Go S kvs ds:=⟨h.1,fun i v d a b=>f _ _ (h.2 i v d a b)⟩
end
section
variable {K:PySem.W.Frag} {Y:AS} {H:Hp}
theorem Kt (h:DA K Y H v d) (e:B7 d=some k):v=kV k:=by
 cases d with
 | int i=>cases e;cases h;rfl
 | str x=>cases e;cases h;rfl
 | _=>cases e
theorem Gn (h:BA K Y H v d) (e:B7 d=some k):v=kV k:=by
 cases d with
 | int i=>cases e;exact h
 | str x=>cases e;exact h
 | _=>cases e
theorem vM:∀{ds:List D} {vs:List V} {ks:List Key},El K Y H vs ds->xf ds=some ks->vs=ks.map kV
 | [],vs,ks,h,e=>by
  cases e;obtain rfl:=h.unnil;rfl
 | d::r,vs,ks,h,e=>by
  refine b9 e fun k e1 e=>?_;refine b9 e fun ks' e2 e=>?_;cases e;obtain⟨v,vr,rfl,da,el⟩:=h.uncons;rw[Kt da e1,vM el e2];rfl
def Ml:D->D->Option (Option D)
 | .dt kvs,.tup ds=>(xf ds).bind fun ks=>some (jR kvs ks)
 | .dk kvs,d=>(B7 d).bind fun k=>some (jR kvs k)
 | _,_=>none
theorem LT (b1:BA K Y H x d1) (b2:BA K Y H y d2) (e:Ml d1 d2=some o):∃(a:Addr) (r:Option V),x=.ref a/\DGet H a y r/\((r=none/\o=none)∨∃v d,r=some v/\o=some d/\DA K Y H v d):=by
 cases d1 with
 | dt kvs =>
  cases d2 with
  | tup ds =>
   refine b9 e fun ks e1 e=>?_;cases e;obtain⟨a,ep,kv,rfl,_,h1,h2,h3⟩:=b1;obtain⟨b,vs,rfl,t,el⟩:=b2;have:=vM el e1;subst this;exact⟨a,_,rfl,DGet.t h1 t.1,Go.look ks ⟨h2,h3⟩⟩
  | _=>cases e
 | dk kvs =>
  refine b9 e fun k e1 e=>?_;cases e;obtain⟨a,kv,rfl,h1,h2,h3⟩:=b1;have:=Gn b2 e1;subst this;exact⟨a,_,rfl,DGet.k h1,Go.look k ⟨h2,h3⟩⟩
 | _=>cases e
def Ku (neg:Bool):R2:=fun y x H Q=>∃(a:Addr) (o:Option V),x=.ref a/\DGet H a y o/\Q (.bl (if neg then !o.isSome else o.isSome)) H
def Kv (neg:Bool):D->D->Option Rz:=fun d2 d1=>(Ml d1 d2).bind fun o=>some (.bl (if neg then !o.isSome else o.isSome),false)
theorem Ii (neg:Bool):RdOp K (Ku neg) (Kv neg):=by
 intro Y H y x d2 d1 z Q lv b2 b1 e q;refine b9 e fun o e1 e=>?_;cases e;obtain⟨a,r,rfl,g,h⟩:=LT b1 b2 e1;refine⟨a,r,rfl,g,?_⟩;have:r.isSome=o.isSome:=by
  rcases h with⟨rfl,rfl⟩|⟨v,d,rfl,rfl,_⟩<;>rfl
 rw[this];exact q _ H (Same.refl H) (.bl _)
def Gp:zj:=fun x k v H Q=>∃a,x=.ref a/\JO H a k v Q
def Gq:D->D->D->Option D
 | .dt kvs,.tup ds,v=>(xf ds).bind fun ks=>if kvs.length<100000 then some (.dt (vL kvs ks v)) else none
 | .dk kvs,d,v=>(B7 d).bind fun k=>if kvs.length<100000 then some (.dk (vL kvs k v)) else none
 | _,_,_=>none
theorem yC:zM K Gp Gq:=by
 intro Y H p x k v dk dv x' Q hp ho bk da e q;have lim:(100000:Nat)<=sizeLine:=by rw[Bl];decide
 cases x with
 | dt kvs =>
  cases dk with
  | tup ds =>
   refine b9 e fun ks e1 e=>?_;by_cases c:kvs.length<100000
   ·rw[Af c]at e;cases e;obtain⟨ep,kv,ka,h1,h2,h3⟩:=ho;obtain⟨b,vs,rfl,t,el⟩:=bk;have:=vM el e1;subst this;have g:Go (DA K Y H) kv kvs:=⟨h2,h3⟩;refine⟨p,rfl,.inr ⟨ep,kv,ks,b,h1,rfl,t.1,by have:=g.len;lia,fun n=>q _ ?_⟩⟩
    have g':=(g.put ks da).map (S:=DA K Y (upd H p (.dT (n,ye ep.2 kv ks b) (putK kv ks v)))) fun v d h=>h.upd hp;refine⟨(n,ye ep.2 kv ks b),_,KA.go (Y:=Y) (H:=H) (fun c hc=>?_) (fun c o e n=>by rw[ax fun z=>n (by rw[z];exact hp)];exact e) (fun c z=>.inl z),aG,g'.1,g'.2⟩
    unfold ye at hc;split at hc
    ·exact ka c hc
    ·rcases Zc.mp hc with hc|hc
     ·exact ka c hc
     ·rw[Za.mp hc];exact⟨t.2,by rw[t.1];simp⟩
   ·rw[Ah c]at e;cases e
  | _=>cases e
 | dk kvs =>
  refine b9 e fun kk e1 e=>?_;by_cases c:kvs.length<100000
  ·rw[Af c]at e;cases e;obtain⟨kv,h1,h2,h3⟩:=ho;have:=Gn bk e1;subst this;have g:Go (DA K Y H) kv kvs:=⟨h2,h3⟩;refine⟨p,rfl,.inl ⟨kv,kk,h1,rfl,by have:=g.len;lia,q _ ?_⟩⟩
   have g':=(g.put kk da).map (S:=DA K Y (upd H p (.dK (putK kv kk v)))) fun v d h=>h.upd hp;exact⟨_,aG,g'.1,g'.2⟩
  ·rw[Ah c]at e;cases e
 | _=>cases e
def B8 (d:D):FE:=fun st=>some (.f d,st)
theorem ut:d7 K zx (B8 (.dk [])):=by
 intro st σ H O Z Q E r st' h q;cases h;intro p hp;have hres:RES K (U O Z) H (upd H p (.dK [])) (.ref p) (.dk [],true):=⟨p,rfl,hp,[],aG,rfl,fun i v d a _=>by simp at a⟩
 obtain⟨E3,rv⟩:=hres.rv E (bS hp _);exact q _ _ O (Same.ext (bS hp _)) (Kp.refl _) E3 rv fun p' e=>by cases e;exact hp
end
section
variable {X:Cx}
theorem Ij (hu:X.A.units+1<cLine):OpR X (compareOp .In) (Ku false):=by
 intro pins s σ H y x v u Q I ry rx h;obtain⟨a,o,rfl,g,q⟩:=h;cases rx;exact LN hu I g ry fun s' I'=>⟨.bl o.isSome,H,I',rfl,q⟩
theorem yD (hu:X.A.units+1<cLine):GZ X Gp:=by
 intro pins s σ H o i v ov iv u Q I ro ri rv h;obtain⟨a,rfl,g⟩:=h;cases ro;exact yf hu I g ri rv fun s' H' I' q=>⟨H',I',q⟩
end
end VF22
namespace VF22
open PySem PySem.Spec PyProof.Rows L2 VF
section
variable {X:Cx} {K:PySem.W.Frag}
@[irreducible] def Dv (X:Cx) (es:List Expr) (t:TA):Prop:=PA X es t
theorem bT:Dv X [] eG:=by unfold Dv;exact ah
theorem bp (ha:PE X e te) (hr:Dv X es t) (h:noStar e=true):Dv X (e::es) (br te t):=by
 unfold Dv at *;exact au ha hr h
theorem oF (h:Dv X es t):PE X (.List es pos) (g6 t):=by
 unfold Dv at h;exact be h
@[irreducible] def xg (X:Cx) (e:Expr) (t:TE):Prop:=PE X e t
@[irreducible] def Dw (X:Cx) (e:Stmt) (t:L2.TS):Prop:=PS X e t
@[irreducible] def ol (X:Cx) (es:List Stmt) (t:L2.TS):Prop:=PSs X es t
theorem ce (h:Dv X es t):xg X (.List es pos) (g6 t):=by
 unfold xg;exact oF h
theorem vN (hr:IxR X r) (ha:xg X a ta) (hb:PE X b tb) (hs:rO b):xg X (.Subscript a b pos) (zm r ta tb):=by
 unfold xg at *;exact FR hr ha hb hs
theorem eI (ha:xg X e te) (hr:Dv X es t) (h:noStar e=true):Dv X (e::es) (br te t):=by
 unfold xg at ha;exact bp ha hr h
theorem fO {st:Stmt} {t:L2.TS} (h:Dw X st t):ol X [st] t:=by
 unfold Dw ol at *;exact aw h
def asInts:List D->Option (List Int)
 | []=>some []
 | .int i::r=>(asInts r).bind fun is=>some (i::is)
 | _=>none
theorem qY:∀{ds:List D} {vs:List V} {ns:List Int},El K Y H vs ds->asInts ds=some ns->vs=ns.map V.int
 | [],vs,ns,el,e=>by cases e;exact el.unnil
 | d::r,vs,ns,el,e=>by
  obtain⟨v,t,rfl,da,el2⟩:=el.uncons;cases d with
  | int b =>
   refine b9 e fun xs' e1 e=>?_;cases e;have h:=qY el2 e1;rw[h,show v=V.int b from da.ba];rfl
  | _=>cases e
end
end VF22
namespace VF
open PySem L2 PySem.Spec PyProof.Rows
section
variable {X:Cx} {K:PySem.W.Frag}
def B9:V->List V->Hp->VK->Prop:=fun x vs H Q=>∃(a b:Str),x=.str a/\vs=[.str b]/\a.length<=1000000/\Q (.str (Txt.stripChars a b)) H
theorem Ca:Jn X "str.strip" B9:=by
 intro pins s σ H x vs v us Q I rx rv h;obtain⟨a,b,rfl,rfl,hz,q⟩:=h;obtain⟨t,rfl⟩:=rx;obtain⟨u,rfl,ru⟩:=vals1 rv;obtain⟨t',rfl⟩:=ru;exact bW (SC.stripChars (fun t' k hle=>⟨.str _,H,I.tok k (I.tkl' hle),⟨t',rfl⟩,q⟩) (Yc hz (by decide)))
def vO:D->List D->Option Rz
 | .str a,[.str b]=>if a.length<=1000000 then some (.str (Txt.stripChars a b),false) else none
 | _,_=>none
theorem Cb:yu K B9 vO:=by
 intro Y H x xs d ds z Q lv b1 bs e q;cases d with
 | str a =>
  cases bs with
  | nil=>cases e
  | @cons v vs d ds b2 bs =>
   cases bs with
   | cons _ _=>cases d<;>cases e
   | nil =>
    cases d with
    | str b =>
     obtain⟨c,e⟩:=bo e;cases e;exact⟨a,b,b1,by rw[show v=V.str b from b2],c,q _ H (Same.refl H) (.str _)⟩
    | _=>cases e
 | _=>cases e
end
end VF
namespace VF
open PySem PySem.Spec PyProof.Rows L2
theorem jb {N P:List Str} {sc:Scope} (h:N.Nodup/\(∀x∈P,sc.names.lookup x=some .local∨sc.names.lookup x=some .cell)/\∀y∈sc.names,y.2≠.free) (a:sc.kind=.function:=by rfl) (b:sc.isCoroutine=false:=by rfl) (c:sc.isGenerator=false:=by rfl) (d:N.take P.length=P:=by rfl):FnScope N P sc:=⟨a,b,c,h.1,d,h.2.1,h.2.2⟩
structure FH (K:PySem.W.Frag) (x:Str) (st:Stmt):Prop where
 ex:∃f fd,Fun K x x st f fd/\PySem.W.nsIn K mainGlobals x=some (some (.ref f))
theorem fh {K:PySem.W.Frag} {x:Str} {st:Stmt} {f:Addr} {oc:Value} {od an:Option Addr} {osl:Array (Option Value)} {kV doc pm cdv ct:Value} (a:PySem.W.nsIn K mainGlobals x=some (some (.ref f)))
  (l:K.lookup f=some ⟨oc,od,.func (PySem.W.fnOf x x (fD st) (cO st) (ar st) .none kV doc pm an cdv ct),osl⟩) (c:PySem.W.codeIn K cdv x=true) (k:PySem.W.keepIn K (.ref f)=true):FH K x st:=⟨f,_,Hr l c k,a⟩
def Bn (x:Str) (st:Stmt) (ps:List Str):Prop:=∀(kV doc pm:Value) (an:Option Addr) (cdv ct:Value) (us:List Value),us.length=ps.length->bindArgs (PySem.W.fnOf x x (fD st) (cO st) (ar st) .none kV doc pm an cdv ct) ⟨us,[]⟩=pure (ps.zip us)
theorem Mm {n:Nat} {P:List Value->Prop} {us:List Value} (hl:us.length=n+1) (h:∀a r,r.length=n->P (a::r)):P us:=by
 cases us with
 | nil=>cases hl
 | cons a r=>exact h a r (Nat.succ.inj hl)
theorem vd {P:List Value->Prop} (h:∀a,P [a]) (us:List Value) (hl:us.length=1):P us:=Mm hl fun a r hr=>by
 rw[Yk hr];exact h a
theorem xi {P:List Value->Prop} (h:∀a b,P [a,b]) (us:List Value) (hl:us.length=2):P us:=Mm hl fun a r hr=>vd (P:=fun r=>P (a::r)) (h a) r hr
section
variable {P:Program} {w:World} {K:PySem.W.Frag} {mg:Str->Option Value} {base h:Heap} {x:Str} {st:Stmt} {N ps:List Str} {k:Nat} {F:FS}
abbrev mv (P:Program) (w:World) (K:PySem.W.Frag) (mg:Str->Option Value) (base:Heap) (x:Str) (st:Stmt) (N:List Str) (k:Nat) (F:FS):Prop :=
 ∀{f:Addr} {cdv:Value} {A:Around} {outer:List Env} {s:Shared} {H:Hp} {E:XK},Room k (A.deeper (envOfC x (ar st) s.heap.objs.size f cdv))->∃t,PSs (dP ql P w K mg base N x (ar st) f cdv A outer s H E).nox (cO st) t/\nV K t F
theorem LU {f:Addr} {fd:FuncData} (F':Fun K x x st f fd) (S:FnScope N ps (ar st)) (hB:mv P w K mg base x st N k F):FnOk P w K mg base ql (k+1) f fd ps (oC K (cG F N.length ps.length)):=by
 refine F'.ok S (fun vs H Q E h=>DX h) fun cdv A outer s H vs Q E hr h=>?_;obtain⟨t,h1,h2⟩:=hB hr;exact⟨t,h1,wS h2 h⟩
theorem FH.cal (h':FH K x st) (X:K.In h) (G:h.Ns mainGlobals mg) (S:FnScope N ps (ar st)) (hb:Bn x st ps) (hB:mv P w K mg base x st N k F):Cal P w K mg base x (k+1) ps (oC K (cG F N.length ps.length)):=by
 obtain⟨f,fd,F',a⟩:=h'.ex;exact⟨f,fd,LU F' S hB,PySem.W.mg_of X G a,F'.kp,F'.binds hb⟩
theorem FH.calI (h':FH K x st) (X:K.In h) (G:h.Ns mainGlobals mg) (S:FnScope N ps (ar st)) (hb:Bn x st ps) (hB:mv P w K mg base x st N k F):Cal P w K mg base x (k+1) ps (jt K (df F N.length ps.length)):=by
 obtain⟨f,fd,F',a⟩:=h'.ex;refine⟨f,fd,F'.ok S (fun vs H Q E h=>F8 h) fun cdv A outer s H vs Q E hr h=>?_,PySem.W.mg_of X G a,F'.kp,F'.binds hb⟩;obtain⟨t,h1,h2⟩:=hB hr;exact⟨t,h1,qO h2 h⟩
theorem FH.calR {sp:Nat->Sp} (h':FH K x st) (X:K.In h) (G:h.Ns mainGlobals mg) (hb:Bn x st ps) (m:Nat) (h0:∀f fd,FnOk P w K mg base ql 0 f fd ps (sp 0)) (h1:∀n,n<=m->Cal P w K mg base x n ps (sp n)->∀f fd,Fun K x x st f fd->FnOk P w K mg base ql (n+1) f fd ps (sp (n+1))):∀n,n<=m+1->Cal P w K mg base x n ps (sp n):=by
 obtain⟨f,fd,F',a⟩:=h'.ex;intro n;induction n with
 | zero=>exact fun _=>⟨f,fd,h0 f fd,PySem.W.mg_of X G a,F'.kp,F'.binds hb⟩
 | succ n ih=>exact fun hn=>⟨f,fd,h1 n (Nat.le_of_succ_le_succ hn) (ih (Nat.le_of_succ_le hn)) f fd F',PySem.W.mg_of X G a,F'.kp,F'.binds hb⟩
theorem Ei {f:Addr} {fd:FuncData}:FnOk P w K mg base ql 0 f fd ps (oC K (eX 0)):=by
 have no:∀vs H Q E,¬ oC K (eX 0) vs H Q E:=fun vs H Q E h=>by
  obtain⟨Z,ds,z,el,lv,e,q⟩:=h;obtain⟨u,_,hd,_⟩:=qS e;cases hd
 exact⟨fun vs H Q E h=>absurd h (no vs H Q E),fun A outer s H args us vs Q E _ _ _ _ h=>absurd h (no vs H Q E)⟩
theorem FH.alike {F:(List D->Option Rz)->FS} (h':FH K x st) (X:K.In h) (G:h.Ns mainGlobals mg) (S:FnScope N ps (ar st)) (hb:Bn x st ps) (m:Nat) (hv:∀n u,Dp (n+1) u->cG (F (eX n)) N.length ps.length [u,u]=some (.bl true,false))
  (hB:∀n g,n<=m->Cal P w K mg base x n ps (oC K g)->mv P w K mg base x st N n (F g)):∀n,n<=m+1->Cal P w K mg base x n ps (oC K (eX n)) :=
 h'.calR X G hb m (fun _ _=>Ei) fun n hn c f fd F'=>(LU F' S (hB n _ hn c)).imp fun vs H Q E hs=>by
  obtain⟨Z,ds,z,el,lv,e,q⟩:=hs;obtain⟨u,rfl,hd,rfl⟩:=qS e;exact⟨Z,[u,u],(.bl true,false),el,lv,hv n u hd,q⟩
theorem FH.law {fa:Addr} (h':FH K "law" st) (X:K.In h) (G:h.Ns mainGlobals mg) (hfa:mg "law"=some (.ref fa)) (S:FnScope N ["_law_script"] (ar st)) (hb:Bn "law" st ["_law_script"]) (lv:∀ns:List Int,cG F N.length 1 [.fl (ns.map D.int)]=some (.bl true,false))
  (hB:∀base:Heap,mv P w K mg base "law" st N k F):∃fd:FuncData,(∀(s:Shared) (v:Value),BindsTo s fd ⟨[v],[]⟩ [("_law_script",v)])/\∀base:Heap,K.In base->base.Ns mainGlobals mg->FnOk P w K mg base ql (k+1) fa fd ["_law_script"] (w6 K):=by
 obtain⟨f,fd,F',a⟩:=h'.ex;have e:=hfa.symm.trans (PySem.W.mg_of X G a);cases e;refine⟨fd,fun s v=>?_,fun base _ _=>(LU F' S (hB base)).imp fun vs H Q E h=>?_⟩
 ·obtain⟨oc,od,kV,doc,pm,an,cdv,ct,osl,rfl,lk,hcd⟩:=F'.ex;exact .of_eq (hb kV doc pm an cdv ct [v] rfl)
 ·obtain⟨a,ns,rfl,sq,_,q⟩:=h;refine⟨fun _=>False,[.fl (ns.map D.int)],(.bl true,false),El.one (.fl (vs:=ns.map V.int) ?_ (by simp) fun i v d h1 h2=>?_),fun p z=>z.elim,lv ns,fun v H' _ r=>?_⟩
  ·rcases sq with s|s
   ·exact .inl ⟨s,fun z=>z⟩
   ·exact .inr fun H'=>.inr s
  ·rw[Zg]at h1 h2;obtain⟨c,e1,rfl⟩:=Zh.mp h1;rw[e1]at h2;obtain rfl:=Option.some.inj h2;exact .int _
  ·obtain rfl:=(show v=V.bl true from DA.ba (show DA K (fun _=>False) H' v (.bl true) from r));exact q H'
end
theorem walkZ {l:PySem.W.OpenLaw} {q:Program} {loose:List Str} {XP:(Str->Option Value)->Heap->Prop} {d:DefRec} {K:Params->PySem.W.Frag} {k:Nat} {as:List Addr} {sz t:Nat} (hn:l.most=some 63) (hdf:d.params.defaults=[]) (hr:Room k callerA) (ht:0<t) (hK:∀P,as=(K P).map (·.1))
  (F:∀(w:World) (mg:Str->Option Value) (fa:Addr) (h:Heap),(K w.params).In h->h.Ns mainGlobals mg->mg d.name=some (.ref fa) ->
   ∃fd:FuncData,(∀(s:Shared) (u:Value),BindsTo s fd ⟨[u],[]⟩ [("_law_script",u)])/\∀base:Heap,(K w.params).In base->base.Ns mainGlobals mg->FnOk l.prog w (K w.params) mg base ql k fa fd ["_law_script"] (w6 (K w.params))) :
  PySem.W.WalkX q loose XP (PySem.W.X.obsZ as) (PySem.W.X.valZ K sz t) l.row.toRowW d [] (fun f vs=>PySem.call f vs) :=
 L2.walk_of (n:=63) (k:=k) (x:="_law_script") (CX:=fun _=>ql) (sp:=fun w=>w6 (K w.params)) hn (by decide) hdf hr ht hK F (fun _ _ a ns hl _ hS=>⟨a,ns,rfl,hS,hl,fun _=>rfl⟩) fun _ _ _ _ _ z=>z
end VF
namespace VF22
open PySem PySem.Spec PyProof.Rows L2 VF
section
variable {K:PySem.W.Frag}
structure FHD (K:PySem.W.Frag) (x:Str) (st:Stmt) (ds:List Value):Prop where
 ex:∃f fd,FunD K x x st ds f fd/\PySem.W.nsIn K mainGlobals x=some (some (.ref f))
theorem fhd {x:Str} {st:Stmt} {ds:List Value} {f T:Addr} {nT:Nat} {oc tc:Value} {od an td:Option Addr} {osl tsl:Array (Option Value)} {kV doc pm cdv ct:Value} (a:PySem.W.nsIn K mainGlobals x=some (some (.ref f)))
  (l:K.lookup f=some ⟨oc,od,.func (PySem.W.fnOf x x (fD st) (cO st) (ar st) (.ref T) kV doc pm an cdv ct),osl⟩) (c:PySem.W.codeIn K cdv x=true) (k:PySem.W.keepIn K (.ref f)=true) (t:K.lookup T=some ⟨tc,td,.seq ds.toArray nT,tsl⟩):FHD K x st ds :=
 ⟨f,_,⟨⟨_,_,_,_,_,_,_,_,_,_,_,_,rfl,l,c,t,rfl⟩,k⟩,a⟩
def Mw (x:Str) (st:Stmt) (ps:List Str) (ds:List Value):Prop:=∀(T:Addr) (kV doc pm:Value) (an:Option Addr) (cdv ct:Value) (us:List Value),(us++ds).length=ps.length ->
 ∃k:Option (Array Value)->Sem (List (Str×Value)),bindArgs (PySem.W.fnOf x x (fD st) (cO st) (ar st) (.ref T) kV doc pm an cdv ct) ⟨us,[]⟩=seqItems? (.ref T) >>= k/\k (some ds.toArray)=pure (ps.zip (us++ds))
variable {P:Program} {w:World} {mg:Str->Option Value} {base h:Heap} {x:Str} {st:Stmt} {N ps:List Str} {k:Nat} {F:FS} {ds:List Value} {dvs:List V}
theorem FHD.calI (h':FHD K x st ds) (X:K.In h) (G:h.Ns mainGlobals mg) (S:FnScope N ps (ar st)) (hb:Mw x st ps ds) (hv:Vals dvs ds) (hB:mv P w K mg base x st N k F):CalD P w K mg base x (k+1) ps dvs (jt K (df F N.length ps.length)):=by
 obtain⟨f,fd,F',a⟩:=h'.ex;refine⟨f,fd,ds,F'.ok S (fun vs H Q E h=>F8 h) fun cdv A outer s H vs Q E hr h=>?_,PySem.W.mg_of X G a,F'.kp,F'.binds hb,hv⟩;obtain⟨t,h1,h2⟩:=hB hr;exact⟨t,h1,qO h2 h⟩
end
end VF22
namespace VF22
open PySem PySem.Spec PyProof.Rows L2 VF
section
variable (K:PySem.W.Frag) {X:Cx} {a b o:Expr} {ta tb to:TE} {p pos apos cpos:Pos}
theorem bj (ha:PE X a ta) (hb:PE X b tb) (h:X.K=K:=by rfl) (hs:rO b:=by exact fun _ _=>rfl):PE X (.Subscript a b pos) (zm (LC K) ta tb):=FR (oA h) ha hb hs
theorem cL (hm:X.mg "len"=none) (ha:PE X a ta) (h:X.K=K:=by rfl) (hg:Gl X "len":=by rfl) (n:noStar a=true:=by rfl):PE X (.Call (.Name "len" p) [a] [] pos) (Ds (z0 K) (br ta eG)) :=
 dS (yw h) hg hm PySem.boot_len (au ha ah n) (by decide) (by decide) (gX n) rfl
theorem iz (hm:X.mg "tuple"=none) (ha:PE X a ta) (h:X.K=K:=by rfl) (c:X.calm=true:=by rfl) (hg:Gl X "tuple":=by rfl) (n:noStar a=true:=by rfl):PE X (.Call (.Name "tuple" p) [a] [] pos) (Ds (sA K) (br ta eG)) :=
 fX (um h c) hg hm jG (au ha ah n) (by decide) (by decide) (gX n) rfl
theorem db (hm:X.mg "isinstance"=none) (ha:PE X a ta) (hb:PE X b tb) (h:X.K=K:=by rfl) (hg:Gl X "isinstance":=by rfl) (n:noStar a=true:=by rfl) (n':noStar b=true:=by rfl) (hpl:(backTo pos (starEach [b] X.env)).any (·.1)=false:=by rfl) :
  PE X (.Call (.Name "isinstance" p) [a,b] [] pos) (Ds (HZ K) (br ta (br tb eG))) :=
 dS (sB h) hg hm L2.boot_isinstance (au ha (au hb ah n') n) (by decide) (by decide) (gX n) hpl
theorem cF (ha:PE X a ta) (hb:PE X b tb) (h:X.K=K:=by rfl):PE X (.BinOp a .Add b pos) (zm (wW K) ta tb):=aQ (wX h) ha hb
theorem gR (ho:OpR X (compareOp op) r) (ha:PE X a ta) (hb:PE X b tb) (h:op≠.In:=by decide) (h2:op≠.NotIn:=by decide):PE X (.Compare a [op] [b] pos) (zm r ta tb):=rK ho ha hb (zq _ h h2)
theorem bm (ho:OpR X (compareOp op) r) (ha:PE X a ta) (hb:PE X b tb) (h:op≠.In:=by decide) (h2:op≠.NotIn:=by decide):PT X (.Compare a [op] [b] pos) (wE (zm r ta tb)):=gM ho ha hb (zq _ h h2)
theorem fP (ho:PE X o to) (ha:PE X a ta) (n:noStar a=true:=by rfl) (hbase:attributeBase o "append" X.env (eval o X.env)=eval o X.env:=by rfl)
  (hfew:((backTo cpos (starEach [a] X.env)).all (fun x=>!x.1)&&(backToKw cpos (keywordEach [] X.env)).all (fun x=>x.1.isSome)
   && decide (([a]:List Expr).length+([]:List Keyword).length+(if ([]:List Keyword).isEmpty then 0 else 1)<30))=true:=by rfl)
  (hline:(apos.endLine == cpos.line)=true:=by rfl):PE X (.Call (.Attribute o "append" apos) [a] [] cpos) (LD X.K "list" rV to (br ta eG)) :=
 nR PySem.F.plainAttrs_list PySem.F.slot_list_append PySem.F.type_list_append yi ho (au ha ah n) hbase hfew hline (gX n) rfl
end
end VF22
namespace VF22
open PySem PySem.Spec PyProof.Rows L2 VF
section
variable {X:Cx} {K:PySem.W.Frag}
def Cc:V->List V->Hp->VK->Prop:=fun x vs H Q=>∃(a b:Str),x=.str a/\vs=[.str b]/\(b.length == 0)=false/\a.length<=100000/\∀l,H l=none->Q (.ref l) (upd H l (.lst ((Txt.split a b).map V.str)))
theorem qZ:∀l:List (Str×Tok),Vals ((l.map (·.1)).map V.str) (strValues l)
 | []=>.nil
 | p::r=>.cons ⟨p.2,rfl⟩ (qZ r)
theorem Cd:Jn X "str.split" Cc:=by
 intro pins s σ H x vs v us Q I rx rv hq;obtain⟨a,b,rfl,rfl,hb,hz,q⟩:=hq;obtain⟨t,rfl⟩:=rx;obtain⟨u,rfl,ru⟩:=vals1 rv;obtain⟨t',rfl⟩:=ru;have lim:(100000:Nat)+2<=sizeLine:=by rw[Bl];decide
 have out:∀(c:List (Str×Tok)) (k:Nat),s.toks<=k->c.map (·.1)=Txt.split a b->c.length<=sizeLine->EP X pins σ Q (.ref s.heap.objs.size) { s with heap:=s.heap.push { cls:=.type "list",data:=.seq (strValues c).toArray },toks:=k }:=fun c k hk ec hc =>
  ⟨.ref s.heap.objs.size,_,I.laid (a:=s.heap.objs.size) (o:=.lst ((Txt.split a b).map V.str)) (t':=k) (ht:=I.tkl' hk) (fun _ _ z=>Ac _ z) (Wb _) ⟨by rw[Xa,← ec,Xa];exact hc,strValues c,0,ec ▸ qZ c,Ak _ rfl⟩,rfl,q _ (I.hok.fresh (Wb _))⟩
 have few:(Builtin.Str.partsBetween a (Builtin.Str.occurrences a b 0 a.length (a.length+1)) b.length).length<=sizeLine:=by
  have e1:=StrLaws.occ_length_le a b 0 a.length (a.length+1);rw[length_partsBetween];lia
 cases d1:(decide (a.length<b.length)||decide (Builtin.Str.strKind a<Builtin.Str.strKind b)) with
 | true=>exact AB F.slot_str_split (AJ _ _ _) F.entry_str_split (F.args_str_split_2 _ _) (meets_str_split_cannot_occur a b t t' d1) (out [(a,t)] s.toks (Wb _) (Af d1).symm (by show 1<=sizeLine;lia))
 | false =>
  cases d2:(Builtin.Str.occurrences a b 0 a.length (a.length+1)).isEmpty with
  | true=>exact AB F.slot_str_split (AJ _ _ _) F.entry_str_split (F.args_str_split_2 _ _) (meets_str_split_not_found a b t t' d1 hb d2) (out [(a,t)] s.toks (Wb _) ((Ah (Bs d1)).trans (Af d2)).symm (by show 1<=sizeLine;lia))
  | false =>
   refine AB F.slot_str_split (AJ _ _ _) F.entry_str_split (F.args_str_split_2 _ _) (meets_str_split_sep a b t t' d1 hb d2 (by lia) few) ?_
   show wants _ _ _ { s with toks:=_,heap:=s.heap.push { cls:=.type "list",data:=.seq (strsFrom s.toks _).toArray } };rw[strsFrom_eq];refine out (numbered s.toks _) _ (Ba _ _) ((numbered_texts _ _).trans ((Ah (Bs d1)).trans (Ah (Bs d2))).symm) ?_;have:=congrArg List.length (numbered_texts s.toks (Builtin.Str.partsBetween a (Builtin.Str.occurrences a b 0 a.length (a.length+1)) b.length));rw[Xa]at this;rw[this];exact few
def vP:D->List D->Option Rz
 | .str a,[.str b]=>if (b.length == 0)=false/\a.length<=100000 then some (.lst ((Txt.split a b).map D.str),true) else none
 | _,_=>none
theorem Ce:yu K Cc vP:=by
 intro Y H x xs d ds z Q lv b1 bs e q;cases d with
 | str a =>
  cases bs with
  | nil=>cases e
  | @cons v vs d ds b2 bs =>
   cases bs with
   | cons _ _=>cases d<;>cases e
   | nil =>
    cases d with
    | str b =>
     obtain⟨c,e⟩:=bo e;cases e;exact⟨a,b,b1,by rw[show v=V.str b from b2],c.1,c.2,fun r hr=>q _ _ (bS hr _) (km (Eb _) hr)⟩
    | _=>cases e
 | _=>cases e
end
end VF22
namespace VX
open PySem PySem.Spec PyProof.Rows L2 VF
abbrev uu (C t:Addr) (dx:Option Addr):Obj:={ cls:=.ref C,dict:=dx,data:=.fields #[.ref t,.none,.none,.none,.bool false,.none] }
inductive XO (H:Heap) (C N:Addr) (mr:List Value) (hd:Bool) (id:String):Prop
 | mk (a b:Str) (bs:List Value) (sn:List Str) (su:List Value) (x:Bool) (y:Option Bool) (z:Option Addr) (p0 p1 p2 p3 p5:Option Value) (e:H.get? C=some (excClassObj a b C N bs mr hd sn su x y z p0 p1 p2 p3 p5 id))
def Mn (Q:Shared->Prop) (X:Value->Shared->Prop) (r:Result) (s:Shared):Prop:=match r with
 | .ok (.ret v)=>v=.none/\Q s
 | .ok _=>False
 | .error x=>X x s
section
variable {P:Program} {W:World} {A:Around} {X:Value->Shared->Prop} {S:Shared} {C N:Addr} {mr mB:List Value} {hd:Bool} {B id ii:String}
theorem Cf {us:List Value} {f:Addr} {o:Obj} {m:Str->Option Value} {Q:Fin->Shared->Prop} (c:XO S.heap C N mr hd id) (b:ExcBaseFacts B id ii mB) (tl:OwnTail S.heap mB mr) (n:S.heap.Ns N m) (i:m "__init__"=some (.ref f)) (l:S.heap.get? f=some o) (fn:o.cls=.type "function") (few:us.length<=sizeLine)
  (q:∀H e t,(∀a u,S.heap.get? a=some u->H.get? a=some u)->S.heap.objs.size<=e->H.get? e=some (uu C t none)->codeAny (model P W) A (.call (.ref f) ⟨.ref e::us,[]⟩) (Mn (fun s=>Q (.done (.ret (.ref e))) s) X) { S with heap:=H }) :
  wpAny (model P W) A (Builtin.«type.__call__» ⟨.ref C::us,[]⟩) Q X S:=by
 obtain⟨_,_,_,_,_,_,_,_,_,_,_,_,_,e0⟩:=c;obtain⟨H,gs,dr,tk,os⟩:=S;have up:∀(x y:Obj) a u,H.get? a=some u->((H.push x).push y).get? a=some u:=fun x y a u z=>Ac y (Ac x z)
 wp_walk using At e0,wpAny_madeBy_exc e0
 refine codeAny_call_builtin_code (Code.quiet_builtin _ b.quiet) (wpAny_check_new_subT b tl e0 (codeAny_exc_new_subT b tl e0 ?_ few));generalize hT:(H.push { cls:=.type "tuple",data:=.seq us.toArray }).push (uu C H.objs.size none)=H2;have kp:∀a u,H.get? a=some u->H2.get? a=some u:=fun a u z=>hT ▸ up _ _ a u z;have eg:H2.get? (H.objs.size+1)=some (uu C H.objs.size none):=by
  rw[← hT,← A2 H { cls:=.type "tuple",data:=.seq us.toArray }];exact Ak _ rfl
 have sb:∀{M:Model} {A:Around} {E:Value->Shared->Prop} {g:Array GenState} {d:Drawn} {t:Nat} {o:OsState} {R:Bool->Shared->Prop},R true ⟨H2,g,d,t,o⟩->wpAny M A (isSubtype (.ref C) (.ref C)) R E ⟨H2,g,d,t,o⟩:=fun r=>AX (kp _ _ e0) (by rw[show(Value.ref C::mr).contains (.ref C)=true by simp];exact r)
 show wpAny _ _ _ _ _ _;unfold callSpecial? isInstance;unfold specialOf
 wp_walk using At eg,sb
 refine wpAny_typeLookup_tail (kp _ _ e0) (n.keeps kp) (tl.keeps kp) b.mroIs b.init.lookup ?_;rw[i];have ty:Shared.TypeIs ⟨H2,gs,dr,tk,os⟩ (.ref f) "function":=⟨o,kp _ _ l,fn⟩;dsimp only;unfold bindSpecial
 wp_walk
 refine AA (q H2 _ _ kp (Bm _) eg) fun r s z=>?_;cases r with
 | error x=>exact z
 | ok fl =>
  cases fl with
  | ret v =>
   obtain⟨rfl,z⟩:=z
   wp_walk
   exact z
  | _=>exact z.elim
theorem yE {us:List Value} {f:Addr} {o:Obj} {m:Str->Option Value} {Q:Value->Shared->Prop} (c:XO S.heap C N mr hd id) (b:ExcBaseFacts B id ii mB) (tl:OwnTail S.heap mB mr) (n:S.heap.Ns N m) (i:m "__init__"=some (.ref f)) (l:S.heap.get? f=some o) (fn:o.cls=.type "function") (few:us.length<=sizeLine)
  (q:∀H e t,(∀a u,S.heap.get? a=some u->H.get? a=some u)->S.heap.objs.size<=e->H.get? e=some (uu C t none)->codeAny (model P W) (A.under (.builtin "type.__call__" ⟨.ref C::us,[]⟩)) (.call (.ref f) ⟨.ref e::us,[]⟩) (Mn (fun s=>Q (.ref e) s) X) { S with heap:=H }) :
  wpAny (model P W) A (call (.ref C) us) Q X S:=by
 have c':=c;obtain⟨_,_,_,_,_,_,_,_,_,_,_,_,_,e0⟩:=c';obtain⟨H,gs,dr,tk,os⟩:=S;have look:=tc_lookup;have bnd:=tc_bind (.ref C);have ty:Shared.TypeIs ⟨H,gs,dr,tk,os⟩ (.ref C) "type":=⟨_,e0,rfl⟩
 wp_walk
 refine codeAny_of_tree ?_;change wpAny _ _ (callAny (.ref C) ⟨us,[]⟩) _ _ _
 wp_walk using At e0
 refine⟨rfl,codeAny_call_builtin_at (Code.quiet_builtin _ (by decide +kernel)) entry_typeCall (wpAny_check_type_call_sub e0 ?_)⟩
 refine Cf c b tl n i l fn few fun H1 e t k z ee=>?_;refine AA (q H1 e t k z ee) fun r s w=>?_;cases r with
 | error x=>exact w
 | ok fl =>
  cases fl with
  | ret v=>exact w
  | _=>exact w.elim
theorem Ej {M:Model} {en:Env} {ex:Sem Value} {R:Flow->Shared->Prop} (hb:mr.contains (.type "BaseException")=true) (hh:A.handled=none)
  (q:wpAny M A ex (fun v s=>∃e t dx,v=.ref e/\XO s.heap C N mr hd id/\s.heap.get? e=some (uu C t dx)/\X (.ref e) s) X S):wpAny M A (raiseStmt en (some ex) none) R X S:=by
 unfold raiseStmt;refine Aa (Al q (fun v s z=>?_) fun _ _ z=>z);obtain⟨e,t,dx,rfl,⟨_,_,_,_,_,_,_,_,_,_,_,_,_,e0⟩,e1,x⟩:=z;obtain⟨H,gs,dr,tk,os⟩:=s;have sb:∀{M:Model} {A:Around} {E:Value->Shared->Prop} {g:Array GenState} {d:Drawn} {t:Nat} {o:OsState} {R:Bool->Shared->Prop},R true ⟨H,g,d,t,o⟩->wpAny M A (isSubtype (.ref C) (.type "BaseException")) R E ⟨H,g,d,t,o⟩:=fun r=>AX e0 (by rw[show(Value.ref C::mr).contains (.type "BaseException")=true by rw[Xm,hb,Bh]];exact r)
 wp_walk using At e1,At e0,sb
 exact wpAny_raiseNew_none hh x
end
end VX
namespace VX
open PySem PySem.Spec PyProof.Rows L2 VF
section
variable {P:Program} {W:World} {A:Around} {X:Value->Shared->Prop} {S:Shared} {C N:Addr} {mr mB:List Value} {hd:Bool} {B id ii:String}
theorem yF {e t:Addr} {dx:Option Addr} {us:List Value} {Q:Value->Shared->Prop} (c:XO S.heap C N mr hd id) (b:ExcBaseFacts B id ii mB) (tl:OwnTail S.heap mB mr) (ee:S.heap.get? e=some (uu C t dx)) (few:us.length<=sizeLine)
  (q:∀H t',(∀a u,a≠e->S.heap.get? a=some u->H.get? a=some u)->H.get? e=some (uu C t' dx)->Q .none { S with heap:=H }):wpAny (model P W) A (call (.builtin ii) (.ref e::us)) Q X S:=by
 obtain⟨_,_,_,_,_,_,_,_,_,_,_,_,_,e0⟩:=c;obtain⟨H,gs,dr,tk,os⟩:=S;have sb:∀{M:Model} {A:Around} {E:Value->Shared->Prop} {g:Array GenState} {d:Drawn} {t:Nat} {o:OsState} {R:Bool->Shared->Prop},R true ⟨H,g,d,t,o⟩->wpAny M A (isSubtype (.ref C) (.type B)) R E ⟨H,g,d,t,o⟩:=fun r=>AX e0 (by rw[show(Value.ref C::mr).contains (.type B)=true by rw[Xm,tl.hasType b.hasB,Bh]];exact r)
 have any:∀(x y:String) (n:Nat),Bind.check ⟨.positional,"*",B,.self,[⟨"args",.varPos,false⟩]⟩ x y n []=pure ():=fun x y n=>check_star_args ..;have ns:=b.noStar;refine wpAny_call (codeAny_call_builtin b.init.plain b.initEntry ?_);simp only[checkBuiltinCall,b.initSplit,b.initRow,b.initKind]
 wp_walk using At ee,At e0,sb
 refine wpAny_onRaise ?_;change wpAny _ _ (Bind.check _ _ _ _ []) _ _ _;rw[any]
 wp_walk
 refine q _ H.objs.size (fun a u n z=>?_) ?_
 ·exact(Aj _ _ (Am n)).trans (Ac _ z)
 ·exact(Ar _ (Ac _ ee) rfl).trans rfl
end
end VX
namespace VX
open PySem PySem.Spec PySem.W PyProof.Rows L2 VF
def xφ (C e:Addr) (dx:Option Addr):Heap->Prop:=fun h=>∃t,h.get? e=some (uu C t dx)
theorem Gr {P:Program} {w:World} {H:Hp} {h:Heap} {C e:Addr} {dx:Option Addr} (q:xφ C e dx h):ObjOk P w H h e (.ext (xφ C e dx)) :=
 ⟨q,let ⟨_,z⟩:=q;⟨_,z⟩,fun _ _ ⟨t,z⟩ k=>⟨t,k _ z⟩⟩
structure XC (K:PySem.W.Frag) (C T f:Addr) (id ii sa ow B:String) (mB:List Value):Prop where
 ob:∃N,(∃a b bs sn su x y z p0 p1 p2 p3 p5,K.lookup C=some (excClassObj a b C N bs (.ref T::mB) true sn su x y z p0 p1 p2 p3 p5 id))/\nsOkIn K N=true/\nsIn K N "__init__"=some (some (.ref f))
 tl:∃c0 dd cd sl,K.lookup T=some { cls:=c0,dict:=dd,data:=.cls cd,slots:=sl }/\nsOkIn K cd.ns=true/\nsIn K cd.ns "__init__"=some none
 bf:ExcBaseFacts B id ii mB
 sf:StoreFacts B mB sa ow
 st:findIn K (.ref C) "__setattr__"=some (some (.builtin sa))
 fo:∃o,K.lookup f=some o/\o.cls=.type "function"
 kp:keepIn K (.ref C)=true
section
variable {X:Cx} {K:PySem.W.Frag} {C T f:Addr} {id ii sa ow B:String} {mB:List Value} {pins:List (Addr×Obj)} {σ:L2.St} {H:Hp} {s:Shared} {h:Heap}
theorem XC.tail (x:XC K C T f id ii sa ow B mB) (kin:K.In h):OwnTail h mB (.ref T::mB):=by
 obtain⟨c0,dd,cd,sl,l,n,i⟩:=x.tl;exact .own (kin _ _ l) (.of_isNs (isNs_of_in kin n)) (nsMap_none_of_in kin n i) .base
theorem XC.cls (x:XC K C T f id ii sa ow B mB) (kin:K.In h):∃N,XO h C N (.ref T::mB) true id:=by
 obtain⟨N,⟨_,_,_,_,_,_,_,_,_,_,_,_,_,l⟩,_⟩:=x.ob;exact⟨N,.mk _ _ _ _ _ _ _ _ _ _ _ _ _ (kin _ _ l)⟩
def Gs (C:Addr) (ta:TA):TE:=fun σ H Q=>ta σ H fun vs H1=>∃e ws,vs=.ref e::ws/\ws.length<=10/\H1 e=some (.ext (xφ C e none))/\Q .non H1
theorem Ek {pl:Sem Bool} {x m:Str} {p apos pos:Pos} {a:Expr} {as:List Expr} {ta:TA} {mc:Value} (hK:X.K=K) (xc:XC K C T f id ii sa ow B mB) (hg:Gl X x) (hm:X.mg x=some (.ref T))
  (hga:specialIn K (.ref T) "__getattribute__"=some (some (.builtin "type.__getattribute__"))) (hrd:readsIn K T mc=true) (hf:findCls K (.ref T) mc m=some (.val (.builtin ii))) (ha:PA X (a::as) ta)
  (hh:handedIn (.builtin ii)=true:=by rfl) (hdb:(x == ("__debug__":Str))=false:=by decide) (hst:starEach (a::as) X.env=(false,eval a X.env)::starEach as X.env:=by rfl) (hpl:(backTo pos (starEach as X.env)).any (·.1)=false:=by rfl)
  (ht:eval (.Call (.Attribute (.Name x p) m apos) (a::as) [] pos) X.env=(do
   let ov ← eval (.Name x p) X.env
   standAt apos.atName
   let (f,first) ← holding [ov] (getMethod ov m pl)
   callWith pos f first (backTo pos (starEach (a::as) X.env)) (backToKw pos (keywordEach [] X.env))):=by rfl) :
  PE X (.Call (.Attribute (.Name x p) m apos) (a::as) [] pos) (Gs C ta):=by
 intro pins s σ H Q I h;subst hK;refine PySem.W.methodCall_KW (pl:=pl) (gj I hg hm ?_ hdb) ht;refine method_cls I.kIn hga (cls_value I.kIn hrd hf hh ?_);have hA:=ha pos pins _ σ H _ (I.tok (s.toks+1)) h;rw[hst]at hA ⊢;refine AF (by show(false||(backTo pos (starEach as X.env)).any (·.1))=false;rw[hpl]<;>rfl) (AU ?_)
 refine dI hA fun us s2 zz=>?_;obtain⟨vs,H2,I2,r2,e,ws,rfl,hl,ee,q⟩:=zz;cases r2 with
 | @cons _ u _ us' r rr =>
  obtain rfl:u=Value.ref e:=r;obtain⟨N,xo⟩:=xc.cls I2.kIn;obtain⟨t0,he⟩:=(I2.hok e _ ee).1;refine yF xo xc.bf (xc.tail I2.kIn) he (by rw[← rr.length];exact Yc hl (by decide)) fun h' t' k he'=>?_
  have I3:=I2.write (x:=e) (e:=e) (o:=.ext (xφ C e none)) (t':=s2.toks) (by rw[ee];exact True.intro) (.inl rfl) (fun b u hb z=>k b u hb z) ⟨_,he'⟩ (Gr ⟨_,he'⟩)
  have eH:upd H2 e (.ext (xφ C e none))=H2:=by
   funext b
   by_cases hb:b=e
   ·subst hb;rw[aG,ee]
   ·rw[ax hb]
  rw[eH]at I3;exact⟨.non,H2,I3,rfl,q⟩
end
end VX
namespace VX
open PySem PySem.Spec PySem.W PyProof.Rows L2 VF
theorem Ik {K:Frag} {h:Heap} {N:Addr} {m:Str->Option Value} {n:Str} {v:Value} (kin:K.In h) (g:h.Ns N m) (e:nsIn K N n=some (some v)):m n=some v:=by
 obtain⟨o,es,ep,g1,g2,_,g4⟩:=g;cases l:K.lookup N with
 | none=>unfold nsIn at e;rw[l]at e;cases e
 | some u =>
  obtain rfl:=Option.some.inj ((kin _ _ l).symm.trans g1);obtain⟨c,d,dt,sl⟩:=u;cases g2;unfold nsIn at e;rw[l]at e;dsimp only at e;cases w:es.toList.find? (·.key.isStr n) with
  | none=>rw[w]at e;dsimp only at e;split at e<;>cases e
  | some x =>
   rw[w]at e;cases e;rw[← g4 n];show nsFind es n=some x.val;unfold nsFind findBy;rw[← Array.find?_toList];exact congrArg (Option.map _) w
section
variable {X:Cx} {C T f:Addr} {id ii sa ow B:String} {mB:List Value} {pins:List (Addr×Obj)} {σ:L2.St} {H:Hp} {s:Shared} {k:Nat} {fd:FuncData} {ps:List Str} {sp:Sp} {dvs:List V} {ds:List Value}
theorem yG {Q:VK} {us:List Value} {vs:List V} (xc:XC X.K C T f id ii sa ow B mB) (F:FnOk X.prog X.w X.K X.mg X.base ql k f fd ps sp) (hr:Room (k+1) X.A) (hb:L2.Binds X.K fd ps ds) (hd:Vals dvs ds)
  (I:L2.Inv X pins σ H s) (r:Vals vs us) (hus:us.length<=sizeLine) (h:∀e,H e=none->sp (.ref e::(vs++dvs)) (upd H e (.ext (xφ C e none))) (fun v H2=>v=.non/\Q (.ref e) H2) E0) :
  wpAny (model X.prog X.w) X.A (call (.ref C) us) (EP X pins σ Q) X.xe s:=by
 obtain⟨N,⟨_,_,_,_,_,_,_,_,_,_,_,_,_,l⟩,hN,hi⟩:=xc.ob;obtain⟨oI,lI,cI⟩:=xc.fo;have hn:=Heap.Ns.of_isNs (isNs_of_in I.kIn hN);refine yE (.mk _ _ _ _ _ _ _ _ _ _ _ _ _ (I.kIn _ _ l)) xc.bf (xc.tail I.kIn) hn (Ik I.kIn hn hi) (I.kIn _ _ lI) cI hus fun h' e t kk hz ht=>?_;have hq:=h e (I.hok.fresh hz);have I2:=I.laid (a:=e) (o:=.ext (xφ C e none)) (t':=s.toks) kk hz (Gr ⟨t,ht⟩);have r2:Vals (V.ref e::(vs++dvs)) (Value.ref e::(us++ds)):=.cons rfl (r.append hd);have hl:(Value.ref e::us++ds).length=ps.length:=by
  have e:=r2.length;rw[F.len _ _ _ _ hq]at e;exact e.symm
 refine k0 ?_;refine AA (F.run _ X.stack _ _ ⟨Value.ref e::us,[]⟩ (Value.ref e::(us++ds)) _ _ E0 (hr.make C us []) (I2.env0.make C us []) (hb _ (Value.ref e::us) I2.kIn hl) r2 hq) fun r s' hq' hle=>?_;cases r with
 | error e=>exact hq'.elim
 | ok fl =>
  cases fl with
  | ret u =>
   obtain⟨v,H',I3,rv,ev,q3⟩:=I2.after hq' hle;subst ev;exact⟨rv,⟨V.ref e,H',I3,rfl,q3⟩⟩
  | _=>exact hq'.elim
end
end VX
namespace VX
open PySem PySem.Spec PySem.W PyProof.Rows L2 VF
structure X1 (h:Heap) (e C:Addr) (dx:Option Addr) (T:Addr) (fl:Value):Prop where
 ex:∃vs sl,h.get? e=some ⟨.ref C,dx,.fields vs,sl⟩/\vs[1]?=some (.ref T)
 ne:T≠e
 tb:∃o ts,h.get? T=some o/\o.data=.fields ts/\ts[3]?=some fl
structure Kn (fs:List Addr) (ch:List Addr) (h h':Heap):Prop where
 keep:∀b o,b∉fs->b∉ch->h.get? b=some o->h'.get? b=some o
 slot:∀b o,b∈fs->b∉ch->h.get? b=some o->∃sl,h'.get? b=some { o with slots:=sl }
 size:h.objs.size<=h'.objs.size
theorem Kn.trans {fs ch ch':List Addr} {h h1 h2:Heap} (a:Kn fs ch h h1) (b:Kn fs ch' h1 h2):Kn fs (ch++ch') h h2 :=
 ⟨fun x o n m z=>b.keep x o n (fun w=>m (Xc _ w)) (a.keep x o n (fun w=>m (Zd _ w)) z),fun x o n m z=>by
  obtain⟨sl,z1⟩:=a.slot x o n (fun w=>m (Zd _ w)) z
  exact b.slot x { o with slots:=sl } n (fun w=>m (Xc _ w)) z1,Yc a.size b.size⟩
section
variable {M:Model} {A:Around} {X:Value->Shared->Prop} {S:Shared} {base:Heap} {en:Env} {outer:List Env} {L e C T:Addr} {dx:Option Addr}
theorem entry_at {vs:Array Value} {sl:Array (Option Value)} {hd:Value} {b:Bool} {Q:Unit->Shared->Prop} (fr:A.frames=some (en::outer)) (ff:S.heap.FunFrames base (en::outer)) (hf:en.frame=some L) (ee:S.heap.get? e=some ⟨.ref C,dx,.fields vs,sl⟩) (v1:1<vs.size)
  (q:∀H T,Kn (g5 (en::outer)) [e] S.heap H->S.heap.objs.size<=T->X1 H e C dx T (rawInt L)->Q () { S with heap:=H }) :
  wpAny M A (do let a ← frameOf en;let pl ← entryPlaceOf L b;let x ← EntryCells.newEntry hd a .none (rawInt L) .none pl;setField (.ref e) 1 x) Q X S:=by
 have nf:e∉g5 (en::outer):=fun z=>by
  obtain⟨_,o,z1,z2⟩:=ff.mem z;rw[ee]at z1;cases z1;exact z2 vs rfl
 refine Aa (wpAny_frameOf_fun fr ff hf fun H1 so=>Aa (wpAny_entryPlaceOf fun pl hp=>?_));have e1:H1.get? e=some ⟨.ref C,dx,.fields vs,sl⟩:=(so.2.1 e nf).trans ee
 delta EntryCells.newEntry newFields
 refine Aa (Ay ?_ (hp.sizeOk5 _ _ _ _ _));generalize hO:({ cls:=.type "traceback",dict:=none,data:=.fields ([hd,.ref L,.none,rawInt L,.none]++(if pl.isEmpty=true then List.replicate 6 Value.none else pl)).toArray }:Obj)=O;have e2:(H1.push O).get? e=some ⟨.ref C,dx,.fields vs,sl⟩:=Ac _ e1;have ne:H1.objs.size≠e:=Wl (Ad e1);refine AZ e2 rfl v1 (q _ H1.objs.size ⟨fun b o n1 n2 z=>?_,fun b o n1 n2 z=>?_,?_⟩ (Nat.le_of_eq so.1.symm) ⟨⟨vs.setIfInBounds 1 (.ref H1.objs.size),sl,?_,by simp[v1]⟩,ne,O,?_⟩)
 ·exact(Aj _ _ fun w:e=b=>n2 (w ▸ .head _)).trans (Ac _ ((so.2.1 b n1).trans z))
 ·obtain⟨sl',z1⟩:=so.2.2 b o z;exact⟨sl',(Aj _ _ fun w:e=b=>n2 (w ▸ .head _)).trans (Ac _ z1)⟩
 ·rw[AN,A2,so.1];exact Bm _
 ·exact(Ar _ e2 rfl).trans rfl
 ·subst hO;exact⟨_,(Aj _ _ ne.symm).trans (Ak _ rfl),rfl,by rcases hp with rfl|⟨_,_,_,_,_,_,_,rfl⟩<;>simp⟩
theorem land {fl:Value} {Q:Unit->Shared->Prop} {fs:List Addr} (x:X1 S.heap e C dx T fl) (q:∀H,Kn fs [T] S.heap H->X1 H e C dx T .none->Q () { S with heap:=H }):wpAny M A (setFlight (.ref e) none) Q X S:=by
 obtain⟨⟨vs,sl,e1,v1⟩,ne,o,ts,t1,t2,t3⟩:=x;unfold setFlight;refine Aa (As e1 rfl v1 ?_);rw[Af (show(Value.ref T != Value.none)=true by simp)]
 have v3:=(Zf.mp t3).1;refine AZ t1 t2 v3 (q _ ⟨fun b o n1 n2 z=>?_,fun b o n1 n2 z=>⟨o.slots,?_⟩,?_⟩ ⟨⟨vs,sl,?_,v1⟩,ne,?_⟩)
 ·exact(Aj _ _ fun w:T=b=>n2 (w ▸ .head _)).trans z
 ·exact(Aj _ _ fun w:T=b=>n2 (w ▸ .head _)).trans z
 ·rw[AN];exact Wb _
 ·exact(Aj _ _ ne).trans e1
 ·have d:=A0 t2 (·.setIfInBounds 3 ((none:Option Addr).elim Value.none fun f=>rawInt f));exact⟨_,_,Ar _ t1 (AG d),d,by simp[v3]⟩
theorem Kw {vs:Array Value} {sl:Array (Option Value)} {Q:Unit->Shared->Prop} (fr:A.frames=some (en::outer)) (ff:S.heap.FunFrames base (en::outer)) (hf:en.frame=some L) (ee:S.heap.get? e=some ⟨.ref C,dx,.fields vs,sl⟩) (v1:vs[1]?=some .none)
  (q:∀H T,Kn (g5 (en::outer)) [e] S.heap H->S.heap.objs.size<=T->X1 H e C dx T (rawInt L)->Q () { S with heap:=H }):wpAny M A (noteFrame (.ref e) en) Q X S:=by
 unfold noteFrame;rw[hf];refine Aa (As ee rfl v1 ?_);rw[Ah (by decide)]
 exact entry_at fr ff hf ee (Zf.mp v1).1 q
theorem Ch {Q:Unit->Shared->Prop} (fr:A.frames=some (en::outer)) (ff:S.heap.FunFrames base (en::outer)) (hf:en.frame=some L) (x:X1 S.heap e C dx T .none) (hT:T∉g5 (en::outer))
  (q:∀H T',Kn (g5 (en::outer)) ([T]++[e]) S.heap H->S.heap.objs.size<=T'->X1 H e C dx T' (rawInt L)->(∃o ts,H.get? T=some o/\o.data=.fields ts/\ts[3]?=some .none)->Q () { S with heap:=H }):wpAny M A (noteFrame (.ref e) en) Q X S:=by
 obtain⟨⟨vs,sl,e1,v1⟩,ne,o,ts,t1,t2,t3⟩:=x;unfold noteFrame;rw[hf];refine Aa (As e1 rfl v1 ?_);rw[Af (show(Value.ref T != Value.none)=true by simp)]
 refine Aa (As t1 t2 t3 ?_);rw[Ah (show ¬ (Value.none == rawInt L)=true by simp[rawInt])]
 refine Aa (AZ t1 t2 (Zf.mp t3).1 ?_);have ot:∀b,b≠T->(S.heap.update T (Obj.mapFields (·.setIfInBounds 3 Value.none))).get? b=S.heap.get? b:=fun b n=>Aj _ _ (Am n);have k1:Kn (g5 (en::outer)) [T] S.heap (S.heap.update T (Obj.mapFields (·.setIfInBounds 3 Value.none))):=⟨fun b o _ n z=>(ot b fun w=>n (w ▸ .head _)).trans z,fun b o _ n z=>⟨o.slots,(ot b fun w=>n (w ▸ .head _)).trans z⟩,by rw[AN];exact Wb _⟩
 have td:=A0 t2 (·.setIfInBounds 3 Value.none);refine entry_at (S:={ S with heap:=S.heap.update T (Obj.mapFields (·.setIfInBounds 3 Value.none)) }) fr (ff.of_keeps fun b o z nn=>⟨o,(ot b fun w=>?_).trans z,rfl⟩) hf ((ot e (Am ne)).trans e1) (Zf.mp v1).1 fun H T' k z x=>q H T' (k1.trans k) (Yc k1.size z) x ⟨_,_,k.keep T _ hT (fun m=>ne (Za.mp m)) (Ar _ t1 (AG td)),td,by simp[(Zf.mp t3).1]⟩
 rw[w,t1]at z;cases z;exact nn ts t2
theorem Il {vs:Array Value} {sl:Array (Option Value)} {Q:Unit->Shared->Prop} (fr:A.frames=some (en::outer)) (ff:S.heap.FunFrames base (en::outer)) (hf:en.frame=some L) (ee:S.heap.get? e=some ⟨.ref C,dx,.fields vs,sl⟩) (v1:vs[1]?=some .none)
  (q:∀H T,Kn (g5 (en::outer)) [e] S.heap H->S.heap.objs.size<=T->X1 H e C dx T .none->Q () { S with heap:=H }):wpAny M A (leaving en (.ref e)) Q X S:=by
 unfold leaving;refine Aa (Kw fr ff hf ee v1 fun H T k z x=>?_);refine land (S:={ S with heap:=H }) (fs:=g5 (en::outer)) x fun H2 k2 x2=>q H2 T ?_ z x2;refine⟨fun b o n1 n2 w=>k2.keep b o n1 (fun m=>?_) (k.keep b o n1 n2 w),fun b o n1 n2 w=>?_,Yc k.size k2.size⟩
 ·rw[Za.mp m]at w;exact absurd (Ad w) (Vl z)
 ·obtain⟨sl',w1⟩:=k.slot b o n1 n2 w;refine k2.slot b { o with slots:=sl' } n1 (fun m=>?_) w1;rw[Za.mp m]at w;exact absurd (Ad w) (Vl z)
end
end VX
namespace VX
open PySem PySem.Spec PySem.W PyProof.Rows L2 VF
section
variable {P:Program} {w:World} {H:Hp} {h:Heap} {C e T:Addr} {dx:Option Addr} {fl:Value}
theorem Gu (q:yφ C e dx T h):ObjOk P w H h e (.ext (yφ C e dx T)) :=
 ⟨q,let ⟨_,_,z,_⟩:=q;⟨_,z⟩,fun _ _ ⟨vs,sl,z,v⟩ k=>⟨vs,sl,k _ z,v⟩⟩
theorem Kx (q:tφ T fl h):ObjOk P w H h T (.ext (tφ T fl)) :=
 ⟨q,let ⟨_,_,z,_⟩:=q;⟨_,z⟩,fun _ _ ⟨o,ts,z,v⟩ k=>⟨o,ts,k _ z,v⟩⟩
end
def mW (P:Program) (w:World):y6:=fun outer H s E e s'=>∃a H',e=.ref a/\s'.os=s.os/\AllBare s'.gens/\Un (g5 outer) [] H H' s.heap s'.heap/\HOk P w H' s'.heap/\E (.ref a) none H'
abbrev two (H:Hp) (C e:Addr) (dx:Option Addr) (T:Addr) (fl:Value):Hp:=upd (upd H e (.ext (yφ C e dx T))) T (.ext (tφ T fl))
section
variable {X:Cx} {pins:List (Addr×Obj)} {σ:L2.St} {H:Hp} {s:Shared} {h':Heap} {ch:List Addr} {C e T:Addr} {dx:Option Addr} {fl:Value}
theorem uv (I:L2.Inv X pins σ H s) (k:Kn (g5 X.stack) ch s.heap h') (he:∃φ,H e=some (.ext φ)) (hT:(∃φ,H T=some (.ext φ))∨s.heap.objs.size<=T)
  (hc:∀b∈ch,b=e∨b=T∨∃φ,H b=some (.ext φ)/\φ h'/\∃o,h'.get? b=some o) (x:X1 h' e C dx T fl):L2.Inv X pins σ (two H C e dx T fl) { s with heap:=h' }:=by
 obtain⟨φe,he⟩:=he;obtain⟨ex,ne,tb⟩:=x;have hT':(∃φ,H T=some (.ext φ))∨(H T=none/\s.heap.get? T=none):=hT.imp id fun z=>⟨I.hok.fresh z,Br z⟩;have nT:∀b o,H b=some o->(∀φ,o≠.ext φ)->b≠T:=fun b o z n w=>by
  rw[w]at z;rcases hT' with⟨φ,q⟩|⟨q,_⟩
  ·rw[q]at z;cases z;exact n φ rfl
  ·rw[q]at z;cases z
 have nE:∀b o,H b=some o->(∀φ,o≠.ext φ)->b≠e:=fun b o z n w=>by
  rw[w,he]at z;cases z;exact n φe rfl
 have same:∀b o,H b=some o->(∀φ,o≠.ext φ)->two H C e dx T fl b=some o:=fun b o z n=>by
  unfold two;rw[ax (nT b o z n),ax (nE b o z n)];exact z
 have out:∀b,H b=none->b∈ch->∀o,s.heap.get? b≠some o:=fun b n m o z=>by
  rcases hc b m with w|w|⟨φ,w,_⟩
  ·rw[w,he]at n;cases n
  ·rw[w]at n z;rcases hT' with⟨φ,q⟩|⟨_,q⟩
   ·rw[q]at n;cases n
   ·rw[q]at z;cases z
  ·rw[w]at n;cases n
 have oc:∀c o,H c=some o->(∀φ,o≠.ext φ)->c∉ch:=fun c o z n m=>by
  rcases hc c m with w|w|⟨φ,w,_⟩
  ·exact nE c o z n w
  ·exact nT c o z n w
  ·rw[w]at z;cases z;exact n φ rfl
 refine I.call (ch:=[]) (g':=s.gens) (d':=s.drawn) (t':=s.toks) ⟨fun b o z n nf _=>k.keep b o nf (fun m=>out b n m o z) z,fun b o z n nf _=>k.slot b o nf (fun m=>out b n m o z) z,fun b o z n _=>?_,fun b o z _=>?_,fun b xs z=>same b _ z nofun,fun b o u z=>same b _ z nofun,fun b ps z=>⟨#[],by rw[Array.append_empty];exact same b _ z nofun⟩⟩ (fun b o z=>?_) I.bare nofun
 ·unfold two;rw[ax,ax]
  ·exact n
  ·intro w;rw[w,he]at n;cases n
  ·intro w;rw[w]at n z;rcases hT' with⟨φ,q⟩|⟨_,q⟩
   ·rw[q]at n;cases n
   ·rw[q]at z;cases z
 ·by_cases m:b∈ch
  ·rcases hc b m with w|w|⟨φ,_,_,w⟩
   ·rw[w];obtain⟨_,_,q,_⟩:=ex;exact⟨_,q⟩
   ·rw[w];obtain⟨_,_,q,_⟩:=tb;exact⟨_,q⟩
   ·exact w
  ·by_cases f:b∈g5 X.stack
   ·obtain⟨_,q⟩:=k.slot b o f m z;exact⟨_,q⟩
   ·exact⟨_,k.keep b o f m z⟩
 ·unfold two at z;by_cases w:b=T
  ·subst w;rw[aG]at z;cases z;exact Kx tb
  ·rw[ax w]at z;by_cases v:b=e
   ·subst v;rw[aG]at z;cases z;exact Gu ex
   ·rw[ax v]at z;have nf:∀c u,H c=some u->c∉g5 X.stack:=fun c u q m=>by rw[I.stkFree c m]at q;cases q
    by_cases m:b∈ch
    ·rcases hc b m with q|q|⟨φ,q,f,th⟩
     ·exact absurd q v
     ·exact absurd q w
     ·rw[q]at z;cases z;exact⟨f,th,(show ObjOk X.prog X.w H s.heap b (.ext φ) from I.hok b _ q).2.2⟩
    ·refine(I.hok b o z).stay (fun c u hc' q=>?_) (fun c q=>same c _ q nofun) fun c ys q=>same c _ q nofun;rcases hc' with rfl|hc'
     ·exact k.keep c u (nf c o z) m q
     ·exact k.keep c u (nf c _ hc') (oc c _ hc' nofun) q
end
section
variable {P:Program} {w:World} {K:Frag} {mg:Str->Option Value} {base:Heap} {N:List Str} {qual:Str} {scope:Scope} {f:Addr} {cd:Value} {A:Around} {outer:List Env} {s0 s:Shared} {H0 H:Hp} {E:XK} {pins:List (Addr×Obj)} {σ:L2.St} {C e:Addr} {dx:Option Addr}
theorem Em (I:L2.Inv (dP (mW P w) P w K mg base N qual scope f cd A outer s0 H0 E) pins σ H s) (he:H e=some (.ext (xφ C e dx))) (q:∀T,H T=none->E (.ref e) none (two H C e dx T .none)) :
  (dP (mW P w) P w K mg base N qual scope f cd A outer s0 H0 E).xe (.ref e) s:=by
 obtain⟨t,ee⟩:=(I.hok e _ he).1;refine Il I.ok.frames I.stack rfl ee rfl fun h' T k z x=>?_;have J:=uv I k ⟨_,he⟩ (.inr z) (fun b m=>.inl (Za.mp m)) x;exact⟨e,_,rfl,J.os,J.bare,J.base,J.hok,q T (I.hok.fresh z)⟩
end
end VX
namespace VX
open PySem PySem.Spec PySem.W PyProof.Rows L2 VF
def Fn (H H':Hp) (dx:Option Addr) (n:Str) (v:V):Prop:=(n=""/\dx=none)∨∃d,dx=some d/\H d=none/\H' d=some (.xd [(n,v)])
structure Rsd (C:Addr) (n:Str) (v:V) (H H':Hp) (e:Addr):Prop where
 new:H e=none
 obj:∃dx T,T≠e/\H T=none/\H' e=some (.ext (yφ C e dx T))/\Fn H H' dx n v/\H' T=some (.ext (tφ T .none))
 old:∀b o,H b=some o->H' b=some o
def Im (C:Addr):Sp:=fun vs H Q _=>∃e,vs=[.ref e]/\H e=some (.ext (xφ C e none))/\Q .non H
def LV (C:Addr) (E:XK):TS:=fun _ _ H=>∀e H',Rsd C "" .non H H' e->E (.ref e) none H'
section
variable {P:Program} {w:World} {K:Frag} {mg:Str->Option Value} {base:Heap} {N:List Str} {qual:Str} {scope:Scope} {g:Addr} {cd:Value} {A:Around} {outer:List Env} {s0:Shared} {H0:Hp} {E:XK} {C T f:Addr} {id ii sa ow B:String} {mB:List Value}
theorem yH {k:Nat} {fd:FuncData} {x:Str} {p cp pos:Pos} {ps:List Str} (xc:XC K C T f id ii sa ow B mB) (hbe:mB.contains (.type "BaseException")=true) (F:FnOk P w K mg base ql k f fd ps (Im C)) (hr:Room (k+1) (A.deeper (envOfC qual scope s0.heap.objs.size g cd))) (hb:L2.Binds K fd ps [])
  (hg:Gl (dP (mW P w) P w K mg base N qual scope g cd A outer s0 H0 E) x) (hm:mg x=some (.ref C)) (hdb:(x == ("__debug__":Str))=false:=by decide) :
  PS (dP (mW P w) P w K mg base N qual scope g cd A outer s0 H0 E) (.Raise (some (.Call (.Name x p) [] [] cp)) none pos) (LV C E):=by
 intro pins s σ H D I h;obtain⟨M,⟨_,_,_,_,_,_,_,_,_,_,_,_,_,l⟩,_⟩:=xc.ob;rw[arm_exec_Raise];refine Aa (AO (Ej (C:=C) (N:=M) (mr:=.ref T::mB) (hd:=true) (id:=id) (ex:=do let v ← eval (.Call (.Name x p) [] [] cp) (envOfC qual scope s0.heap.objs.size g cd);standAt pos;pure v) (by rw[Xm,hbe,Bh]) (I.ok.hd rfl) ?_))
 refine Aa (dI ?_ fun v s1 z=>Aa (AO (Ai z)));refine Au (gj I hg hm ?_ hdb);refine PySem.W.callWith_K0 I.kIn xc.kp (dI (yG (Q:=fun u H2=>∃e,u=.ref e/\H e=none/\H2=upd H e (.ext (xφ C e none))) (us:=[]) (vs:=[]) (dvs:=[]) (ds:=[]) xc F hr hb .nil I .nil (Qk _) fun e he=>⟨e,rfl,aG,rfl,e,rfl,he,rfl⟩) fun u s1 zz=>?_);obtain⟨v,H2,I2,rv,e,rfl,he,rfl⟩:=zz;obtain rfl:u=Value.ref e:=rv;have e2:upd H e (.ext (xφ C e none)) e=some (.ext (xφ C e none)):=aG;obtain⟨t,ee⟩:=(I2.hok e _ e2).1;refine⟨e,t,none,rfl,.mk _ _ _ _ _ _ _ _ _ _ _ _ _ (I2.kIn _ _ l),ee,Em I2 e2 fun T' hT=>?_⟩;have a2:T'≠e:=fun z=>by rw[z,e2]at hT;cases hT
 have nT:H T'=none:=by rw[ax a2]at hT;exact hT
 refine h e _ ⟨he,⟨none,T',a2,nT,?_,.inl ⟨rfl,rfl⟩,?_⟩,fun b o z=>?_⟩
 ·unfold two;rw[ax (Am a2),aG]
 ·unfold two;rw[aG]
 ·have n1:b≠e:=fun q=>by rw[q,he]at z;cases z
  have n3:b≠T':=fun q=>by rw[q,nT]at z;cases z
  unfold two;rw[ax n3,ax n1,ax n1];exact z
end
structure CalG (P:Program) (w:World) (K:Frag) (mg:Str->Option Value) (base:Heap) (x:Str) (k:Nat) (ps:List Str) (sp:Sp):Prop where
 ex:∃f fd,FnOk P w K mg base (mW P w) k f fd ps sp/\mg x=some (.ref f)/\keepIn K (.ref f)=true/\L2.Binds K fd ps []
end VX
namespace VX
open PySem PySem.Spec PySem.W PyProof.Rows L2 VF
abbrev Ky (X:Cx) (v:Value):Cx:={ X with A:=X.A.mark (some v),calm:=false,xe:=fun _ _=>False }
section
variable {X:Cx} {pins:List (Addr×Obj)} {σ:L2.St} {H:Hp} {s:Shared} {v:Value}
theorem Ci (I:L2.Inv X pins σ H s):L2.Inv (Ky X v) pins σ H s :=
 ⟨⟨I.ok.mod,I.ok.kind,I.ok.glob,I.ok.blt,I.ok.above,I.ok.inj,I.ok.has,I.ok.cab,nofun,I.ok.frames,I.ok.stk,I.ok.exf,I.ok.bs,I.ok.bsz,I.ok.noex,I.ok.exfs,I.ok.funs,I.ok.frf⟩,I.os,I.bare,I.base,I.loc,I.cell,I.free,I.freeC,I.pin,I.hok,I.len,I.tk⟩
theorem Ep (ok:X.Ok) (I:L2.Inv (Ky X v) pins σ H s):L2.Inv X pins σ H s:=⟨ok,I.os,I.bare,I.base,I.loc,I.cell,I.free,I.freeC,I.pin,I.hok,I.len,I.tk⟩
theorem gone {M:Model} {A:Around} {E:Value->Shared->Prop} {i:Nat} {x:Str} {pos:Pos} {Q:Unit->Shared->Prop} (I:L2.Inv X pins σ H s) (hN:X.N.Nodup) (hi:X.N[i]?=some x) (hk:X.env.scope.names.lookup x=some .local)
  (q:∀s',L2.Inv X pins (σ.set i none) H s'->Q () s'):wpAny M A (do bindName X.env x .none;unbindBehindTheSuite X.env x pos) Q E s:=by
 obtain⟨m,hn,hl⟩:=id I.loc;obtain⟨oL,_,_,hoL,_⟩:=id hn;have hiσ:i<σ.length:=by rw[I.len];exact(Xd.mp hi).1
 refine bW (wpAny_nameGoes_keeps hk hn (by rw[I.ok.kind];rfl) fun h' u hn' hs hle=>q _ ?_)
 have lt:∀b o,X.s₀.heap.get? b=some o->b≠X.env.locals:=fun b o e=>Vf (Vb (Ad e) I.ok.above);refine⟨I.ok,I.os,I.bare,⟨fun b o e n hb hx=>(hs.2 b (lt b o e)).trans (I.base.keep b o e n hb hx),fun b o e n hb hx=>?_,I.base.free,fun b o e hx=>?_,I.base.tups,I.base.frzs,I.base.tbls⟩,⟨_,hn',fun j y v' e1 e2 e3=>?_⟩,fun y c e=>?_,I.free,I.freeC,fun p hp=>?_,fun b o e=>?_,by simpa using I.len,I.tkl' hle⟩
 ·obtain⟨sl,e1⟩:=I.base.slot b o e n hb hx;exact⟨sl,(hs.2 b (lt b o e)).trans e1⟩
 ·obtain⟨o',e1⟩:=I.base.there b o e hx;exact⟨o',(hs.2 b (lt b o e)).trans e1⟩
 ·by_cases hj:j=i
  ·subst hj;rw[Wm hiσ]at e2;cases e2
  ·rw[Yl (Am hj)]at e2;obtain⟨u',r',z⟩:=hl j y v' e1 e2 e3;refine⟨u',r',?_⟩;rcases z with⟨k,e⟩|⟨k,c,e,z⟩
   ·have ny:y≠x:=fun e=>hj (oX hN e1 (e ▸ hi));exact .inl ⟨k,(Ah ny).trans e⟩
   ·exact .inr ⟨k,c,e,z.sameBut hs (I.cne y c e)⟩
 ·obtain⟨w',z⟩:=I.cell y c e;exact⟨w',z.sameBut hs (I.cne y c e)⟩
 ·obtain⟨e,n,ne,nf,d⟩:=I.pin p hp;exact⟨(hs.2 p.1 ne).trans e,n,ne,nf,d⟩
 ·refine(I.hok b o e).stay (fun c w' hc z=>(hs.2 c fun w=>?_).trans z) (fun _ z=>z) fun _ _ z=>z;rw[w]at hc;rcases hc with hc|hc
  ·rw[← hc,I.free]at e;cases e
  ·rw[I.free]at hc;cases hc
end
def Mo (X:Cx) (sts:List Stmt) (t:(Addr->Hp->Prop)->TS):Prop:=∀(pins:List (Addr×Obj)) (s:Shared) (σ:L2.St) (H:Hp) (D:Ends) (Ex:Addr->Hp->Prop),L2.Inv X pins σ H s->t Ex D σ H ->
 wpAny (model X.prog X.w) X.A (execs sts X.env) (SP X pins D) (fun e s'=>∃a H',e=.ref a/\L2.Inv X pins σ H' s'/\Ex a H') s
section
variable {X:Cx} {pins:List (Addr×Obj)} {σ:L2.St} {H:Hp} {s:Shared}
theorem Cj {k:Nat} {f:Addr} {fd:FuncData} {ps:List Str} {sp:Sp} {Q:VK} {E:XK} {us:List Value} {vs:List V} (F:FnOk X.prog X.w X.K X.mg X.base (mW X.prog X.w) k f fd ps sp) (hr:Room k X.A) (hb:L2.Binds X.K fd ps [])
  (I:L2.Inv X pins σ H s) (r:Vals vs us) (h:sp vs H Q E):wpAny (model X.prog X.w) X.A (call (.ref f) us) (EP X pins σ Q) (fun e s'=>∃a H',e=.ref a/\L2.Inv X pins σ H' s'/\E (.ref a) none H') s:=by
 have hl:us.length=ps.length:=r.length.symm.trans (F.len _ _ _ _ h);have hb':=hb s us I.kIn (by rw[Wc];exact hl)
 rw[Wc]at hb';refine wpAny_call (k0 (AA (F.run _ _ _ _ ⟨us,[]⟩ us vs _ E hr I.env0 hb' r h) fun r s' z hle=>?_));cases r with
 | error e =>
  obtain⟨a,H',rfl,os,bare,un,hok,q⟩:=z;exact⟨a,H',rfl,I.call' os un hok bare nofun (I.tkl' hle),q⟩
 | ok fl =>
  cases fl with
  | ret u=>exact I.after z hle
  | _=>exact z.elim
end
end VX
namespace VX
open PySem PySem.Spec PySem.W PyProof.Rows L2 VF
theorem xj {H:Hp} {C e T:Addr} {dx:Option Addr} {a b:Value}:two (two H C e dx T a) C e dx T b=two H C e dx T b:=by
 funext x
 unfold two;by_cases h:x=T
 ·rw[h,aG,aG]
 ·rw[ax h,ax h];by_cases g:x=e
  ·rw[g,aG,aG]
  ·rw[ax g,ax h,ax g]
def Kz (Cs:Addr->Prop) (i:Nat) (tb:(Addr->Hp->Prop)->TS) (th:Addr->TS):TS:=fun D σ H=>tb (fun a H'=>∃C dx T,Cs C/\T≠a/\H' a=some (.ext (yφ C a dx T))/\H' T=some (.ext (tφ T .none)) /\
 ∀T',H' T'=none->th a { nx:=fun σ' H2=>D.nx (σ'.set i none) H2,rt:=fun _ _=>False } (σ.set i (some (.ref a))) (two H' C a dx T' .none)) D σ H
theorem Io {M:Model} {A:Around} {E:Value->Shared->Prop} {S:Shared} {C N a:Addr} {mr:List Value} {hd:Bool} {id:String} {o:Obj} {nv:Value} {Q:Unit->Shared->Prop} (c:XO S.heap C N mr hd id) (hb:mr.contains (.type "BaseException")=true) (ha:S.heap.get? a=some o) (hc:o.cls=.ref C) (q:Q () S) :
  wpAny M A (checkBuiltinCall "BaseException.__getattribute__" ⟨[.ref a,nv],[]⟩) Q E S:=by
 obtain⟨_,_,_,_,_,_,_,_,_,_,_,_,_,e0⟩:=c;obtain⟨H,gs,dr,tk,os⟩:=S;have k1:builtinKind "BaseException.__getattribute__"=some .slot:=by decide +kernel
 have k2:splitId "BaseException.__getattribute__"=some ("BaseException","__getattribute__"):=by decide +kernel
 have k3:=F.args_bexc_ga (.ref a) nv;have sb:∀{M:Model} {A:Around} {E:Value->Shared->Prop} {g:Array GenState} {d:Drawn} {t:Nat} {o:OsState} {R:Bool->Shared->Prop},R true ⟨H,g,d,t,o⟩->wpAny M A (isSubtype (.ref C) (.type "BaseException")) R E ⟨H,g,d,t,o⟩:=fun r=>AX e0 (by rw[show(Value.ref C::mr).contains (.type "BaseException")=true by rw[Xm,hb,Bh]];exact r)
 have ld:∀{M:Model} {A:Around} {E:Value->Shared->Prop} {g:Array GenState} {d:Drawn} {t:Nat} {os:OsState} {R:Value->Shared->Prop},R (.ref C) ⟨H,g,d,t,os⟩->wpAny M A (typeOf (.ref a)) R E ⟨H,g,d,t,os⟩:=fun r=>by
  unfold typeOf
  wp_walk using At ha
  rw[hc];exact r
 unfold checkBuiltinCall;rw[k1];dsimp only;rw[k2];unfold isInstance
 wp_walk using ld,sb
 exact q
end VX
namespace VX
open PySem PySem.Spec PySem.W PyProof.Rows L2 VF
structure XH (K:Frag) (C:Addr) (B:String):Prop where
 fb:ExcAttrFacts B
 ga:findIn K (.ref C) "__getattribute__"=some (some (.builtin "BaseException.__getattribute__"))
 gt:findIn K (.ref C) "__getattr__"=some none
 hd:hasDictIn K C=true
 ca:findIn K (.ref C) "__class__"=some (some (.builtin "object.__class__"))
 cn:specialIn K (.builtin "object.__class__") "__get__"=some (some (.builtin "getset_descriptor.__get__"))
 ck:takesIn K (.builtin "object.__class__")=some true
 cm:mroIn K C (.type "object")=some true
section
variable {K:Frag} {C T f a:Addr} {id ii sa ow B:String} {mB:List Value} {o:Obj} {od:Option Obj}
theorem Ip {P:Program} {W:World} {A:Around} {E:Value->Shared->Prop} {S:Shared} {Q:Option Value->Shared->Prop} (xc:XC K C T f id ii sa ow B mB) (hbe:mB.contains (.type "BaseException")=true) (xh:XH K C B) (kin:K.In S.heap) (J:PySem.W.InstAt S.heap a o C od) (q:Q (some (.ref C)) { S with toks:=S.toks+1 }) :
  wpAny (model P W) A (getAttr? (.ref a) "__class__") Q E S:=by
 obtain⟨N,c⟩:=xc.cls kin;have fo:findObj K C od "__class__"=some (.bind (.builtin "getset_descriptor.__get__") (.builtin "object.__class__")):=by
  obtain⟨cd,e1,_⟩:=any_some xh.hd;simp[findObj,e1,xh.ca,xh.cn,xh.ck]
 obtain⟨H,gs,dr,tk,os⟩:=S;have ty:=J.type (M:=model P W);have l1:=looks_findIn (M:=model P W) kin xh.ga;have l2:=looks_findIn (M:=model P W) kin xh.gt;have l3:=looks_find (M:=model P W) kin J fo;have x0:(false&&onTheHeap (Value.builtin "BaseException.__getattribute__"))=false:=rfl;have x2:(Value.builtin "BaseException.__getattribute__" == Value.builtin "object.__getattribute__")=false:=by decide +kernel
 have x1:(onTheHeap (Value.ref C)&&Value.builtin "BaseException.__getattribute__" == Value.builtin "object.__getattribute__")=false:=by rw[x2];rfl
 have bd:=xh.fb.ga.bind (.ref a);unfold getAttr?;unfold getAttrBy? getAttrBy
 wp_walk using ty.at,l1.at,l2.at
 refine codeAny_call_builtin xh.fb.ga.plain F.entry_bexc_ga (Io (S:=⟨H,gs,dr,tk+1,os⟩) c (by rw[Xm,hbe,Bh]) J.at_ J.cls ?_)
 wp_walk using ty.at,l3.at
 have ho:handedOut (.ref C)=pure (.ref C):=handedOut_of rfl;refine class_get (s:=⟨H,gs,dr,tk+1,os⟩) (ox:=o) (od:=od) kin J xh.cm ?_
 wp_walk
 exact q
theorem vQ (xc:XC K C T f id ii sa ow B mB) (hbe:mB.contains (.type "BaseException")=true) (xh:XH K C B):KitX K (.ref a) (.ref C) (fun h=>PySem.W.InstAt h a o C od) where
 ty:=fun _ _ _ J=>J.type
 it:=fun M h kin _ A' Q' E' s' k q=>by
  obtain⟨N,⟨_,_,_,_,_,_,_,_,_,_,_,_,_,l⟩,_⟩:=xc.ob;unfold isType loadHead;exact Aa (wpAny_loadPart (k C _ (kin C _ l)) (Ai q))
 ne:=fun h tp dd its n sl kin ht=>by
  obtain⟨N,⟨_,_,_,_,_,_,_,_,_,_,_,_,_,l⟩,_⟩:=xc.ob;by_cases w:C=tp
  ·rw[← w,kin C _ l]at ht;exact absurd (congrArg Obj.data (Option.some.inj ht)) nofun
  ·simpa using w
 ca:=fun kin J q=>Ip xc hbe xh kin J q
end
theorem xk:∀{cs:List Addr} {us:List Value},Vals (cs.map V.ref) us->us=cs.map Value.ref
 | [],_,.nil=>rfl
 | c::cs,_,.cons r rr=>by
  cases (show _=Value.ref c from r);rw[xk rr];rfl
def Dx (H:Hp) (dx:Option Addr):Prop:=dx=none∨∃d fs,dx=some d/\H d=some (.xd fs)
def pA (K:Frag) (C:Addr):List V->Hp->VK->Prop:=fun vs H Q=>∃a dx T b cv,vs=[.ref a,.ref cv]/\H a=some (.ext (yφ C a dx T))/\Dx H dx/\(kitOne K (.ref C) (.ref cv)=some b∨∃cs:List Addr,H cv=some (.tup (cs.map V.ref))/\kitAny K (.ref C) (cs.map Value.ref)=some b)/\Q (.bl b) H
section
variable {X:Cx} {K:Frag} {C T f a dx:Addr} {id ii sa ow B:String} {mB:List Value} {pins:List (Addr×Obj)} {σ:L2.St} {H:Hp} {s:Shared} {fs:List (Str×V)}
theorem x_at (I:L2.Inv X pins σ H s) {T':Addr} (ea:H a=some (.ext (yφ C a (some dx) T'))) (ex:H dx=some (.xd fs)):∃(o od:Obj) (mA:Str->Option Value),PySem.W.InstAt s.heap a o C (some od)/\(∀n,lookIn n od=some (mA n))/\∀n,RelO (fs.lookup n) (mA n):=by
 obtain⟨vs,sl,z,_⟩:=(I.hok a _ ea).1;obtain⟨mA,ns,r⟩:=(show ObjOk X.prog X.w H s.heap dx (.xd fs) from I.hok dx _ ex);obtain⟨od,z2,l⟩:=qE ns;exact⟨_,od,mA,⟨z,rfl,rfl,z2⟩,l,r⟩
theorem Gv (I:L2.Inv X pins σ H s) {T':Addr} {dx:Option Addr} (ea:H a=some (.ext (yφ C a dx T'))) (ex:Dx H dx):∃(o:Obj) (od:Option Obj),PySem.W.InstAt s.heap a o C od:=by
 rcases ex with rfl|⟨d,fs,rfl,ex⟩
 ·obtain⟨vs,sl,z,_⟩:=(I.hok a _ ea).1;exact⟨_,none,⟨z,rfl,rfl,trivial⟩⟩
 ·obtain⟨o,od,mA,J,_⟩:=x_at I ea ex;exact⟨o,some od,J⟩
theorem nl (h:X.K=K) (xc:XC K C T f id ii sa ow B mB) (hbe:mB.contains (.type "BaseException")=true) (xh:XH K C B):CallR X (.builtin "isinstance") (pA K C):=by
 intro pins s σ H vs us Q I r q;subst h;obtain⟨a,dx,T',b,cv,rfl,ea,ex,hc,q⟩:=q;obtain⟨o,od,J⟩:=Gv I ea ex;cases r with
 | cons r1 r2 =>
  cases r2 with
  | cons r2 r3 =>
   cases r3;cases (show _=Value.ref a from r1);cases (show _=Value.ref cv from r2);refine bW ?_;have en:∀tk,s.toks<=tk->EP X pins σ Q (.bool b) { s with toks:=tk }:=fun tk hle=>⟨.bl b,H,I.tok tk (I.tkl' hle),rfl,q⟩;rcases hc with hc|⟨cs,ec,hc⟩
   ·exact kia_one (vQ xc hbe xh) I.kIn J hc nofun en
   ·obtain⟨_,us,rv,p⟩:=(show ObjOk X.prog X.w H s.heap cv (.tup (cs.map V.ref)) from I.hok cv _ ec);have eu:=xk rv;subst eu;obtain⟨o',p1,p2,n,p3⟩:=p;obtain⟨c1,c2,c3,c4⟩:=o';cases p2;cases p3;exact kia_tup (vQ xc hbe xh) I.kIn J p1 hc nofun en
end
end VX
namespace VX
open PySem PySem.Spec PySem.W PyProof.Rows L2 VF
def KB (s:Stmt) (i:Nat):Stmt:=match s with
 | .ClassDef _ _ _ b _ _ _ _ _ _ _=>b.getD i (.Pass ⟨0,0,0,0⟩)
 | _=>.Pass ⟨0,0,0,0⟩
def LW (es:Array DictEntry):Bool:=es.toList.all fun e=>match e.key with|.str _ _=>true|_=>false
theorem nsOk_of {K:Frag} {N:Addr} {nc:Value} {nd:Option Addr} {es:Array DictEntry} {ep:Nat} {ns:Array (Option Value)} (l:K.lookup N=some ⟨nc,nd,.dict es ep,ns⟩) (t:LW es=true):nsOkIn K N=true:=by
 unfold nsOkIn;rw[l];exact Array.all_toList.symm.trans t
abbrev mVE:List Value:=[.type "ValueError",.type "Exception",.type "BaseException",.type "object"]
theorem xc_mk {K:Frag} {C S f N:Addr} {a b:Str} {bs:List Value} {sn:List Str} {su:List Value} {x:Bool} {y:Option Bool} {z:Option Addr} {p0 p1 p2 p3 p5:Option Value} {c0:Value} {dd:Option Addr} {cd:ClassData} {sl:Array (Option Value)} {o:Obj}
  (l:K.lookup C=some (excClassObj a b C N bs (.ref S::mVE) true sn su x y z p0 p1 p2 p3 p5 "ValueError.__new__")) (n:nsOkIn K N=true) (i:nsIn K N "__init__"=some (some (.ref f))) (l2:K.lookup S=some { cls:=c0,dict:=dd,data:=.cls cd,slots:=sl }) (n2:nsOkIn K cd.ns=true) (i2:nsIn K cd.ns "__init__"=some none)
  (st:findIn K (.ref C) "__setattr__"=some (some (.builtin "object.__setattr__"))) (lf:K.lookup f=some o) (fc:o.cls=.type "function") (kp:keepIn K (.ref C)=true):XC K C S f "ValueError.__new__" "ValueError.__init__" "object.__setattr__" "object" "ValueError" mVE :=
 ⟨⟨N,⟨a,b,bs,sn,su,x,y,z,p0,p1,p2,p3,p5,l⟩,n,i⟩,⟨c0,dd,cd,sl,l2,n2,i2⟩,PySem.F.excBase_ValueError,PySem.F.store_ValueError,st,⟨o,lf,fc⟩,kp⟩
end VX
namespace VX
open PySem PySem.Spec PySem.W PyProof.Rows L2 VF
section
variable {M:Model} {A:Around} {X:Value->Shared->Prop} {S:Shared} {base:Heap} {en:Env} {outer:List Env} {L e C T:Addr} {dx:Option Addr}
theorem Iq {Q:Unit->Shared->Prop} (fr:A.frames=some (en::outer)) (ff:S.heap.FunFrames base (en::outer)) (hf:en.frame=some L) (x:X1 S.heap e C dx T .none) (hT:T∉g5 (en::outer))
  (q:∀H T',Kn (g5 (en::outer)) ([T]++[e]) S.heap H->S.heap.objs.size<=T'->X1 H e C dx T' .none->(∃o ts,H.get? T=some o/\o.data=.fields ts/\ts[3]?=some .none)->Q () { S with heap:=H }):wpAny M A (leaving en (.ref e)) Q X S:=by
 unfold leaving;refine Aa (Ch fr ff hf x hT fun H T' k z x' old=>?_);obtain⟨o,ts,t1,t2,t3⟩:=x.tb;have lT:=Ad t1;have nT:T≠T':=Vf (Vb lT z);refine land (S:={ S with heap:=H }) (fs:=g5 (en::outer)) x' fun H2 k2 x2=>q H2 T' ⟨fun b o n1 n2 w=>?_,fun b o n1 n2 w=>?_,Yc k.size k2.size⟩ z x2 ?_
 ·refine k2.keep b o n1 (fun m=>?_) (k.keep b o n1 n2 w);rw[Za.mp m]at w;exact absurd (Ad w) (Vl z)
 ·obtain⟨sl',w1⟩:=k.slot b o n1 n2 w;refine k2.slot b { o with slots:=sl' } n1 (fun m=>?_) w1;rw[Za.mp m]at w;exact absurd (Ad w) (Vl z)
 ·obtain⟨o',ts',w1,w2,w3⟩:=old;exact⟨o',ts',k2.keep T o' hT (fun m=>nT (Za.mp m)) w1,w2,w3⟩
end
section
variable {P:Program} {w:World} {K:Frag} {mg:Str->Option Value} {base:Heap} {N:List Str} {qual:Str} {scope:Scope} {f:Addr} {cd:Value} {A:Around} {outer:List Env} {s0 s:Shared} {H0 H:Hp} {E:XK} {pins:List (Addr×Obj)} {σ:L2.St} {C e T:Addr} {dx:Option Addr}
theorem Er (I:L2.Inv (dP (mW P w) P w K mg base N qual scope f cd A outer s0 H0 E) pins σ H s) (ea:H e=some (.ext (yφ C e dx T))) (eT:H T=some (.ext (tφ T .none))) (ne:T≠e) (q:∀T',H T'=none->E (.ref e) none (two H C e dx T' .none)) :
  (dP (mW P w) P w K mg base N qual scope f cd A outer s0 H0 E).xe (.ref e) s:=by
 refine Iq I.ok.frames I.stack rfl ⟨(I.hok e _ ea).1,ne,(I.hok T _ eT).1⟩ (fun m=>by rw[I.stkFree T m]at eT;cases eT) fun h' T' k z x old=>?_
 have J:=uv I k ⟨_,ea⟩ (.inr z) (fun b m=>?_) x
 ·exact⟨e,_,rfl,J.os,J.bare,J.base,J.hok,q T' (I.hok.fresh z)⟩
 ·rcases Zc.mp m with m|m
  ·rw[Za.mp m];exact .inr (.inr ⟨_,eT,old,let ⟨o,_,z,_⟩:=old;⟨o,z⟩⟩)
  ·exact .inl (Za.mp m)
end
end VX
namespace VX
open PySem PySem.Spec PySem.W PyProof.Rows L2 VF
abbrev Rx:=Str×Str×Option Str
inductive Oy where
 | o (x:Ot)|x (v:Rx)
def Flies (K:Frag) (E:XK) (H:Hp) (v:Rx):Prop:=∀C,nsIn K mainGlobals v.1=some (some (.ref C))->∀e H',Rsd C v.2.1 (oV v.2.2) H H' e->E (.ref e) none H'
abbrev FY:=En->Option Oy
def OutY (K:Frag) (E:XK) (Z O:AS) (H:Hp) (st:En) (σ:L2.St) (Dn:Ends):Oy->Prop
 | .o o=>Out K Z O H st σ Dn o
 | .x v=>∀H1 O1,Ext O H O1 H1->Flies K E H1 v
def tN (K:Frag) (E:XK) (t:TS) (F:FY):Prop:=∀(st:En) (σ:L2.St) (H:Hp) (O Z:AS) (Dn:Ends),ER K st σ H O Z->∀r,F st=some r->OutY K E Z O H st σ Dn r->t Dn σ H
def q8 (K:Frag) (R:List D->Option Rx) (g:List D->Option Rz):Sp:=fun vs H Q E=>oC K g vs H Q E∨∃Z ds x,El K Z H vs ds/\(∀p,Z p->Lv H p)/\R ds=some x/\Flies K E H x
def tO (F:FS):FY:=fun st=>(F st).bind fun o=>some (.o o)
def iX (F G:FY):FY:=fun st=>(F st).bind fun r=>match r with
 | .o (.nx s)=>G s
 | r=>some r
def Ck (f:FT) (F G:FY):FY:=fun st=>(f st).bind fun x=>if x.1=true then F x.2 else G x.2
def kB (c:Str):FY:=fun _=>some (.x (c,"",none))
def y7 (F:FY):FS:=fun st=>(F st).bind fun r=>match r with
 | .o o=>some o
 | .x _=>none
def gK (F:FY) (n m:Nat):List D->Option Rx:=fun ds=>if ds.length=m then(F (iK n ds)).bind fun r=>match r with
 | .o _=>none
 | .x v=>some v else none
section
variable {K:Frag} {C:Addr} {c n:Str} {E:XK} {t u:TS} {F G:FY}
theorem OutY.trans {Z O O1:AS} {H H1:Hp} {st st1:En} {σ σ1:L2.St} {Dn:Ends} {r:Oy} (h:OutY K E Z O H st σ Dn r) (x:Ext O H O1 H1) (k:Kq st σ st1 σ1):OutY K E Z O1 H1 st1 σ1 Dn r:=by
 cases r with
 | o o=>exact Out.trans (show Out K Z O H st σ Dn o from h) x k
 | x v=>exact fun H2 O2 x2=>h H2 O2 (x.trans x2)
theorem iA {F:FS} (h:nV K t F):tN K E t (tO F):=by
 intro st σ H O Z Dn E' r e q;refine b9 e fun o e1 e=>?_;cases e;exact h st σ H O Z Dn E' o e1 q
theorem fZ (h1:tN K E t F) (h2:tN K E u G):tN K E (DC t u) (iX F G):=by
 intro st σ H O Z Dn E' r e q;refine b9 e fun o1 e1 e=>?_;refine h1 st σ H O Z _ E' o1 e1 ?_;cases o1 with
 | x v=>cases e;exact q
 | o o =>
  cases o with
  | nx s=>exact fun σ1 H1 O1 x1 k1 E1=>h2 s σ1 H1 O1 Z Dn E1 r e (q.trans x1 k1)
  | bk s=>cases e;exact q
  | ct s=>cases e;exact q
  | rt r s=>cases e;exact q
theorem uw {tc:TT} {f:FT} (hc:qN K tc f) (h1:tN K E t F) (h2:tN K E u G):tN K E (DD tc t u) (Ck f F G):=by
 intro st σ H O Z Dn E' r e q;refine cZ e fun b st1 e1 e=>hc st σ H O Z _ E' b st1 e1 fun H1 O1 x1 k1 E1=>?_;cases b with
 | true=>exact h1 st1 σ H1 O1 Z Dn E1 r e (q.trans x1 k1.kq)
 | false=>exact h2 st1 σ H1 O1 Z Dn E1 r e (q.trans x1 k1.kq)
theorem kC (hC:nsIn K mainGlobals c=some (some (.ref C))):tN K E (LV C E) (kB c):=by
 intro st σ H O Z Dn E' r e q;cases e;intro a H' z;exact q H O (Ext.refl O H) C hC a H' z
theorem Rsd.back {v:V} {H H1 H':Hp} {e:Addr} (z:Rsd C n v H1 H' e) (x:Same H H1):Rsd C n v H H' e:=by
 have no:∀b,H1 b=none->H b=none:=fun b h=>by
  cases w:H b with
  | none=>rfl
  | some o=>rw[x b o w]at h;cases h
 obtain⟨dx,T,a1,a2,a3,a4,a5⟩:=z.obj;refine⟨no _ z.new,⟨dx,T,a1,no _ a2,a3,?_,a5⟩,fun b o w=>z.old b o (x b o w)⟩;rcases a4 with a4|⟨d,w1,w2,w3⟩
 ·exact .inl a4
 ·exact .inr ⟨d,w1,no _ w2,w3⟩
theorem Flies.back {H H1:Hp} {v:Rx} (h:Flies K E H v) (x:Same H H1):Flies K E H1 v:=fun C hC e H' z=>h C hC e H' (z.back x)
theorem Rsd.on {v:V} {H H':Hp} {e:Addr} (z:Rsd C n v H H' e):∃dx T,T≠e/\H' e=some (.ext (yφ C e dx T))/\H' T=some (.ext (tφ T .none))/\∀T',H' T'=none->Rsd C n v H (two H' C e dx T' .none) e:=by
 obtain⟨dx,T,a1,a2,a4,a5,a6⟩:=z.obj;refine⟨dx,T,a1,a4,a6,fun T' nT=>?_⟩;have n1:T'≠e:=fun w=>by rw[w,a4]at nT;cases nT
 have nT0:H T'=none:=by
  cases w':H T' with
  | none=>rfl
  | some o=>rw[z.old _ _ w']at nT;cases nT
 have old:∀b o,H b=some o->two H' C e dx T' .none b=some o:=fun b o w=>by
  have w1:b≠e:=fun w'=>by rw[w',z.new]at w;cases w
  have w2:b≠T':=fun w'=>by rw[w',nT0]at w;cases w
  unfold two;rw[ax w2,ax w1];exact z.old b o w
 refine⟨z.new,⟨dx,T',n1,nT0,?_,?_,?_⟩,old⟩
 ·unfold two;rw[ax (Am n1),aG]
 ·rcases a5 with a5|⟨d,w1,w2,w3⟩
  ·exact .inl a5
  ·refine .inr ⟨d,w1,w2,?_⟩;have n2:d≠T':=fun w=>by rw[w,nT]at w3;cases w3
   have n3:d≠e:=fun w=>by rw[w,a4]at w3;cases w3
   unfold two;rw[ax n2,ax n3];exact w3
 ·unfold two;rw[aG]
theorem jS {R:List D->Option Rx} {g:List D->Option Rz} {ta:TA} {fa:FA} {E':Hp->XK} (ha:oB K ta fa):d7 K (fun σ H Q=>ta σ H fun vs H1=>q8 K R g vs H1 Q (E' H1)) (dJ g fa):=by
 intro st σ H O Z Q E r0 st' h q;refine cZ h fun rs st1 e1 h=>cZ h fun ds st2 e2 h=>b9 h fun z e3 h=>?_;cases h;refine ha st σ H O Z _ E rs st1 e1 fun vs H1 O1 x1 k1 E1 rvs=>?_;obtain⟨O2,x2,k2,E2,el⟩:=rvs.esc E1 e2;refine .inl ⟨U O2 Z,ds,z,el,E2.liv,e3,fun v H3 s hres=>?_⟩;obtain⟨E3,rv3⟩:=hres.rv E2 s;exact q v H3 O2 ((x1.trans x2).trans (Same.ext s)) (k1.trans k2) E3 rv3 (hres.fsh.back (x1.trans x2))
theorem Mp {H:Hp} {v:Rx} (h:Flies K E H v):Flies K (fun u _ H2=>∃a C dx T,u=.ref a/\T≠a/\H2 a=some (.ext (yφ C a dx T))/\H2 T=some (.ext (tφ T .none))/\∀T',H2 T'=none->E (.ref a) none (two H2 C a dx T' .none)) H v:=fun C hC e H' z=>by
 obtain⟨dx,T,h1,h2,h3,h4⟩:=z.on;exact⟨e,C,dx,T,rfl,h1,h2,h3,fun T' nT=>h C hC e _ (h4 T' nT)⟩
theorem KC (h:tN K E t F):nV K t (y7 F):=by
 intro st σ H O Z Dn E' o e q;refine b9 e fun r e1 e=>?_;cases r with
 | o o'=>cases e;exact h st σ H O Z Dn E' _ e1 q
 | x v=>cases e
theorem Cl {N:List Str} {m:Nat} {vs:List V} {H:Hp} {Q:VK} (h:tN K E t F) (sp:q8 K (gK F N.length m) (cG (y7 F) N.length m) vs H Q E):t { nx:=fun _ H'=>Q .non H',rt:=Q } (L2.start N vs) H:=by
 rcases sp with sp|⟨Z,ds,x,el,lv,e,q⟩
 ·exact wS (KC h) sp
 ·have hm:ds.length=m:=by
   by_cases hm:ds.length=m
   ·exact hm
   ·simp only[gK,Ah hm]at e;cases e
  simp only[gK,Af hm]at e;refine b9 e fun r e1 e=>?_;cases r with
  | o o=>cases e
  | x v =>
   cases e;exact h _ _ H _ Z _ (ue el lv) _ e1 fun H1 O1 x1=>q.back fun b o w=>x1.kp b o w fun z=>z
end
section
variable {P:Program} {w:World} {K:Frag} {mg:Str->Option Value} {base h:Heap} {x c n:Str} {st:Stmt} {N ps:List Str} {k:Nat} {F:FY} {C:Addr}
abbrev Ir (P:Program) (w:World) (K:Frag) (mg:Str->Option Value) (base:Heap) (x:Str) (st:Stmt) (N:List Str) (k:Nat) (F:FY):Prop :=
 ∀{f:Addr} {cdv:Value} {A:Around} {outer:List Env} {s:Shared} {H:Hp} {E:XK},Room k (A.deeper (envOfC x (ar st) s.heap.objs.size f cdv))->∃t,PSs (dP (mW P w) P w K mg base N x (ar st) f cdv A outer s H E) (cO st) t/\tN K E t F
theorem KD {m a:Nat} {vs:List V} {H:Hp} {Q:VK} {E:XK} (sp:q8 K (gK F a m) (cG (y7 F) a m) vs H Q E):vs.length=m:=by
 rcases sp with sp|⟨Z,ds,x,el,_,e,_⟩
 ·exact DX sp
 ·by_cases hm:ds.length=m
  ·exact el.1.trans hm
  ·simp only[gK,Ah hm]at e;cases e
theorem q9 (h':FH K x st) (X:K.In h) (G:h.Ns mainGlobals mg) (S:FnScope N ps (ar st)) (hb:Bn x st ps) (hB:Ir P w K mg base x st N k F):CalG P w K mg base x (k+1) ps (q8 K (gK F N.length ps.length) (cG (y7 F) N.length ps.length)):=by
 obtain⟨f,fd,F',a⟩:=h'.ex;refine⟨f,fd,?_,PySem.W.mg_of X G a,F'.kp,F'.binds hb⟩;obtain⟨oc,od,kV,doc,pm,an,cdv,ct,osl,rfl,lk,hcd⟩:=F'.ex;refine zv lk hcd S (fun vs H Q E h=>KD h) fun A outer s H vs Q E hr hsp=>?_;obtain⟨t,h1,h2⟩:=hB hr;exact⟨_,h1,Cl h2 hsp⟩
theorem CalG.plain {R:List D->Option Rx} {g:List D->Option Rz} (h:CalG P w K mg base x k ps (q8 K R g)):Cal P w K mg base x k ps (oC K g):=by
 obtain⟨f,fd,F,a,b,d⟩:=h.ex;refine⟨f,fd,⟨fun vs H Q E h=>F.len vs H Q E (.inl h),fun A outer s H args us vs Q E hr he hb hv hs=>AA (F.run A outer s H args us vs Q (fun _ _ _=>False) hr he hb hv (.inl hs)) fun r s' z=>?_⟩,a,b,d⟩;cases r with
 | error e=>obtain⟨_,_,_,_,_,_,_,z⟩:=z;exact z.elim
 | ok fl=>cases fl<;>exact z
end
end VX
namespace VX
open PySem PySem.Spec PySem.W PyProof.Rows L2 VF
section
variable {X:Cx} {C T f:Addr} {id ii sa ow B:String} {mB:List Value}
theorem Cm {x:Str} {k k':Nat} {ps:List Str} {sp:Sp} {e:Expr} {es:List Expr} {t:TA} {p cp pos:Pos} (Cg:CalG X.prog X.w X.K X.mg X.base x k ps sp) (hr:Room k' X.A) (hg:Gl X x) (ha:PA X.nox (e::es) t)
  (hk:k<=k':=by decide) (hdb:(x == ("__debug__":Str))=false:=by decide) (he:starEach (e::es) X.env=(false,eval e X.env)::starEach es X.env:=by rfl) (hpl:(backTo cp (starEach es X.env)).any (·.1)=false:=by rfl)
  (hs:swapsWith (.Call (.Name x p) (e::es) [] cp) none pos.line X.env=pure false:=by rfl) :
  Mo X [.Expr (.Call (.Name x p) (e::es) [] cp) pos] fun Ex D σ H=>t σ H fun vs H1=>sp vs H1 (fun _ H2=>D.nx σ H2) fun u _ H2=>∃a,u=.ref a/\Ex a H2:=by
 intro pins s σ H D Ex I h;obtain⟨f,fd,F,hm,hkp,hb⟩:=Cg.ex;refine A9 (wpAny_Expr_any (Au (gj I hg hm ?_ hdb)) I.quiet hs);refine PySem.W.callWith_K (h₀:=X.base) I.ok.mod.kin hkp (Al (ha cp pins s σ H _ (I.wish _) h) (fun us s1 zz=>?_) fun _ _ z=>False.elim z) he hpl;obtain⟨vs,H1,I1,r,q⟩:=zz;refine⟨I1.unwish.kIn,Al (Cj F (hr.mono hk) hb I1.unwish r q) (fun u s2 zz=>?_) fun u s2 zz=>?_⟩
 ·obtain⟨v,H2,I2,rv,q2⟩:=zz;exact Aw ⟨_,H2,I2,q2⟩
 ·obtain⟨a,H2,rfl,I2,b,w,q2⟩:=zz;cases w;exact⟨a,H2,rfl,I2,q2⟩
theorem Es (i:Nat) {body bs:List Stmt} {b0:Stmt} {x n:Str} {cS:Addr} {p hp pos:Pos} {tb:(Addr->Hp->Prop)->TS} {th:Addr->TS} {Cs:Addr->Prop} (hx:∀C,Cs C->exmOne X.K (.ref C) (.ref cS)=some true) (hst:X.stack=X.env::X.outer) (hfr:X.env.frame=some X.env.locals)
  (hb:Mo X body tb) (hg:Gl X x) (hm:X.mg x=some (.ref cS)) (hN:X.N.Nodup) (hh:∀a,PSs (Ky X (.ref a)) (b0::bs) (th a)) (hi:X.N[i]?=some n:=by rfl) (hl:X.env.scope.names.lookup n=some .local:=by rfl) (hdb:(x == ("__debug__":Str))=false:=by decide) :
  PS X (.Try body [.ExceptHandler (some (.Name x p)) (some n) (b0::bs) hp] [] [] pos) (Kz Cs i tb th):=by
 intro pins s σ H D I h;refine wpAny_Try_except (Al (hb pins s σ H D _ I h) (fun f s1 q=>?_) fun v s1 z=>?_)
 ·cases f with
  | next=>exact Aw q
  | _=>exact q
 obtain⟨a,H',rfl,I1,C,dx,T,hCs,ne,ea,eT,q⟩:=z;have fr:=I1.ok.frames;have sk:=I1.stack;have sf:=I1.stkFree;rw[hst]at fr sk sf;refine Ch fr sk hfr ⟨(I1.hok a _ ea).1,ne,(I1.hok T _ eT).1⟩ (fun m=>by rw[sf T m]at eT;cases eT) fun h1 T' k1 z1 x1 old=>?_
 rw[← hst]at k1;have J1:=uv I1 k1 ⟨_,ea⟩ (.inr z1) (fun b m=>?_) x1
 ·have nT:H' T'=none:=I1.hok.fresh z1;have eA:∀fl,two H' C a dx T' fl a=some (.ext (yφ C a dx T')):=fun fl=>by unfold two;rw[ax (Am x1.ne),aG]
  refine land (S:={ s1 with heap:=h1 }) (fs:=g5 X.stack) x1 fun h2 k2 x2=>?_;have J2:=uv J1 k2 ⟨_,eA _⟩ (.inl ⟨_,aG⟩) (fun b m=>.inr (.inl (Za.mp m))) x2;rw[xj]at J2;refine wpAny_handleBy_cons (codeAny_handlers_test (gj (X:=Ky X (.ref a)) (Ci J2) hg hm ?_ hdb)) (by intro q;cases q)
  obtain⟨vs,sl,ee,_⟩:=x2.ex;refine(exm_one J2.kIn ((Looks.ld ee).andThen .now) (hx C hCs)).here (codeAny_handlers_suite_as ?_);refine land (S:={ s1 with heap:=h2 }) (fs:=g5 X.stack) x2 fun h3 k3 x3=>?_;have J3:=uv J2 k3 ⟨_,eA _⟩ (.inl ⟨_,aG⟩) (fun b m=>.inr (.inl (Za.mp m))) x3;rw[xj]at J3;refine oY (X:=Ky X (.ref a)) (v:=.ref a) (Ci J3) hN hi (.inl hl) rfl (fun s4 I4=>?_) (.inr hl);refine Al (hh a pins s4 _ _ _ I4 (q T' nT)) (fun f s5 z=>?_) fun _ _ z=>z.elim;cases f with
  | next =>
   obtain⟨σ',H2,I5,q5⟩:=z;exact gone (Ep I.ok I5) hN hi hl fun s6 I6=>⟨_,H2,I6,q5⟩
  | ret u=>obtain⟨_,_,_,_,_,z⟩:=z;exact z.elim
  | brk=>obtain⟨_,_,_,z⟩:=z;exact z.elim
  | cont=>obtain⟨_,_,_,z⟩:=z;exact z.elim
 ·rcases Zc.mp m with m|m
  ·rw[Za.mp m];exact .inr (.inr ⟨_,eT,old,let ⟨o,_,z,_⟩:=old;⟨o,z⟩⟩)
  ·exact .inl (Za.mp m)
theorem lF {u:Str} {c:Addr} {pos:Pos} (hg:Gl X u) (hm:X.mg u=some (.ref c)) (hd:(u == ("__debug__":Str))=false:=by decide):PE X (.Name u pos) (tC (.ref c)):=rF hg hm rfl hd
end
def xl (R:List D->Option Rx) (g:List D->Option Rz) (fa:FA) (i:Nat) (cs:List Str) (Fh:FS):FS:=fun st=>(fa st).bind fun x=>(cq x.1 x.2).bind fun y=>match R y.1 with
 | some v=>match y.2[i]? with
  | some .e=>if v.1∈cs then(Fh (y.2.set i (.v (.xc v.1 v.2.1 v.2.2)))).bind fun o=>match o with
   | .nx s'=>match s'[i]? with
    | some (.v _)=>some (.nx (s'.set i .e))
    | _=>none
   | _=>none else none
  | _=>none
 | none=>fz (dJ g fa) st
section
variable {K:Frag} {C:Addr} {c n:Str} {R:List D->Option Rx} {g:List D->Option Rz} {ta:TA} {fa:FA} {i j:Nat}
theorem Cn {st:En} {σ:L2.St} {H:Hp} {O Z:AS} {v:Option V} {d:D} (E:ER K st σ H O Z) (e:st[i]?=some (.v d)):ER K (st.set i .e) (σ.set i v) H O Z:=by
 have li:=(Xd.mp e).1;have ne:∀(k:Nat) (s:Sl),(st.set i .e)[k]?=some s->s≠Sl.e->st[k]?=some s/\(σ.set i v)[k]?=σ[k]?:=fun k s h hs=>by
  by_cases z:i=k
  ·subst z;rw[Wm li]at h;cases h;exact(hs rfl).elim
  ·rw[Yl z]at h;exact⟨h,Yl z⟩
 have no:∀(s:Sl) d,s.ow=some d->s≠Sl.e:=fun s d h w=>by rw[w]at h;cases h
 refine⟨by simpa using E.len,fun k d h=>?_,fun k s d h o=>?_,fun k l s t d d' p h1 o1 h2 o2 z1 z2=>?_,E.dis,E.liv⟩
 ·obtain⟨h1,h2⟩:=ne k _ h nofun;rw[h2];exact E.val k d h1
 ·obtain⟨h1,h2⟩:=ne k s h (no s d o);rw[h2];exact E.own k s d h1 o
 ·obtain⟨a1,a2⟩:=ne k s h1 (no s d o1);obtain⟨b1,b2⟩:=ne l t h2 (no t d' o2);rw[a2]at z1;rw[b2]at z2;exact E.uni k l s t d d' p a1 o1 b1 o2 z1 z2
theorem Rsd.da {Y:AS} {H H':Hp} {e:Addr} {x:Option Str} (z:Rsd C n (oV x) H H' e) (hC:nsIn K mainGlobals c=some (some (.ref C))) (dead:∀b,H b=none->¬ Y b):DA K Y H' (.ref e) (.xc c n x):=by
 obtain⟨dx,T,a1,a2,a3,a4,a5⟩:=z.obj;refine .xc ⟨C,dx,T,hC,a1,⟨dead _ z.new,dead _ a2⟩,a3,?_,a5⟩;rcases a4 with a4|⟨d,w1,w2,w3⟩
 ·exact .inl a4
 ·exact .inr ⟨d,w1,dead _ w2,w3⟩
theorem Et {cs:List Str} {Cs:Addr->Prop} {th:TS} {Fh:FS} (ha:oB K ta fa) (hh:nV K th Fh) (hcs:∀c∈cs,∀C,nsIn K mainGlobals c=some (some (.ref C))->Cs C) :
  nV K (Kz Cs i (fun Ex D σ H=>ta σ H fun vs H1=>q8 K R g vs H1 (fun _ H2=>D.nx σ H2) fun u _ H2=>∃a,u=.ref a/\Ex a H2) fun _=>th) (xl R g fa i cs Fh):=by
 intro st σ H O Z D E o e q;refine cZ e fun rs st1 e1 e=>cZ e fun ds st2 e2 e=>?_;dsimp only at e;cases w:R ds with
 | none =>
  rw[w]at e;exact du (jS (R:=R) ha) st σ H O Z D E o e q
 | some v =>
  rw[w]at e;dsimp only at e;refine ha st σ H O Z _ E rs st1 e1 fun vs H1 O1 x1 k1 E1 rvs=>?_;obtain⟨O2,x2,k2,E2,el⟩:=rvs.esc E1 e2;refine .inr ⟨U O2 Z,ds,v,el,E2.liv,w,fun C hC a H' z=>⟨a,rfl,?_⟩⟩;obtain⟨dx,T,ne,ea,eT,on⟩:=z.on;split at e
  ·rename_i ei
   obtain⟨hc,e⟩:=bo e;refine⟨C,dx,T,hcs _ hc C hC,ne,ea,eT,fun T' nT=>?_⟩;refine b9 e fun o1 e3 e=>?_;have z2:=on T' nT;have sm2:Same H1 (two H' C a dx T' .none):=z2.old;have da:=z2.da hC fun b hb m=>(E2.liv b m).1 hb;have E3:=(E2.same sm2).asg (d:=.xc v.1 v.2.1 v.2.2) (v:=.ref a) ei da;cases o1 with
   | nx s' =>
    dsimp only at e;split at e
    ·rename_i d ed
     cases e;refine hh _ _ _ _ Z _ E3 _ e3 fun σ5 H5 O5 x5 k5 E5=>?_;exact q _ _ O5 (((x1.trans x2).trans (Same.ext sm2)).trans x5) ((((k1.trans k2).kq.trans (m7 ei rfl)).trans k5).trans (m7 ed rfl)) (Cn E5 ed)
    ·cases e
   | _=>cases e
  ·cases e
def qt (tab:List (Str×Bool)) (fe:FE):FE:=fun st=>(fe st).bind fun x=>match cont x.2 x.1 with
 | some (.xc c' _ _)=>(tab.lookup c').bind fun b=>some (.d (.bl b),x.2)
 | _=>none
theorem Co {Y:AS} {H:Hp} {dx:Option Addr} {v:V} (h:Fd Y H dx n v):Dx H dx:=by
 rcases h with h|⟨d,h1,_,h2⟩
 ·exact .inl h.2
 ·exact .inr ⟨d,_,h1,h2⟩
theorem Iu {te:TE} {fe:FE} {tab:List (Str×Bool)} {cv:Addr} {r:List V->Hp->VK->Prop} (hr:∀c b,tab.lookup c=some b->∀C,nsIn K mainGlobals c=some (some (.ref C))->kitOne K (.ref C) (.ref cv)=some b/\∀vs H Q,pA K C vs H Q->r vs H Q) (h:d7 K te fe):d7 K (Ds r (br te (br (tC (.ref cv)) eG))) (qt tab fe):=by
 intro st σ H O Z Q E r st' e q;refine cZ e fun r1 st1 e1 e=>h st σ H O Z _ E r1 st1 e1 fun v H1 O1 x1 k1 E1 rv fs=>?_;dsimp only at e;split at e
 ·rename_i c' n' y' e2
  refine b9 e fun b e3 e=>?_;cases e;obtain⟨a,rfl,C',dx,T,h1,h2,h3,h4,h5,h6⟩:=rv.ba E1 e2;obtain⟨hk,hv⟩:=hr _ _ e3 C' h1;exact hv _ _ _ ⟨a,dx,T,b,cv,rfl,h4,Co h5,.inl hk,q _ H1 O1 x1 k1 E1 (.bl b) trivial⟩
 ·cases e
end
end VX
namespace VX
open PySem PySem.Spec PySem.W PyProof.Rows L2 VF
def Jt (sp:Sp) (ta:TA) (E:XK):TE:=fun σ H Q=>ta σ H fun vs H1=>sp vs H1 Q fun u _ H2=>∃a C dx T,u=.ref a/\T≠a/\H2 a=some (.ext (yφ C a dx T))/\H2 T=some (.ext (tφ T .none))/\∀T',H2 T'=none->E (.ref a) none (two H2 C a dx T' .none)
section
variable {P:Program} {w:World} {K:Frag} {mg:Str->Option Value} {base:Heap} {N:List Str} {qual:Str} {scope:Scope} {f:Addr} {cd:Value} {A:Around} {outer:List Env} {s0 s:Shared} {H0 H:Hp} {E:XK} {pins:List (Addr×Obj)} {σ:L2.St} {C e T:Addr} {dx:Option Addr}
theorem iY {x:Str} {k k':Nat} {ps:List Str} {sp:Sp} {e0:Expr} {es:List Expr} {t:TA} {p cp:Pos} (Cg:CalG P w K mg base x k ps sp) (hr:Room k' (A.deeper (envOfC qual scope s0.heap.objs.size f cd))) (hg:Gl (dP (mW P w) P w K mg base N qual scope f cd A outer s0 H0 E) x) (ha:PA (dP (mW P w) P w K mg base N qual scope f cd A outer s0 H0 E) (e0::es) t)
  (hk:k<=k':=by decide) (hdb:(x == ("__debug__":Str))=false:=by decide) (he:starEach (e0::es) (dP (mW P w) P w K mg base N qual scope f cd A outer s0 H0 E).env=(false,eval e0 (dP (mW P w) P w K mg base N qual scope f cd A outer s0 H0 E).env)::starEach es (dP (mW P w) P w K mg base N qual scope f cd A outer s0 H0 E).env:=by rfl) (hpl:(backTo cp (starEach es (dP (mW P w) P w K mg base N qual scope f cd A outer s0 H0 E).env)).any (·.1)=false:=by rfl) :
  PE (dP (mW P w) P w K mg base N qual scope f cd A outer s0 H0 E) (.Call (.Name x p) (e0::es) [] cp) (Jt sp t E):=by
 intro pins s σ H Q I h;obtain⟨f',fd,F,hm,hkp,hb⟩:=Cg.ex;refine Au (gj I hg hm ?_ hdb);refine PySem.W.callWith_K (h₀:=base) I.ok.mod.kin hkp (dI (ha cp pins s σ H _ I h) fun us s1 zz=>?_) he hpl;obtain⟨vs,H1,I1,r,q⟩:=zz;refine⟨I1.kIn,Al (Cj F (hr.mono hk) hb I1 r q) (fun u s2 zz=>zz) fun u s2 zz=>?_⟩;obtain⟨a,H2,rfl,I2,b,C',dx',T',w',ne,ea,eT,q2⟩:=zz;cases w';exact Er I2 ea eT ne q2
end
def LG (k:Ends->L2.St->VK) (te:TE):TS:=fun D σ H=>te σ H (k D σ)
def iB (R:List D->Option Rx) (g:List D->Option Rz) (fa:FA) (k:FE->FS):FY:=fun st=>(fa st).bind fun x=>(cq x.1 x.2).bind fun y=>match R y.1 with
 | some v=>some (.x v)
 | none=>(k (dJ g fa) st).bind fun o=>some (.o o)
section
variable {K:Frag} {C:Addr} {c n:Str} {E:XK} {R:List D->Option Rx} {g:List D->Option Rz} {ta:TA} {fa:FA}
theorem xn {k:Ends->L2.St->VK} {kF:FE->FS} (ha:oB K ta fa) (hk:∀te fe,d7 K te fe->nV K (LG k te) (kF fe)):tN K E (LG k (Jt (q8 K R g) ta E)) (iB R g fa kF):=by
 intro st σ H O Z D E' r h q;refine cZ h fun rs st1 e1 h=>cZ h fun ds st2 e2 h=>?_;dsimp only at h;cases w:R ds with
 | some v =>
  rw[w]at h;cases h;refine ha st σ H O Z _ E' rs st1 e1 fun vs H1 O1 x1 k1 E1 rvs=>?_;obtain⟨O2,x2,k2,E2,el⟩:=rvs.esc E1 e2;exact .inr ⟨U O2 Z,ds,v,el,E2.liv,w,Mp (q H1 O2 (x1.trans x2))⟩
 | none =>
  rw[w]at h;refine b9 h fun o e3 h=>?_;cases h;exact hk _ _ (jS (R:=R) ha) st σ H O Z D E' o e3 q
theorem sF {i:Nat} (ha:oB K ta fa):tN K E (rH (Jt (q8 K R g) ta E) (jr i)) (iB R g fa fun fe=>bn fe i):=xn (k:=fun D σ x H1=>jr i x σ H1 D.nx) ha fun _ _ h=>aN h
theorem xp (ha:oB K ta fa):tN K E (GY (Jt (q8 K R g) ta E)) (iB R g fa bR):=xn (k:=fun D _=>D.rt) ha fun _ _ h=>bb h
end
end VX
namespace VX
open PySem PySem.Spec PySem.W PyProof.Rows L2 VF
abbrev xN:String:="ValueError.__new__"
theorem gS {X:Cx} {st:Stmt} {t:TS} (h:PS X.nox st t):PS X st t:=fun pins s σ H D I hw=>Al (h pins s σ H D (I.wish _) hw) (fun _ _ q=>q.unwish) fun _ _ z=>False.elim z
theorem KF:mVE.contains (.type "BaseException")=true:=by decide
end VX
namespace VX
open PySem PySem.Spec PySem.W PyProof.Rows L2 VF
def tψ (T:Addr):Heap->Prop:=fun h=>∃o ts v,h.get? T=some o/\o.data=.fields ts/\ts[3]?=some v
theorem Gw {T:Addr}:∀h1 h2:Heap,tψ T h1->(∀o,h1.get? T=some o->h2.get? T=some o)->tψ T h2:=fun _ _ ⟨o,ts,v,z,w⟩ k=>⟨o,ts,v,k _ z,w⟩
theorem Gx {T:Addr} {fl:Value}:∀h1 h2:Heap,tφ T fl h1->(∀o,h1.get? T=some o->h2.get? T=some o)->tφ T fl h2:=fun _ _ ⟨o,ts,z,w⟩ k=>⟨o,ts,k _ z,w⟩
abbrev fV (H:Hp) (C e:Addr) (dx:Option Addr) (T:Addr) (φT:Heap->Prop):Hp:=upd (upd H e (.ext (yφ C e dx T))) T (.ext φT)
section
variable {X:Cx} {pins:List (Addr×Obj)} {σ:L2.St} {H:Hp} {s:Shared} {h':Heap} {ch:List Addr} {C e T:Addr} {dx:Option Addr} {fl:Value}
theorem sG {φT:Heap->Prop} (I:L2.Inv X pins σ H s) (k:Kn (g5 X.stack) ch s.heap h') (he:∃φ,H e=some (.ext φ)) (hT:(∃φ,H T=some (.ext φ))∨s.heap.objs.size<=T)
  (hc:∀b∈ch,b=e∨b=T∨∃φ,H b=some (.ext φ)/\φ h'/\∃o,h'.get? b=some o) (ex:yφ C e dx T h') (ne:T≠e) (tb:φT h') (tt:∃o,h'.get? T=some o) (stab:∀h1 h2:Heap,φT h1->(∀o,h1.get? T=some o->h2.get? T=some o)->φT h2):L2.Inv X pins σ (fV H C e dx T φT) { s with heap:=h' }:=by
 obtain⟨φe,he⟩:=he;have hT':(∃φ,H T=some (.ext φ))∨(H T=none/\s.heap.get? T=none):=hT.imp id fun z=>⟨I.hok.fresh z,Br z⟩;have nT:∀b o,H b=some o->(∀φ,o≠.ext φ)->b≠T:=fun b o z n w=>by
  rw[w]at z;rcases hT' with⟨φ,q⟩|⟨q,_⟩
  ·rw[q]at z;cases z;exact n φ rfl
  ·rw[q]at z;cases z
 have nE:∀b o,H b=some o->(∀φ,o≠.ext φ)->b≠e:=fun b o z n w=>by
  rw[w,he]at z;cases z;exact n φe rfl
 have same:∀b o,H b=some o->(∀φ,o≠.ext φ)->fV H C e dx T φT b=some o:=fun b o z n=>by
  unfold fV;rw[ax (nT b o z n),ax (nE b o z n)];exact z
 have out:∀b,H b=none->b∈ch->∀o,s.heap.get? b≠some o:=fun b n m o z=>by
  rcases hc b m with w|w|⟨φ,w,_⟩
  ·rw[w,he]at n;cases n
  ·rw[w]at n z;rcases hT' with⟨φ,q⟩|⟨_,q⟩
   ·rw[q]at n;cases n
   ·rw[q]at z;cases z
  ·rw[w]at n;cases n
 have oc:∀c o,H c=some o->(∀φ,o≠.ext φ)->c∉ch:=fun c o z n m=>by
  rcases hc c m with w|w|⟨φ,w,_⟩
  ·exact nE c o z n w
  ·exact nT c o z n w
  ·rw[w]at z;cases z;exact n φ rfl
 refine I.call (ch:=[]) (g':=s.gens) (d':=s.drawn) (t':=s.toks) ⟨fun b o z n nf _=>k.keep b o nf (fun m=>out b n m o z) z,fun b o z n nf _=>k.slot b o nf (fun m=>out b n m o z) z,fun b o z n _=>?_,fun b o z _=>?_,fun b xs z=>same b _ z nofun,fun b o u z=>same b _ z nofun,fun b ps z=>⟨#[],by rw[Array.append_empty];exact same b _ z nofun⟩⟩ (fun b o z=>?_) I.bare nofun
 ·unfold fV;rw[ax,ax]
  ·exact n
  ·intro w;rw[w,he]at n;cases n
  ·intro w;rw[w]at n z;rcases hT' with⟨φ,q⟩|⟨_,q⟩
   ·rw[q]at n;cases n
   ·rw[q]at z;cases z
 ·by_cases m:b∈ch
  ·rcases hc b m with w|w|⟨φ,_,_,w⟩
   ·rw[w];obtain⟨_,_,q,_⟩:=ex;exact⟨_,q⟩
   ·rw[w];exact tt
   ·exact w
  ·by_cases f:b∈g5 X.stack
   ·obtain⟨_,q⟩:=k.slot b o f m z;exact⟨_,q⟩
   ·exact⟨_,k.keep b o f m z⟩
 ·unfold fV at z;by_cases w:b=T
  ·subst w;rw[aG]at z;cases z;exact⟨tb,tt,stab⟩
  ·rw[ax w]at z;by_cases v:b=e
   ·subst v;rw[aG]at z;cases z;exact Gu ex
   ·rw[ax v]at z;have nf:∀c u,H c=some u->c∉g5 X.stack:=fun c u q m=>by rw[I.stkFree c m]at q;cases q
    by_cases m:b∈ch
    ·rcases hc b m with q|q|⟨φ,q,f,th⟩
     ·exact absurd q v
     ·exact absurd q w
     ·rw[q]at z;cases z;exact⟨f,th,(show ObjOk X.prog X.w H s.heap b (.ext φ) from I.hok b _ q).2.2⟩
    ·refine(I.hok b o z).stay (fun c u hc' q=>?_) (fun c q=>same c _ q nofun) fun c ys q=>same c _ q nofun;rcases hc' with rfl|hc'
     ·exact k.keep c u (nf c o z) m q
     ·exact k.keep c u (nf c _ hc') (oc c _ hc' nofun) q
end
section
variable {M:Model} {A:Around} {X:Value->Shared->Prop} {S:Shared} {base:Heap} {en:Env} {outer:List Env} {L e C T:Addr} {dx:Option Addr}
theorem KG {Q:Unit->Shared->Prop} (hf:en.frame=some L) (x:X1 S.heap e C dx T (rawInt L)) (q:Q () S):wpAny M A (noteFrame (.ref e) en) Q X S:=by
 obtain⟨⟨vs,sl,e1,v1⟩,ne,o,ts,t1,t2,t3⟩:=x;unfold noteFrame;rw[hf];refine Aa (As e1 rfl v1 ?_);rw[Af (show(Value.ref T != Value.none)=true by simp)]
 refine Aa (As t1 t2 t3 ?_);rw[Af (show(rawInt L == rawInt L)=true by simp)]
 exact Ai q
theorem Iv {fl:Value} (hfl:(fl == rawInt L)=false) {Q:Unit->Shared->Prop} (fr:A.frames=some (en::outer)) (ff:S.heap.FunFrames base (en::outer)) (hf:en.frame=some L) (x:X1 S.heap e C dx T fl) (hT:T∉g5 (en::outer))
  (q:∀H T',Kn (g5 (en::outer)) ([T]++[e]) S.heap H->S.heap.objs.size<=T'->X1 H e C dx T' (rawInt L)->(∃o ts,H.get? T=some o/\o.data=.fields ts/\ts[3]?=some .none)->Q () { S with heap:=H }):wpAny M A (noteFrame (.ref e) en) Q X S:=by
 obtain⟨⟨vs,sl,e1,v1⟩,ne,o,ts,t1,t2,t3⟩:=x;unfold noteFrame;rw[hf];refine Aa (As e1 rfl v1 ?_);rw[Af (show(Value.ref T != Value.none)=true by simp)]
 refine Aa (As t1 t2 t3 ?_);rw[Ah (show ¬ (fl == rawInt L)=true by rw[hfl];decide)]
 refine Aa (AZ t1 t2 (Zf.mp t3).1 ?_);have ot:∀b,b≠T->(S.heap.update T (Obj.mapFields (·.setIfInBounds 3 Value.none))).get? b=S.heap.get? b:=fun b n=>Aj _ _ (Am n);have k1:Kn (g5 (en::outer)) [T] S.heap (S.heap.update T (Obj.mapFields (·.setIfInBounds 3 Value.none))):=⟨fun b o _ n z=>(ot b fun w=>n (w ▸ .head _)).trans z,fun b o _ n z=>⟨o.slots,(ot b fun w=>n (w ▸ .head _)).trans z⟩,by rw[AN];exact Wb _⟩
 have td:=A0 t2 (·.setIfInBounds 3 Value.none);refine entry_at (S:={ S with heap:=S.heap.update T (Obj.mapFields (·.setIfInBounds 3 Value.none)) }) fr (ff.of_keeps fun b o z nn=>⟨o,(ot b fun w=>?_).trans z,rfl⟩) hf ((ot e (Am ne)).trans e1) (Zf.mp v1).1 fun H T' k z x=>q H T' (k1.trans k) (Yc k1.size z) x ⟨_,_,k.keep T _ hT (fun m=>ne (Za.mp m)) (Ar _ t1 (AG td)),td,by simp[(Zf.mp t3).1]⟩
 rw[w,t1]at z;cases z;exact nn ts t2
theorem Mx {fl:Value} {F:Option Addr} {Q:Unit->Shared->Prop} {fs:List Addr} (x:X1 S.heap e C dx T fl) (q:∀H fl',Kn fs [T] S.heap H->X1 H e C dx T fl'->Q () { S with heap:=H }):wpAny M A (setFlight (.ref e) F) Q X S:=by
 obtain⟨⟨vs,sl,e1,v1⟩,ne,o,ts,t1,t2,t3⟩:=x;unfold setFlight;refine Aa (As e1 rfl v1 ?_);rw[Af (show(Value.ref T != Value.none)=true by simp)]
 have v3:=(Zf.mp t3).1;refine AZ t1 t2 v3 (q _ (F.elim Value.none fun f=>rawInt f) ⟨fun b o n1 n2 z=>?_,fun b o n1 n2 z=>⟨o.slots,?_⟩,?_⟩ ⟨⟨vs,sl,?_,v1⟩,ne,?_⟩)
 ·exact(Aj _ _ fun w:T=b=>n2 (w ▸ .head _)).trans z
 ·exact(Aj _ _ fun w:T=b=>n2 (w ▸ .head _)).trans z
 ·rw[AN];exact Wb _
 ·exact(Aj _ _ ne).trans e1
 ·have d:=A0 t2 (·.setIfInBounds 3 (F.elim Value.none fun f=>rawInt f));exact⟨_,_,Ar _ t1 (AG d),d,by simp[v3]⟩
end
def Iw (C a:Addr) (dx:Option Addr) (H H':Hp):Prop:=∃T,T≠a/\H T=none/\H' a=some (.ext (yφ C a dx T))/\H' T=some (.ext (tφ T .none))/\∀b o,b≠a->H b=some o->H' b=some o
end VX
namespace VX
open PySem PySem.Spec PySem.W PyProof.Rows L2 VF
section
variable {M:Model} {A:Around} {X:Value->Shared->Prop} {S:Shared} {base:Heap} {en:Env} {outer:List Env} {L e C T:Addr} {dx:Option Addr}
theorem Ix {v:Value} {Q:Unit->Shared->Prop} (fr:A.frames=some (en::outer)) (ff:S.heap.FunFrames base (en::outer)) (hf:en.frame=some L) (x:X1 S.heap e C dx T v) (hT:T∉g5 (en::outer))
  (qA:∀H,Kn (g5 (en::outer)) [T] S.heap H->X1 H e C dx T .none->Q () { S with heap:=H })
  (qB:∀H T',Kn (g5 (en::outer)) ([T]++[e]) S.heap H->S.heap.objs.size<=T'->X1 H e C dx T' .none->(∃o ts,H.get? T=some o/\o.data=.fields ts/\ts[3]?=some .none)->Q () { S with heap:=H }):wpAny M A (leaving en (.ref e)) Q X S:=by
 unfold leaving;cases hv:(v == rawInt L) with
 | true =>
  obtain rfl:v=rawInt L:=by simpa using hv
  exact Aa (KG hf x (land (fs:=g5 (en::outer)) x qA))
 | false =>
  refine Aa (Iv hv fr ff hf x hT fun H T' k z x' old=>?_);obtain⟨o,ts,t1,t2,t3⟩:=x.tb;have lT:=Ad t1;have nT:T≠T':=Vf (Vb lT z);refine land (S:={ S with heap:=H }) (fs:=g5 (en::outer)) x' fun H2 k2 x2=>qB H2 T' ⟨fun b o n1 n2 w=>?_,fun b o n1 n2 w=>?_,Yc k.size k2.size⟩ z x2 ?_
  ·refine k2.keep b o n1 (fun m=>?_) (k.keep b o n1 n2 w);rw[Za.mp m]at w;exact absurd (Ad w) (Vl z)
  ·obtain⟨sl',w1⟩:=k.slot b o n1 n2 w;refine k2.slot b { o with slots:=sl' } n1 (fun m=>?_) w1;rw[Za.mp m]at w;exact absurd (Ad w) (Vl z)
  ·obtain⟨o',ts',w1,w2,w3⟩:=old;exact⟨o',ts',k2.keep T o' hT (fun m=>nT (Za.mp m)) w1,w2,w3⟩
end
section
variable {P:Program} {w:World} {K:Frag} {mg:Str->Option Value} {base:Heap} {N:List Str} {qual:Str} {scope:Scope} {f:Addr} {cd:Value} {A:Around} {outer:List Env} {s0 s:Shared} {H0 H:Hp} {E:XK} {pins:List (Addr×Obj)} {σ:L2.St} {C e T:Addr} {dx:Option Addr}
theorem Eu (I:L2.Inv (dP (mW P w) P w K mg base N qual scope f cd A outer s0 H0 E) pins σ (fV H C e dx T (tψ T)) s) (nT:H T=none) (ne:T≠e) (q:∀H',Iw C e dx H H'->E (.ref e) none H') :
  (dP (mW P w) P w K mg base N qual scope f cd A outer s0 H0 E).xe (.ref e) s:=by
 have ea:fV H C e dx T (tψ T) e=some (.ext (yφ C e dx T)):=by unfold fV;rw[ax (Am ne),aG]
 have eT:fV H C e dx T (tψ T) T=some (.ext (tψ T)):=by unfold fV;rw[aG]
 obtain⟨o,ts,v,t1,t2,t3⟩:=(I.hok T _ eT).1;refine Ix (v:=v) I.ok.frames I.stack rfl ⟨(I.hok e _ ea).1,ne,o,ts,t1,t2,t3⟩ (fun m=>by rw[I.stkFree T m]at eT;cases eT) (fun h' k x=>?_) fun h' T' k z x old=>?_
 ·have J:=sG I k ⟨_,ea⟩ (.inl ⟨_,eT⟩) (fun b m=>.inr (.inl (Za.mp m))) x.ex x.ne x.tb (let ⟨o,_,z,_⟩:=x.tb;⟨o,z⟩) Gx;refine⟨e,_,rfl,J.os,J.bare,J.base,J.hok,q _ ⟨T,ne,nT,?_,?_,fun b o n1 z=>?_⟩⟩
  ·unfold fV;rw[ax (Am ne),aG]
  ·unfold fV;rw[aG]
  ·have n2:b≠T:=fun w=>by rw[w,nT]at z;cases z
   unfold fV;rw[ax n2,ax n1,ax n2,ax n1];exact z
 ·have J:=sG I k ⟨_,ea⟩ (.inr z) (fun b m=>?_) x.ex x.ne x.tb (let ⟨o,_,z,_⟩:=x.tb;⟨o,z⟩) Gx
  ·have nT':fV H C e dx T (tψ T) T'=none:=I.hok.fresh z;have m1:T'≠T:=fun w=>by rw[w,eT]at nT';cases nT'
   have m2:T'≠e:=fun w=>by rw[w,ea]at nT';cases nT'
   have nH:H T'=none:=by unfold fV at nT';rw[ax m1,ax m2]at nT';exact nT'
   refine⟨e,_,rfl,J.os,J.bare,J.base,J.hok,q _ ⟨T',m2,nH,?_,?_,fun b o n1 z=>?_⟩⟩
   ·unfold fV;rw[ax (Am m2),aG]
   ·unfold fV;rw[aG]
   ·have n2:b≠T:=fun w=>by rw[w,nT]at z;cases z
    have n3:b≠T':=fun w=>by rw[w,nH]at z;cases z
    unfold fV;rw[ax n3,ax n1,ax n2,ax n1];exact z
  ·rcases Zc.mp m with m|m
   ·rw[Za.mp m];obtain⟨o',ts',w1,w2,w3⟩:=old;exact .inr (.inr ⟨_,eT,⟨o',ts',_,w1,w2,w3⟩,⟨o',w1⟩⟩)
   ·exact .inl (Za.mp m)
end
def LX (X:Cx) (e:Expr) (t:(Addr->Hp->Prop)->TE):Prop:=∀(pins:List (Addr×Obj)) (s:Shared) (σ:L2.St) (H:Hp) (Q:VK) (Ex:Addr->Hp->Prop),L2.Inv X pins σ H s->t Ex σ H Q ->
 wpAny (model X.prog X.w) X.A (eval e X.env) (EP X pins σ Q) (fun u s'=>∃a H',u=.ref a/\L2.Inv X pins σ H' s'/\Ex a H') s
theorem Cp {X:Cx} {x:Str} {k k':Nat} {ps:List Str} {sp:Sp} {e:Expr} {es:List Expr} {t:TA} {p cp:Pos} (Cg:CalG X.prog X.w X.K X.mg X.base x k ps sp) (hr:Room k' X.A) (hg:Gl X x) (ha:PA X.nox (e::es) t)
  (hk:k<=k':=by decide) (hdb:(x == ("__debug__":Str))=false:=by decide) (he:starEach (e::es) X.env=(false,eval e X.env)::starEach es X.env:=by rfl) (hpl:(backTo cp (starEach es X.env)).any (·.1)=false:=by rfl) :
  LX X (.Call (.Name x p) (e::es) [] cp) fun Ex σ H Q=>t σ H fun vs H1=>sp vs H1 Q fun u _ H2=>∃a,u=.ref a/\Ex a H2:=by
 intro pins s σ H Q Ex I h;obtain⟨f,fd,F,hm,hkp,hb⟩:=Cg.ex;refine Au (gj I hg hm ?_ hdb);refine PySem.W.callWith_K (h₀:=X.base) I.ok.mod.kin hkp (Al (ha cp pins s σ H _ (I.wish _) h) (fun us s1 zz=>?_) fun _ _ z=>False.elim z) he hpl;obtain⟨vs,H1,I1,r,q⟩:=zz;refine⟨I1.unwish.kIn,Al (Cj F (hr.mono hk) hb I1.unwish r q) (fun u s2 zz=>zz) fun u s2 zz=>?_⟩;obtain⟨a,H2,rfl,I2,b,w,q2⟩:=zz;cases w;exact⟨a,H2,rfl,I2,q2⟩
end VX
namespace VX
open PySem PySem.Spec PySem.W PyProof.Rows L2 VF
def yI (EE:Addr->Hp->Prop):Addr->Hp->Prop:=fun a H=>∃C dx T,T≠a/\H a=some (.ext (yφ C a dx T))/\H T=some (.ext (tφ T .none))/\∀H',Iw C a dx H H'->EE a H'
theorem yJ {H:Hp} {C e T:Addr} {dx:Option Addr} {φ ψ:Heap->Prop}:fV (fV H C e dx T φ) C e dx T ψ=fV H C e dx T ψ:=by
 funext x
 unfold fV;by_cases h:x=T
 ·rw[h,aG,aG]
 ·rw[ax h,ax h];by_cases g:x=e
  ·rw[g,aG,aG]
  ·rw[ax g,ax h,ax g]
theorem vR {prog:Program} {w:World} {A:Around} {R:Result->Shared->Prop} {s:Shared} {elt target iter:Expr} {ifs:List Expr} {scope:Scope} {pos:Pos} {it acc:Value} {env:Env} (I:Nat->Shared->Prop)
  (turn:∀n s,I n s->wpAny (model prog w) A (pyNext it) (fun r s₁=>match r with
   | none=>R (.ok .next) s₁
   | some v=>wpAny (model prog w) A (letOwnedTupleGo target it v) (fun _ s₀=>wpAny (model prog w) A (assign target env v) (fun _ s₂ =>
     wpAny (model prog w) A (forIn ifs true fun c r=>if r=true then do let ok ← isTrue c env (eval c env);pure (ForInStep.yield ok) else pure (ForInStep.yield r)) (fun ok s₃ =>
      if ok=true then wpAny (model prog w) A (eval elt env) (fun x s₄ =>
       wpAny (model prog w) A (call (.builtin "list.append") [acc,x]) (fun _ s₅=>∃m,m<n/\I m s₅) (fun _ _=>False) s₄) (notedBy (model prog w) A env fun x s'=>R (.error x) s') s₃
      else ∃m,m<n/\I m s₃) (fun _ _=>False) s₂) (fun _ _=>False) s₀) (fun _ _=>False) s₁) (fun _ _=>False) s)
  (n:Nat) (h:I n s) :
  codeAny (model prog w) A (.compLoop (.ListComp elt [⟨target,iter,ifs,0⟩] scope pos) 0 it acc env) R s:=by
 refine codeAny_loop rfl I (fun n s hI=>?_) n h;show wpAny _ A ((compTurn (.ListComp elt [⟨target,iter,ifs,0⟩] scope pos) 0 it acc env).onRaise (fun x=>do noteFrame x env;theTreesLotGoes x)) _ _ s
 refine wpAny_noted ?_;rw[compTurn_list];refine Aa (AO (Aa (Al (turn n s hI) (fun r s₁ h₁=>?_) fun _ _ h'=>False.elim h')));cases r with
 | none=>exact Ai h₁
 | some v =>
  refine Aa (Al h₁ (fun _ s₀ h₀=>?_) fun _ _ h'=>False.elim h');refine Aa (Al h₀ (fun _ s₂ h₂=>Aa (Al h₂ (fun ok s₃ h₃=>?_) fun _ _ h'=>False.elim h')) fun _ _ h'=>False.elim h');cases ok with
  | false=>exact Ai ⟨rfl,h₃⟩
  | true =>
   exact Aa (Aa (Al h₃ (fun x s₄ h₄=>Aa (Al h₄ (fun _ s₅ h₅=>Ai (Ai ⟨rfl,h₅⟩)) fun _ _ h'=>False.elim h')) fun _ _ h'=>h'))
theorem vS {X:Cx} {elt iter tg:Expr} {ifs:List Expr} {scope:Scope} {pos cpos:Pos} {N:List Str} {k:Nat} {caps:List Nat} {wi:TI} {g:TG} {tc:TT} {te:(Addr->Hp->Prop)->TE} {EE:Addr->Hp->Prop} {use:Option (Value->Sem Unit)} {Q':Value->Shared->Prop}
  {pins:List (Addr×Obj)} {s:Shared} {σ:L2.St} {H:Hp} {Q:VK} (S:BlkScope X N k caps scope) (hc:X.calm=true) (hi:PI X tg iter wi)
  (hg:∀C s H fp,PG (iJ X N scope C s H fp) tg g) (ht:∀C s H fp,FZ (iJ X N scope C s H fp) ifs tc) (he:∀C s H fp,LX (iJ X N scope C s H fp) elt te) (hst:X.stack=X.env::X.outer) (hfr:X.env.frame=some X.env.locals)
  (hs:∀x,foldedSetIterable iter X.env x=pure x) (I:L2.Inv X pins σ H s) (h:nS k caps wi g tc (te (yI EE)) σ H Q)
  (fin:∀(D C:Addr) (H4:Hp) (s4:Shared) (m:Str->Option Value),L2.Inv X pins σ H4 s4->s4.heap.Ns C m->zG X pins H4 C->Q (.ref D) H4->compPost (model X.prog X.w) X.A X.xe use Q' (.ref D) C (.ok .next) s4)
  (bad:∀(H8:Hp) (C0 a:Addr) (dx:Option Addr) (T1:Addr) (s':Shared),L2.Inv X pins σ (fV H8 C0 a dx T1 (tψ T1)) s'->H8 T1=none->T1≠a->(∀H',Iw C0 a dx H8 H'->EE a H')->X.xe (.ref a) s') :
  wpAny (model X.prog X.w) X.A (comprehension (.ListComp elt [⟨tg,iter,ifs,0⟩] scope pos) scope X.env cpos (newList []) false (eval iter X.env) use) Q' X.xe s:=by
 refine wpAny_comprehension_free rfl hs (il (S.cells I.ok)) S.kind S.loc ?_;refine dI (hi pins s σ H _ I h) fun v s1 h1=>dI h1 fun itv s2 h2=>?_;obtain⟨it,fp,tn,J,H2,e,I2,T,st2,f2,n0,W,w0,wstop,turn⟩:=h2;subst e;refine Ay (wpAny_newFunctionEnv S.nocell (by intro y hy;simp at hy) (fun h₁ hns₁ hsb₁=>?_) S.kind)
 dsimp only at hns₁ hsb₁ ⊢;generalize hG:s2.heap.push { cls:=.type "list",dict:=none,data:=.seq ([]:List Value).toArray }=G at hns₁ hsb₁ ⊢;have hCG:G.objs.size=s2.heap.objs.size+1:=by rw[← hG,A2]
 have hDC:s2.heap.objs.size≠G.objs.size:=by lia
 have below:∀b,b<s2.heap.objs.size->b≠G.objs.size/\b≠s2.heap.objs.size:=fun b hb=>⟨by lia,by lia⟩
 have old:∀b o,s2.heap.get? b=some o->h₁.get? b=some o:=fun b o e=>hsb₁.extBut b o (below b (Ad e)).1 (Ac _ (hG ▸ Ac _ e));have hacc:h₁.get? s2.heap.objs.size=some (cJ [] 0):=hsb₁.extBut _ _ hDC (Ac _ (hG ▸ Ak _ rfl));have hlt:∀b∈fp,b<s2.heap.objs.size:=fun b hb=>by obtain⟨o,ho,_⟩:=T.obj 0 _ st2 b hb;exact Ad ho
 have hDf:s2.heap.objs.size∉fp:=fun z=>Ve _ (hlt _ z);have hle:s2.heap.objs.size<=G.objs.size:=by lia
 have hDcell:∀x c,(cj X.env scope.names []).lookup x=some c->c≠s2.heap.objs.size:=fun x c e z=>by
  obtain⟨v,q⟩:=I2.cell x c (S.sub I2.ok e);exact absurd q.lt (by rw[z];exact Ve _)
 have hDfs:s2.heap.objs.size∉g5 X.stack:=fun z=>by
  obtain⟨_,o,ho,_⟩:=I2.stack.mem z;exact absurd (Ad ho) (Ve _)
 have nfs:∀b∈fp,b∉g5 X.stack:=fun b hb z=>by
  rcases Vc.mp (I2.stkSub b z) with e|e
  ·exact(f2 b hb).2.1 e
  ·exact(f2 b hb).2.2.1 e
 have fpk:∀{H':Hp} {its:List Value} {n:Nat},(∀b∈fp,H' b=none)->∀b∈fp,oZ (iJ X N scope G.objs.size s2 H2 fp) [(s2.heap.objs.size,cJ its n)] H' b:=fun {H' its n} hn b hb =>
  ⟨hn b hb,(below b (hlt b hb)).1,nfs b hb,.inl hb,fun x c e=>(f2 b hb).2.2.2.2.1 x c (S.sub I2.ok e),fun p hp=>by
   have e:p=(s2.heap.objs.size,cJ its n):=by simpa using hp
   rw[e];exact Am (below b (hlt b hb)).2⟩
 have pinD:∀{H':Hp} {s':Shared} {σ':L2.St} {its:List Value} {n:Nat},L2.Inv (iJ X N scope G.objs.size s2 H2 fp) [] σ' H' s'->s'.heap.get? s2.heap.objs.size=some (cJ its n)->H' s2.heap.objs.size=none->L2.Inv (iJ X N scope G.objs.size s2 H2 fp) [(s2.heap.objs.size,cJ its n)] σ' H' s':=fun {H' s' σ' its n} J e hn =>
  J.pins_of fun p hp=>by
   have q:p=(s2.heap.objs.size,cJ its n):=by simpa using hp
   rw[q];exact⟨e,hn,hDC,hDfs,fun v z=>by cases z⟩
 have I3:L2.Inv (iJ X N scope G.objs.size s2 H2 fp) [] (jv k caps σ) H2 { s2 with heap:=h₁,toks:=s2.toks+([]:List (Str×Value)).length }:=wM S I2 f2 hlt hle rfl rfl old hns₁ (Vb I2.tk (Ba _ _));have away:∀{pl:List (Addr×Obj)} {σ8:L2.St} {uy:Value} (s8:Shared),(∃a H8,uy=.ref a/\L2.Inv (iJ X N scope G.objs.size s2 H2 fp) pl σ8 H8 s8/\yI EE a H8)->notedBy (model X.prog X.w) X.A (compEnvC scope (cj X.env scope.names []) G.objs.size X.env) (fun x s'=>compPost (model X.prog X.w) X.A X.xe use Q' (.ref s2.heap.objs.size) G.objs.size (.error x) s') uy s8:=by
  rintro pl σ8 uy s8 ⟨a,H8,rfl,J8,C0,dx,T,ne,ea,eT,q⟩;have fr:=J8.ok.frames;have sk:=J8.stack;have sf:=J8.stkFree;have fr':X.A.frames=some (X.env::X.outer):=by rw[← hst];exact fr
  have sk':s8.heap.FunFrames X.base (X.env::X.outer):=by rw[← hst];exact sk
  show wpAny _ X.A (noteFrame (.ref a) X.env) _ _ s8;refine Ch fr' sk' hfr ⟨(J8.hok a _ ea).1,ne,(J8.hok T _ eT).1⟩ (fun m=>by rw[← hst]at m;rw[sf T m]at eT;cases eT) fun h1 T1 k1 z1 x1 old=>?_
  rw[← hst]at k1;have J1:=sG (φT:=tψ T1) J8 k1 ⟨_,ea⟩ (.inr z1) (fun b m=>?_) x1.ex x1.ne (let ⟨o,ts,w1,w2,w3⟩:=x1.tb;⟨o,ts,_,w1,w2,w3⟩) (let ⟨o,_,z,_⟩:=x1.tb;⟨o,z⟩) Gw
  ·have nT1:H8 T1=none:=J8.hok.fresh z1;obtain⟨m1,hm1,_⟩:=id J1.loc;refine⟨m1,hm1,fun h' hs' cenv _=>?_⟩;have I9:L2.Inv X pins σ (fV H8 C0 a dx T1 (tψ T1)) { s8 with heap:=h1 }:=I2.call' (ch:=fp) J1.os J1.base J1.hok J1.bare (fun b hb=>⟨(f2 b hb).2.2.2.1,(f2 b hb).2.1,(f2 b hb).2.2.2.2.1,(f2 b hb).2.2.2.2.2⟩) J1.tk
   have I10:=I9.aside (C:=G.objs.size) ⟨J1.free,Wl (Vb I2.lt hle),.inr (Yc I2.sz hle),fun x c e z=>(by
    obtain⟨v,q⟩:=I2.cell x c e
    exact absurd (Vb q.lt (by rw[z];exact hle)) (Ve _)),fun p hp z=>absurd (Vb (Ad (I2.pin p hp).1) (by rw[z];exact hle)) (Ve _)⟩ hs'
   have eA:fV H8 C0 a dx T1 (tψ T1) a=some (.ext (yφ C0 a dx T1)):=by unfold fV;rw[ax (Am x1.ne),aG]
   have eT1:fV H8 C0 a dx T1 (tψ T1) T1=some (.ext (tψ T1)):=by unfold fV;rw[aG]
   obtain⟨o,ts,v,t1,t2,t3⟩:=(I10.hok T1 _ eT1).1;obtain⟨vs,sl,e1,v1⟩:=(I10.hok a _ eA).1;unfold PySem.passOn;refine Aa (As e1 rfl v1 ?_);rw[Ah (show ¬ (Value.ref T1 == Value.none)=true by simp)]
   refine Aa (Mx (fs:=g5 X.stack) ⟨⟨vs,sl,e1,v1⟩,x1.ne,o,ts,t1,t2,t3⟩ fun h2 fl' k2 x2=>?_);have I11:=sG (φT:=tψ T1) I10 k2 ⟨_,eA⟩ (.inl ⟨_,eT1⟩) (fun b m=>.inr (.inl (Za.mp m))) x2.ex x2.ne (let ⟨o,ts,w1,w2,w3⟩:=x2.tb;⟨o,ts,_,w1,w2,w3⟩) (let ⟨o,_,z,_⟩:=x2.tb;⟨o,z⟩) Gw;rw[yJ]at I11;exact wpAny_throw (bad H8 C0 a dx T1 _ I11 nT1 x1.ne q)
  ·rcases Zc.mp m with m|m
   ·rw[Za.mp m];exact .inr (.inr ⟨_,eT,old,let ⟨o,_,z,_⟩:=old;⟨o,z⟩⟩)
   ·exact .inl (Za.mp m)
 have loop:codeAny (model X.prog X.w) X.A (.compLoop (.ListComp elt [⟨tg,iter,ifs,0⟩] scope pos) 0 (.ref it) (.ref s2.heap.objs.size) (compEnvC scope (cj X.env scope.names []) G.objs.size X.env))
   (compPost (model X.prog X.w) X.A X.xe use Q' (.ref s2.heap.objs.size) G.objs.size) { s2 with heap:=h₁,toks:=s2.toks+([]:List (Str×Value)).length }:=by
  refine vR (CI (iJ X N scope G.objs.size s2 H2 fp) s2.heap.objs.size (jv k caps σ) tn fp n0 W) ?_ n0
   ⟨0,[],[],0,H2,pinD I3 hacc (I2.hok.fresh (Wb _)),T.keep _ _ _ st2 fun b _ o e=>old b o e,fun b hb=>(f2 b hb).1,.nil,Qk _,rfl,Qk _,w0⟩
  rintro n s3 ⟨i,xs,its,nn,H3,J3,st3,fr3,vs3,hz3,hn3,hi3,w3⟩;by_cases hin:i<n0
  rotate_left
  ·have ein:i=n0:=by lia
   subst ein;obtain⟨stop,qn⟩:=wstop xs H3 w3;refine dI (T.done (iJ X N scope G.objs.size s2 H2 fp) rfl rfl rfl hc i _ s3 _ H3 _ J3 (fpk fr3) st3 stop) fun r s4 zz9=>?_;obtain⟨hr,J4⟩:=zz9;subst hr;obtain⟨eD,nD,_⟩:=J4.pin (s2.heap.objs.size,cJ its nn) (by simp)
   have eD:s4.heap.get? s2.heap.objs.size=some (cJ its nn):=eD;have nD:H3 s2.heap.objs.size=none:=nD;obtain⟨m4,hm4,_⟩:=J4.loc;have U:Un (g5 X.stack) fp H2 H3 s2.heap s4.heap:=J4.base;have neC:∀b o,s2.heap.get? b=some o->b≠G.objs.size:=fun b o e=>(below b (Ad e)).1;have neD:∀b o,s2.heap.get? b=some o->b≠s2.heap.objs.size:=fun b o e=>(below b (Ad e)).2;have H2D:H2 s2.heap.objs.size=none:=I2.hok.fresh (Wb _);have HC:H3 G.objs.size=none:=J4.free;refine fin s2.heap.objs.size G.objs.size (upd H3 s2.heap.objs.size (.lst xs)) s4 m4 (I2.call' (s':=s4) (ch:=fp) J4.os ?_ ?_ J4.bare ?_ J4.tk) hm4 ?_ (qn _ nD)
   ·refine⟨fun b o e n hb hx=>U.keep b o e n hb hx,fun b o e n hb hx=>U.slot b o e n hb hx,fun b o e n hx=>?_,fun b o e hx=>U.there b o e hx,fun b ys e=>?_,fun b o u e=>?_,fun b ps e=>?_⟩
    ·rw[ax (neD b o e)];exact U.free b o e n hx
    ·rw[ax (bw e H2D)];exact U.tups b ys e
    ·rw[ax (bw e H2D)];exact U.frzs b o u e
    ·obtain⟨more,q⟩:=U.tbls b ps e;exact⟨more,by rw[ax (bw e H2D)];exact q⟩
   ·intro b u e;by_cases hb:b=s2.heap.objs.size
    ·subst hb;rw[aG]at e;cases e;exact⟨hz3,its,nn,vs3,eD⟩
    ·rw[ax hb]at e;exact(J4.hok b u e).stay (fun c v _ q=>q) (fun c q=>by rw[ax (bw q nD)];exact q) fun c ys q=>by rw[ax (bw q nD)];exact q
   ·exact fun b hb=>⟨(f2 b hb).2.2.2.1,(f2 b hb).2.1,(f2 b hb).2.2.2.2.1,(f2 b hb).2.2.2.2.2⟩
   ·refine⟨by rw[ax (Am hDC)];exact HC,Wl (Vb I2.lt hle),.inr (Yc I2.sz hle),fun x c e z=>?_,fun p hp z=>?_⟩
    ·obtain⟨v,q⟩:=I2.cell x c e;exact absurd (Vb q.lt (by rw[z];exact hle)) (Ve _)
    ·exact absurd (Vb (Ad (I2.pin p hp).1) (by rw[z];exact hle)) (Ve _)
  ·obtain⟨go,hz,step⟩:=turn i xs H3 hin w3;refine dI (T.item (iJ X N scope G.objs.size s2 H2 fp) rfl rfl rfl hc i _ s3 _ H3 _ J3 (fpk fr3) st3 go) fun r s4 zz9=>?_;obtain⟨u,hr,h4⟩:=zz9;subst hr;refine dI h4 fun _ s5 zz9=>?_;obtain⟨x,H5,J5,r5,y5,st5,fr5⟩:=zz9;have J5':=J5.pinned (fpk fr5) (T.obj _ _ st5);refine dI (hg _ _ _ _ _ s5 _ H5 x u _ J5' r5 (step x H5 y5)) fun _ s6 zz9=>?_;obtain⟨σ6,H6,J6,q6⟩:=zz9;refine dI (ht _ _ _ _ _ s6 σ6 H6 _ J6 q6) fun ok s7 zz9=>?_;obtain⟨H7,J7,q7⟩:=zz9;have wk:∀{σ8:L2.St} {H8:Hp} {s8:Shared} {pl:List (Addr×Obj)},L2.Inv (iJ X N scope G.objs.size s2 H2 fp) pl σ8 H8 s8->σ8.drop k=(jv k caps σ).drop k->L2.Inv (iJ X N scope G.objs.size s2 H2 fp) pl (jv k caps σ) H8 s8:=fun {σ8 H8 s8 pl} J8 hd =>
    J8.weak (by rw[rW,J8.len];exact S.len.symm) fun j v e=>by
     obtain⟨j',i',rfl,hc',hv'⟩:=rX e;have e1:((jv k caps σ).drop k)[j']?=some (some v):=by rw[Yf];exact e
     rw[← hd,Yf]at e1;exact e1
   have recs:∀{σ8:L2.St} {H8:Hp} {s8:Shared},L2.Inv (iJ X N scope G.objs.size s2 H2 fp) ([(s2.heap.objs.size,cJ its nn)]++mZ fp s5.heap) σ8 H8 s8->(∀b∈fp,∀o,s5.heap.get? b=some o->s8.heap.get? b=some o)/\(∀b∈fp,H8 b=none):=fun {σ8 H8 s8} J8 =>
    ⟨fun b hb o e=>(J8.pin (b,o) (Xc _ (Xc _ (eU hb e)))).1,fun b hb=>by
     obtain⟨o,e,d⟩:=T.obj _ _ st5 b hb
     exact(J8.pin (b,o) (Xc _ (Xc _ (eU hb e)))).2.1⟩
   cases ok with
   | false =>
    rw[Ah (by decide)]at q7 ⊢
    obtain⟨hd,w7⟩:=q7;obtain⟨k1,k2⟩:=recs J7;exact⟨n0-(i+1),by lia,i+1,xs,its,nn,H7,wk J7.unpinned hd,T.keep _ _ _ st5 k1,k2,vs3,hz3,rfl,hin,w7⟩
   | true =>
    rw[Af rfl]at q7 ⊢;refine Al (he _ _ _ _ _ s7 σ6 H7 _ _ J7 q7) (fun uy s8 zz9=>?_) fun uy s8 zz9=>?_
    rotate_left
    ·exact away s8 zz9
    obtain⟨y,H8,J8,r8,hd,w8⟩:=zz9;obtain⟨k1,k2⟩:=recs J8;obtain⟨eD,nD,_⟩:=J8.pin (s2.heap.objs.size,cJ its nn) (by simp)
    have eD:s8.heap.get? s2.heap.objs.size=some (cJ its nn):=eD;have nD:H8 s2.heap.objs.size=none:=nD;have hl3:=vs3.length;refine AB F.slot_list_append ⟨_,eD,rfl⟩ F.entry_list_append (F.args_list_append_2 _ _) (PySem.list_append s2.heap.objs.size its.toArray nn uy (by rw[Qb];lia)) ⟨eD,?_⟩
    have q:=PySem.IsL.update eD (fun a:Array Value=>a.push uy);have qe:its.toArray.push uy=(its++[uy]).toArray:=by simp
    rw[qe]at q;have uU:∀b o,b≠s2.heap.objs.size->s8.heap.get? b=some o->(s8.heap.update s2.heap.objs.size (Obj.mapSeq fun a=>a.push uy)).get? b=some o:=fun b o hb e=>(Aj s8.heap _ (Am hb)).trans e;have J9:L2.Inv (iJ X N scope G.objs.size s2 H2 fp) [] σ6 H8 { s8 with heap:=s8.heap.update s2.heap.objs.size (Obj.mapSeq fun a=>a.push uy),toks:=s8.toks } :=
     (J8.pins_of (pins':=[]) fun p hp=>absurd hp (by simp)).turned uU nD hDC (.inr (Wb _)) hDcell (fun p hp=>absurd hp (by simp))
    refine⟨n0-(i+1),by lia,i+1,xs++[y],its++[uy],_,H8,wk (pinD J9 q nD) hd,T.keep _ _ _ st5 fun b hb o e=>uU b o (fun z=>hDf (z ▸ hb)) (k1 b hb o e),k2,vs3.append (.cons r8 .nil),?_,rfl,hin,w8⟩
    rw[Wa,Xj];lia
 exact codeAny_compStart_list loop (T.self _ 0 _ _ _ (T.keep _ _ _ st2 fun b _ o e=>old b o e) loop)
def sH (k:Nat) (caps:List Nat) (wi:TI) (g:TG) (tc:TT) (te:(Addr->Hp->Prop)->TE) (E:XK):TE:=nS k caps wi g tc (te (yI fun a H=>E (.ref a) none H))
section
variable {P:Program} {w:World} {K:Frag} {mg:Str->Option Value} {base:Heap} {NF:List Str} {qual:Str} {jb:Scope} {f:Addr} {cd:Value} {A:Around} {outer:List Env} {s0:Shared} {H0:Hp} {E:XK}
theorem Cq {elt iter tg:Expr} {ifs:List Expr} {scope:Scope} {pos:Pos} {N:List Str} {k:Nat} {caps:List Nat} {wi:TI} {g:TG} {tc:TT} {te:(Addr->Hp->Prop)->TE} (S:BlkScope (dP (mW P w) P w K mg base NF qual jb f cd A outer s0 H0 E) N k caps scope) (hc:(dP (mW P w) P w K mg base NF qual jb f cd A outer s0 H0 E).calm=true) (hi:PI (dP (mW P w) P w K mg base NF qual jb f cd A outer s0 H0 E) tg iter wi)
  (hg:∀C s H fp,PG (iJ (dP (mW P w) P w K mg base NF qual jb f cd A outer s0 H0 E) N scope C s H fp) tg g) (ht:∀C s H fp,FZ (iJ (dP (mW P w) P w K mg base NF qual jb f cd A outer s0 H0 E) N scope C s H fp) ifs tc) (he:∀C s H fp,LX (iJ (dP (mW P w) P w K mg base NF qual jb f cd A outer s0 H0 E) N scope C s H fp) elt te)
  (hs:∀x,foldedSetIterable iter (dP (mW P w) P w K mg base NF qual jb f cd A outer s0 H0 E).env x=pure x:=by intro _;rfl):PE (dP (mW P w) P w K mg base NF qual jb f cd A outer s0 H0 E) (.ListComp elt [⟨tg,iter,ifs,0⟩] scope pos) (sH k caps wi g tc te E):=by
 intro pins s σ H Q I h;rw[eval_ListComp];exact vS (use:=none) S hc hi hg ht he rfl rfl hs I h (fun D C H4 s4 m I4 hm a q=>⟨m,hm,fun h' hs'=>⟨.ref D,H4,I4.aside a hs',rfl,q⟩⟩) fun H8 C0 a dx T1 s' I8 n1 n2 q=>Eu I8 n1 n2 q
end
end VX
namespace VX
open PySem PySem.Spec PySem.W PyProof.Rows L2 VF
def y8 (fg:FG) (fc:FT) (R:List D->Option Rx) (g:List D->Option Rz) (fa:FA) (k:Nat):List D->En->Option Rx
 | [],_=>none
 | x::r,sb=>(fg x sb).bind fun s1=>(fc s1).bind fun c=>if c.1=true then(fa c.2).bind fun a=>(cq a.1 a.2).bind fun y=>match R y.1 with
   | some v=>some v
   | none=>(dJ g fa c.2).bind fun y=>(esc y.1 y.2).bind fun w=>y8 fg fc R g fa k r (m9 k w.2)
  else y8 fg fc R g fa k r (m9 k c.2)
def lG (k:Nat) (caps:List Nat) (fi:FI) (fg:FG) (fc:FT) (R:List D->Option Rx) (g:List D->Option Rz) (fa:FA):En->Option Rx:=fun st=>(fi st).bind fun x=>if (i9 caps x.2.length&&decide (x.1.length<=1000000))=true then y8 fg fc R g fa k x.1 (g9 k caps x.2) else none
def LY (sp:Sp) (ta:TA):(Addr->Hp->Prop)->TE:=fun Ex σ H Q=>ta σ H fun vs H1=>sp vs H1 Q fun u _ H2=>∃a,u=.ref a/\Ex a H2
def mw (k:Nat) (caps:List Nat) (fi:FI) (fg:FG) (fc:FT) (R:List D->Option Rx) (g:List D->Option Rz) (fa:FA) (kF:FE->FS):FY:=fun st=>match lG k caps fi fg fc R g fa st with
 | some v=>some (.x v)
 | none=>(kF (cY k caps fi fg fc (dJ g fa)) st).bind fun o=>some (.o o)
section
variable {K:Frag} {C:Addr} {n:Str} {E:XK}
theorem KH {H:Hp} {v:Rx} (h:Flies K E H v):Flies K (fun u _ H2=>∃a,u=.ref a/\yI (fun a H=>E (.ref a) none H) a H2) H v:=fun C hC e H' z=>by
 obtain⟨dx,T,a1,a2,a3,a4,a5⟩:=z.obj;refine⟨e,rfl,C,dx,T,a1,a3,a5,fun H2 g=>h C hC e H2 ?_⟩;obtain⟨T2,b1,b2,b3,b4,b5⟩:=g;have same:∀b o,H b=some o->b≠e:=fun b o w q=>by rw[q,z.new]at w;cases w
 refine⟨z.new,⟨dx,T2,b1,?_,b3,?_,b4⟩,fun b o w=>b5 b o (same b o w) (z.old b o w)⟩
 ·cases w:H T2 with
  | none=>rfl
  | some o=>rw[z.old _ _ w]at b2;cases b2
 ·rcases a4 with a4|⟨d,w1,w2,w3⟩
  ·exact .inl a4
  ·exact .inr ⟨d,w1,w2,b5 d _ (fun q=>by rw[q,a3]at w3;cases w3) w3⟩
theorem Cr {k:Nat} {caps:List Nat} {wi:TI} {fi:FI} {g:TG} {fg:FG} {tg:List Nat} {tc:TT} {fc:FT} {ta:TA} {fa:FA} {R:List D->Option Rx} {gg:List D->Option Rz} (hi:HE K caps wi fi) (hg:DS K g fg tg) (ht:∀j∈tg,j<k) (hc:qN K tc fc) (ha:oB K ta fa)
  {st:En} {σ:L2.St} {H:Hp} {O Z:AS} {Q:VK} (E0:ER K st σ H O Z) {v:Rx} (h:lG k caps fi fg fc R gg fa st=some v) (q:∀H1 O1,Ext O H O1 H1->Flies K E H1 v):sH k caps wi g tc (LY (q8 K R gg) ta) E σ H Q:=by
 have E:=E0;refine cZ h fun items st1 e1 h=>?_;by_cases hok:(i9 caps st1.length&&decide (items.length<=1000000))=true
 rotate_left
 ·simp only[Ah hok]at h;cases h
 simp only[Af hok]at h;have hok1:caps.Nodup/\(∀i∈caps,i<st1.length)/\items.length<=1000000:=by
  rw[Qe,decide_eq_true_eq]at hok;unfold i9 at hok;rw[Qe,decide_eq_true_eq,Qf]at hok;exact⟨hok.1.1,fun i hi=>An (hok.1.2 i hi),hok.2⟩
 obtain⟨nd,lt,hfew⟩:=hok1;refine hi st σ H O Z _ E items st1 e1 fun J H1 O1 x1 k1 E1 it=>?_;have bl:(jv k caps σ).length=k+caps.length:=by simp[jv]
 have el:(g9 k caps st1).length=k+caps.length:=by simp[g9]
 refine⟨items.length,fun i xs H'=>∃sb Oi ds,Ext (Ob caps st1 σ) H1 Oi H'/\ER K sb (jv k caps σ) H' Oi (Zb caps st1 σ O1 Z)/\El K (U Oi (Zb caps st1 σ O1 Z)) H' xs ds/\y8 fg fc R gg fa k (items.drop i) sb=some v/\Kp (g9 k caps st1) sb/\xs.length<=i,
  ⟨g9 k caps st1,Ob caps st1 σ,[],Ext.refl _ _,zP E1 nd,El.nil,h,Kp.refl _,Wb _⟩,?_,?_⟩
 ·rintro xs H' ⟨sb,Oi,ds,x2,B,exs,e3,kb,_⟩;rw[Bg (Wb _)]at e3;cases e3
 ·rintro i xs H' hlt ⟨sb,Oi,ds,x2,B,exs,e3,kb,hxl⟩;have hd:items.drop i=items[i]::items.drop (i+1):=Yh hlt;rw[hd]at e3;refine b9 e3 fun s1 e4 e3=>?_;refine cZ e3 fun c s2 e5 e3=>?_;obtain⟨_,go⟩:=it H' Oi x2 (wR E1 nd lt (kb.len.trans el) x2 B).liv;obtain⟨g1,g2⟩:=go i _ (Qa hlt);refine⟨g1,A1 hxl (Vb hlt (few hfew)),fun x H'' hy=>?_⟩;obtain⟨sm,da⟩:=g2 x H'' hy;have xm:Ext Oi H' Oi H'':=Same.ext sm;have da':DA K (U Oi (Zb caps st1 σ O1 Z)) H'' x items[i]:=da.less fun b z=>by
   rcases z with z|z|z
   ·exact .inl (.inl z)
   ·exact .inr z
   ·exact .inl (.inr z)
  refine hg sb _ H'' Oi _ x _ _ (B.same sm) da' s1 e4 fun τ kt kq3 E4=>?_;have sl:sb.length=k+caps.length:=kb.len.trans el;have tl:τ.length=(jv k caps σ).length:=by rw[← E4.len,kq3.len,sl,bl]
  have tk:∀j,k<=j->(jv k caps σ)[j]?=τ[j]?:=fun j hj=>((kt j fun z=>absurd (ht j z) (by lia)).1).symm
  have drop:τ.drop k=(jv k caps σ).drop k:=by
   refine BJ fun j=>?_;rw[Yf,Yf];exact(tk _ (by lia)).symm
  have kp1:Kp (g9 k caps st1) s1:=by
   refine⟨kq3.len.trans kb.len,fun j s e g=>?_,fun j d e=>?_⟩
   ·by_cases hj:j<k
    ·have:=jL j s e hj;subst this;exact absurd rfl g
    ·obtain⟨s',e',g'⟩:=kb.has j s e g;exact⟨s',by rw[(kt j fun z=>absurd (ht j z) (by lia)).2];exact e',g'⟩
   ·by_cases hj:j<k
    ·have:=jL j _ e hj;cases this
    ·obtain⟨d',e'⟩:=kb.io j d e;exact⟨d',by rw[(kt j fun z=>absurd (ht j z) (by lia)).2];exact e'⟩
  refine hc s1 τ H'' Oi _ _ E4 c s2 e5 fun H3 O3 x3 k3 E5=>?_;have kp2:=kp1.trans k3;cases c with
  | false =>
   simp only[Xe,if_false]at e3 ⊢;have hs2:k<=s2.length:=by rw[kp2.len,el];lia
   exact⟨drop,m9 k s2,O3,ds,(x2.trans xm).trans x3,r9 E5 tl.symm hs2 tk,exs.ext (xm.trans x3),e3,sh jL kp2 hs2,by lia⟩
  | true =>
   rw[Af rfl]at e3 ⊢;refine cZ e3 fun rs s3 e6 e3=>?_;refine cZ e3 fun es s4 e7 e3=>?_;dsimp only at e3;cases w:R es with
   | some v' =>
    rw[w]at e3;cases e3;refine ha s2 τ H3 O3 _ _ E5 rs s3 e6 fun vs H4 O4 x4 k4 E6 rvs=>?_;obtain⟨O5,x5,k5,E7,el'⟩:=rvs.esc E6 e7;exact .inr ⟨_,es,v,el',E7.liv,w,KH (q H4 _ (x1.trans (se E1 ((((x2.trans xm).trans x3).trans x4).trans x5))))⟩
   | none =>
    rw[w]at e3;refine cZ e3 fun ry s5 e8 e3=>?_;refine cZ e3 fun dy s6 e9 e3=>?_;refine jS (R:=R) (E':=fun _ u _ H2=>∃a,u=.ref a/\yI _ a H2) ha s2 τ H3 O3 _ _ E5 ry s5 e8 fun y H4 O4 x4 k4 E6 rv w=>?_;obtain⟨O5,x5,k5,E7,day⟩:=rv.esc E6 e9;have kp3:=(kp2.trans k4).trans k5;have hs4:k<=s6.length:=by rw[kp3.len,el];lia
    exact⟨drop,m9 k s6,O5,ds++[dy],(((x2.trans xm).trans x3).trans x4).trans x5,r9 E7 tl.symm hs4 tk,(exs.ext (((xm.trans x3).trans x4).trans x5)).app (El.one day),e3,sh jL kp3 hs4,by simp;lia⟩
theorem Ev {k:Nat} {caps:List Nat} {wi:TI} {fi:FI} {g:TG} {fg:FG} {tg:List Nat} {tc:TT} {fc:FT} {ta:TA} {fa:FA} {R:List D->Option Rx} {gg:List D->Option Rz} {kk:Ends->L2.St->VK} {kF:FE->FS} (hk:∀te fe,d7 K te fe->nV K (LG kk te) (kF fe)) (hi:RdI K wi fi) (hg:DS K g fg tg) (ht:∀j∈tg,j<k) (hc:qN K tc fc) (ha:oB K ta fa) :
  tN K E (LG kk (sH k caps wi g tc (LY (q8 K R gg) ta) E)) (mw k caps fi fg fc R gg fa kF):=by
 intro st σ H O Z D E0 r h q;unfold mw at h;cases w:lG k caps fi fg fc R gg fa st with
 | some v =>
  rw[w]at h;cases h;exact Cr hi.ic hg ht hc ha E0 w q
 | none =>
  rw[w]at h;refine b9 h fun o e3 h=>?_;cases h;exact hk _ _ (ud hi.ic hg ht hc (jS (R:=R) (E':=fun _ u _ H2=>∃a,u=.ref a/\yI _ a H2) ha)) st σ H O Z D E0 o e3 q
end
end VX
namespace VX
open PySem PySem.Spec PySem.W PyProof.Rows L2 VF
structure CalJ0 (P:Program) (w:World) (K:Frag) (mg:Str->Option Value) (base:Heap) (C f:Addr) (k:Nat):Prop where
 ex:∃fd ps,FnOk P w K mg base ql k f fd ps (Im C)/\L2.Binds K fd ps []
structure Xb (K:Frag) (mg:Str->Option Value) (x sx:Str) (C S f:Addr):Prop where
 xc:XC K C S f xN "ValueError.__init__" "object.__setattr__" "object" "ValueError" mVE
 xh:XH K C "ValueError"
 aC:nsIn K mainGlobals x=some (some (.ref C))
 mC:mg x=some (.ref C)
 mS:mg sx=some (.ref S)
 hx:exmOne K (.ref C) (.ref S)=some true
def Gy (C:Addr):TS:=zg (Gs C (br (tR 0) eG))
section
variable {P:Program} {w:World} {K:Frag} {mg:Str->Option Value} {base h:Heap} {N:List Str} {qual:Str} {scope:Scope} {g:Addr} {cd:Value} {A:Around} {outer:List Env} {s0:Shared} {H0:Hp} {E:XK} {C S f:Addr} {x n sx:Str}
theorem sI {k k':Nat} {p cp pos:Pos} (Y:Xb K mg x sx C S f) (i:CalJ0 P w K mg base C f k) (hr:Room k' (A.deeper (envOfC qual scope s0.heap.objs.size g cd))) (hg:Gl (dP (mW P w) P w K mg base N qual scope g cd A outer s0 H0 E) x) (hk:k+1<=k':=by decide) (hdb:(x == ("__debug__":Str))=false:=by decide) :
  PS (dP (mW P w) P w K mg base N qual scope g cd A outer s0 H0 E) (.Raise (some (.Call (.Name x p) [] [] cp)) none pos) (LV C E):=by
 obtain⟨fd,ps,F,hb⟩:=i.ex;exact yH Y.xc KF F (hr.mono hk) hb hg Y.mC hdb
theorem Ct {x qual:Str} {st:Stmt} {N ps:List Str} {k:Nat} {fd:FuncData} (F:Fun K x qual st f fd) (S:FnScope N ps (ar st)) (h2:ps.length=1)
  (hB:∀{cdv:Value} {A:Around} {outer:List Env} {s:Shared} {H:Hp} {E:XK},Room k (A.deeper (envOfC qual (ar st) s.heap.objs.size f cdv))->PSs (dP ql P w K mg base N qual (ar st) f cdv A outer s H E).nox (cO st) (Gy C)):FnOk P w K mg base ql (k+1) f fd ps (Im C):=by
 refine F.ok S (fun vs H Q E h=>?_) fun cdv A outer s H vs Q E hr h=>⟨_,hB hr,?_⟩
 ·obtain⟨e,rfl,_⟩:=h;exact h2.symm
 ·obtain⟨e,rfl,he,q⟩:=h;exact⟨.ref e,rfl,e,[],rfl,Nat.le_of_ble_eq_true rfl,he,q⟩
theorem KI (X:K.In h) (G:h.Ns mainGlobals mg) (xc:XC K C S f xN "ValueError.__init__" "object.__setattr__" "object" "ValueError" mVE) (aC:nsIn K mainGlobals x=some (some (.ref C))) (aS:nsIn K mainGlobals sx=some (some (.ref S)))
  (ga:findIn K (.ref C) "__getattribute__"=some (some (.builtin "BaseException.__getattribute__"))) (gt:findIn K (.ref C) "__getattr__"=some none) (hd:hasDictIn K C=true) (ca:findIn K (.ref C) "__class__"=some (some (.builtin "object.__class__")))
  (cn:specialIn K (.builtin "object.__class__") "__get__"=some (some (.builtin "getset_descriptor.__get__"))) (ck:takesIn K (.builtin "object.__class__")=some true) (cm:mroIn K C (.type "object")=some true) (hx:exmOne K (.ref C) (.ref S)=some true):Xb K mg x sx C S f :=
 ⟨xc,⟨PySem.F.attr_ValueError,ga,gt,hd,ca,cn,ck,cm⟩,aC,mg_of X G aC,mg_of X G aS,hx⟩
end
def xq (K:Frag) (C:Addr):List V->Hp->VK->Prop:=fun vs H Q=>∃a dx T b n,vs=[.ref a,.ty n]/\H a=some (.ext (yφ C a dx T))/\Dx H dx/\kitOne K (.ref C) (.type n)=some b/\Q (.bl b) H
theorem yK {X:Cx} {K:Frag} {C T f:Addr} {id ii sa ow B:String} {mB:List Value} (h:X.K=K) (xc:XC K C T f id ii sa ow B mB) (hbe:mB.contains (.type "BaseException")=true) (xh:XH K C B):CallR X (.builtin "isinstance") (xq K C):=by
 intro pins s σ H vs us Q I r q;subst h;obtain⟨a,dx,T',b,n,rfl,ea,ex,hc,q⟩:=q;obtain⟨o,od,J⟩:=Gv I ea ex;cases r with
 | cons r1 r2 =>
  cases r2 with
  | cons r2 r3 =>
   cases r3;cases (show _=Value.ref a from r1);cases (show _=Value.type n from r2);refine bW ?_;exact kia_one (vQ xc hbe xh) I.kIn J hc nofun fun tk hle=>⟨.bl b,H,I.tok tk (I.tkl' hle),rfl,q⟩
theorem Iy {K:Frag} {te:TE} {fe:FE} {tab:List (Str×Bool)} {n:String} {r:List V->Hp->VK->Prop} (hr:∀c b,tab.lookup c=some b->∀C,nsIn K mainGlobals c=some (some (.ref C))->kitOne K (.ref C) (.type n)=some b/\∀vs H Q,xq K C vs H Q->r vs H Q) (h:d7 K te fe):d7 K (Ds r (br te (br (tC (.ty n)) eG))) (qt tab fe):=by
 intro st σ H O Z Q E r st' e q;refine cZ e fun r1 st1 e1 e=>h st σ H O Z _ E r1 st1 e1 fun v H1 O1 x1 k1 E1 rv fs=>?_;dsimp only at e;split at e
 ·rename_i c' n' y' e2
  refine b9 e fun b e3 e=>?_;cases e;obtain⟨a,rfl,C',dx,T,h1,h2,h3,h4,h5,h6⟩:=rv.ba E1 e2;obtain⟨hk,hv⟩:=hr _ _ e3 C' h1;exact hv _ _ _ ⟨a,dx,T,b,n,rfl,h4,Co h5,hk,q _ H1 O1 x1 k1 E1 (.bl b) trivial⟩
 ·cases e
end VX
namespace VX
open PySem PySem.Spec PySem.W PyProof.Rows L2 VF
section
variable {K:Frag} {E:XK}
theorem Ew {i:Nat} {r:List V->Hp->VK->Prop} {b:List D->Option Rz} {k:Nat} {caps:List Nat} {wi:TI} {fi:FI} {g:TG} {fg:FG} {tg:List Nat} {tc:TT} {fc:FT} {ta:TA} {fa:FA} {R:List D->Option Rx} {gg:List D->Option Rz} (hb:RdCB K r b) (hi:RdI K wi fi) (hg:DS K g fg tg) (ht:∀j∈tg,j<k) (hc:qN K tc fc) (ha:oB K ta fa) :
  tN K E (rH (Ds r (br (sH k caps wi g tc (LY (q8 K R gg) ta) E) eG)) (jr i)) (mw k caps fi fg fc R gg fa fun fe=>bn (dL b (ac fe aj)) i) :=
 Ev (kk:=fun D σ x H1=>eG σ H1 fun vs H2=>r (x::vs) H2 fun y H3=>jr i y σ H3 D.nx) (fun _ _ h=>aN (bF hb (aa h ae))) hi hg ht hc ha
theorem Ey:bootBuiltins "ValueError"=some (.type "ValueError"):=by decide +kernel
end
end VX
namespace VF22
open PySem PySem.Spec PyProof.Rows L2 VF
section
variable {X:Cx} {K:PySem.W.Frag}
theorem Ez:Jn X "str.find" (fun x vs H Q=>∃(a b:Str),x=.str a/\vs=[.str b]/\Q (.int (Txt.find a b)) H):=by
 intro pins s σ H x vs v us Q I rx rv h;obtain⟨a,b,rfl,rfl,q⟩:=h;obtain⟨t,rfl⟩:=rx;obtain⟨u,rfl,ru⟩:=vals1 rv;obtain⟨t',rfl⟩:=ru;exact SC.find ⟨.int _,H,I.tok _ (Wg _),⟨_,rfl⟩,q⟩
def Cu:D->List D->Option Rz
 | .str a,[.str b]=>some (.int (Txt.find a b),false)
 | _,_=>none
theorem EA:yu K (fun x vs H Q=>∃(a b:Str),x=.str a/\vs=[.str b]/\Q (.int (Txt.find a b)) H) Cu:=by
 intro Y H x xs d ds z Q lv b1 bs e q;cases d with
 | str a =>
  cases bs with
  | nil=>cases e
  | @cons v vs d ds b2 bs =>
   cases bs with
   | cons _ _=>cases d<;>cases e
   | nil =>
    cases d with
    | str b=>cases e;exact⟨a,b,b1,by rw[show v=V.str b from b2],q _ H (Same.refl H) (.int _)⟩
    | _=>cases e
 | _=>cases e
def pB (mx:Bool) (ys:List Int):Int:=ys.getD (argBest (fun i j=>if mx then decide (ys.getD i 0 > ys.getD j 0) else decide (ys.getD i 0<ys.getD j 0)) (ys.length-1)) 0
theorem ux {mx:Bool} {ys:List Int} (h:ys≠[]):pB mx ys∈ys/\∀y∈ys,if mx then y<=pB mx ys else pB mx ys<=y:=by
 have hp:=Ql.mpr h;have key:∃k,k<ys.length/\pB mx ys=ys.getD k 0/\∀j,j<ys.length->if mx then ys.getD j 0<=ys.getD k 0 else ys.getD k 0<=ys.getD j 0:=by
  cases mx with
  | true =>
   obtain⟨h1,h2⟩:=argBest_gt (fun i=>ys.getD i 0) (ys.length-1);exact⟨argBest (fun i j=>decide (ys.getD i 0 > ys.getD j 0)) (ys.length-1),by lia,rfl,fun j hj=>h2 j (by lia)⟩
  | false =>
   obtain⟨h1,h2⟩:=argBest_lt (fun i=>ys.getD i 0) (ys.length-1);exact⟨argBest (fun i j=>decide (ys.getD i 0<ys.getD j 0)) (ys.length-1),by lia,rfl,fun j hj=>h2 j (by lia)⟩
 obtain⟨k,hk,e,hb⟩:=key;have gd:∀j (hj:j<ys.length),ys.getD j 0=ys[j]:=fun j hj=>by rw[Ye,Qa hj];rfl
 refine⟨by rw[e,gd k hk];exact AM hk,fun y hy=>?_⟩
 obtain⟨j,hj,rfl⟩:=List.mem_iff_getElem.mp hy;have:=hb j hj;rw[gd j hj]at this;rw[e];exact this
def vT (mx:Bool) (K:PySem.W.Frag):List V->Hp->VK->Prop:=fun xs H Q=>∃(p:Addr) (ys:List Int),xs=[.ref p]/\i5 K H p (ys.map V.int)/\ys≠[]/\Q (.int (pB mx ys)) H
theorem uz {pins:List (Addr×Obj)} {s:Shared} {σ:L2.St} {H:Hp} {p:Addr} {ys:List Int} {Q:VK} {mx:Bool} (I:L2.Inv X pins σ H s) (hc:X.calm=true) (sq:i5 X.K H p (ys.map V.int)) (hne:ys≠[]) (q:Q (.int (pB mx ys)) H) {E:Value->Shared->Prop} {op:CmpOp} (hop:∀(a b:Int) (t u:Tok) (s':Shared) (Q':Value->Shared->Prop) (E':Value->Shared->Prop),Q' (.bool (if mx then decide (a > b) else decide (a<b))) s'->wpAny (model X.prog X.w) X.A.in1 (richCompare op (.int a t) (.int b u)) Q' E' s') :
  wpAny (model X.prog X.w) X.A.in1 (pyIter (.ref p)) (fun it s₂=>∃I fp wr n P St bt,it=.ref I/\Walks X.prog X.w X.A.in1 I fp wr n P St/\St 0 s₂.heap/\(∀b∈fp,b<s₂.heap.objs.size)/\0<n/\CmpOf X.prog X.w X.A.in1 op P bt /\
   ∀v h' tk,P (argBest bt (n-1)) v->(∀b o,b∉wr->s₂.heap.get? b=some o->h'.get? b=some o)->s.toks<=tk->EP X pins σ Q v { s₂ with heap:=h',toks:=tk }) E s:=by
 obtain⟨its,r,pl,hz⟩:=I.list sq;have hlen:its.length=ys.length:=by have:=r.length;simpa using this.symm
 obtain⟨op,np,ep,cp,dp,sp⟩:=id pl;have hpn:p≠s.heap.objs.size:=Vf (Ad ep);have hpos:=Ql.mpr hne;have itAt:∀(i:Nat) v,its.toArray[i]?=some v->∃t',v=.int (ys.getD i 0) t':=fun i v hv=>by
  obtain⟨w,e1,rw'⟩:=kz r i v (by simpa using hv)
  rw[Zg]at e1;obtain⟨y,e2,rfl⟩:=Zh.mp e1;obtain⟨t',rfl⟩:=rw';exact⟨t',by rw[Ye,e2];rfl⟩
 refine BD pl.isList ?_;refine⟨s.heap.objs.size,_,_,_,_,_,fun i j=>if mx then decide (ys.getD i 0 > ys.getD j 0) else decide (ys.getD i 0<ys.getD j 0),rfl,Walks.list (show X.A.in1.handled=none from I.ok.hd hc) s.heap.objs.size p hpn its.toArray,⟨⟨_,Ak _ rfl,rfl,rfl⟩,⟨op,Ac _ ep,cp,np,sp⟩⟩,fun b hb=>?_,by rw[Qb];lia,?_,fun v h' tk hv kp hle=>?_⟩
 ·show b<(s.heap.push _).objs.size;rw[A2];rcases Vc.mp hb with rfl|hb
  ·exact AL _
  ·obtain rfl:=Za.mp hb;exact Nat.lt_succ_of_lt (Ad ep)
 ·intro i j vi vj s' Q' E' hi hj hq;obtain⟨t1,rfl⟩:=itAt i vi hi;obtain⟨t2,rfl⟩:=itAt j vj hj;exact hop _ _ _ _ _ _ _ hq
 ·obtain⟨t',rfl⟩:=itAt _ v hv;rw[Qb,hlen];refine⟨.int _,H,I.kept (t':=tk) (fun b o e=>?_) (I.tkl' hle),⟨t',rfl⟩,q⟩;refine kp b o (fun hm=>?_) (Ac _ e);have:=Ad e;obtain rfl:=Za.mp hm;exact Ve _ this
theorem yL (h:X.K=K) (hc:X.calm=true):CallR X (.builtin "min") (vT false K):=by
 intro pins s σ H xs us Q I rv hh;obtain⟨p,ys,rfl,sq,hne,q⟩:=hh;subst h;obtain⟨u,rfl,ru⟩:=vals1 rv;cases ru;refine bW (call_min_walk ?_);have B:=uz (E:=X.xe) I hc sq hne q (op:=.Lt) fun a b t u s' Q' E' hq=>PyProof.Rows.lt_int hq;refine Al B (fun it s2 z=>?_) fun _ _ z _=>z;obtain⟨I',fp,wr,n,P,St,bt,e1,e2,e3,e4,e5,e6,e7⟩:=z;exact⟨I',fp,wr,n,P,St,bt,e1,e2,e3,e4,e5,e6,fun v h' tk hv kp hle=>e7 v h' tk hv kp hle⟩
theorem yM (h:X.K=K) (hc:X.calm=true):CallR X (.builtin "max") (vT true K):=by
 intro pins s σ H xs us Q I rv hh;obtain⟨p,ys,rfl,sq,hne,q⟩:=hh;subst h;obtain⟨u,rfl,ru⟩:=vals1 rv;cases ru;refine bW (call_max_walk ?_);have B:=uz (E:=X.xe) I hc sq hne q (op:=.Gt) fun a b t u s' Q' E' hq=>PyProof.Rows.gt_int hq;refine Al B (fun it s2 z=>?_) fun _ _ z _=>z;obtain⟨I',fp,wr,n,P,St,bt,e1,e2,e3,e4,e5,e6,e7⟩:=z;exact⟨I',fp,wr,n,P,St,bt,e1,e2,e3,e4,e5,e6,fun v h' tk hv kp hle=>e7 v h' tk hv kp hle⟩
def pC (mx:Bool):List D->Option Rz
 | [.lst ds]=>(asInts ds).bind fun ys=>if ys=[] then none else some (.int (pB mx ys),false)
 | _=>none
theorem uA {mx:Bool}:RdCB K (vT mx K) (pC mx):=by
 intro Y H xs ds z Q lv bs e q;cases bs with
 | nil=>cases e
 | @cons v vs d ds c1 bs =>
  cases bs with
  | cons _ _=>cases d<;>cases e
  | nil =>
   cases d with
   | lst es =>
    refine b9 e fun ys e1 e=>?_;by_cases c:ys=[]
    ·simp only[Af c]at e;cases e
    ·simp only[Ah c]at e;cases e;obtain⟨p,ws,rfl,hp,el⟩:=c1;obtain rfl:=qY el e1;exact⟨p,ys,rfl,.inl (.inl hp),c,q _ H (Same.refl H) (.int _)⟩
   | _=>cases e
end
end VF22
namespace VX
open PySem PySem.Spec PySem.W PyProof.Rows L2 VF
def LZ:List Addr->TA
 | []=>eG
 | c::r=>br (tC (.ref c)) (LZ r)
theorem Cv {σ:L2.St} {H:Hp}:∀{cs:List Addr} {Q:List V->Hp->Prop},Q (cs.map V.ref) H->LZ cs σ H Q
 | [],_,h=>h
 | c::r,Q,h=>Cv (cs:=r) (Q:=fun vs H1=>Q (V.ref c::vs) H1) h
section
variable {K:Frag} {E:XK}
theorem xt {te:TE} {fe:FE} {tab:List (Str×Bool)} {cs:List Addr} {r:List V->Hp->VK->Prop} (hl:cs.length<=100) (hr:∀c b,tab.lookup c=some b->∀C,nsIn K mainGlobals c=some (some (.ref C))->kitAny K (.ref C) (cs.map Value.ref)=some b/\∀vs H Q,pA K C vs H Q->r vs H Q) (h:d7 K te fe):d7 K (Ds r (br te (br (Ha (LZ cs)) eG))) (qt tab fe):=by
 intro st σ H O Z Q E r st' e q;refine cZ e fun r1 st1 e1 e=>h st σ H O Z _ E r1 st1 e1 fun v H1 O1 x1 k1 E1 rv fs=>?_;dsimp only at e;split at e
 ·rename_i c' n' y' e2
  refine b9 e fun b e3 e=>?_;cases e;obtain⟨a,rfl,C',dx,T,h1,h2,h3,h4,h5,h6⟩:=rv.ba E1 e2;obtain⟨hk,hv⟩:=hr _ _ e3 C' h1;refine Cv ⟨by rw[Xa];exact Yc hl (by decide),fun p np=>?_⟩
  have na:a≠p:=fun w=>by rw[← w,h4]at np;cases np
  have sm:Same H1 (upd H1 p (.tup (cs.map V.ref))):=fun b o z=>(ax fun w=>by rw[w,np]at z;cases z).trans z
  refine hv _ _ _ ⟨a,dx,T,b,p,rfl,(ax na).trans h4,?_,.inr ⟨cs,aG,hk⟩,q _ _ O1 (x1.trans (Same.ext sm)) k1 (E1.same sm) (.bl b) trivial⟩;rcases Co h5 with w|⟨d,fs,w1,w2⟩
  ·exact .inl w
  ·exact .inr ⟨d,fs,w1,sm _ _ w2⟩
 ·cases e
theorem Iz {C1 cv:Addr} {c1:Str} {b1:Bool} (a1:nsIn K mainGlobals c1=some (some (.ref C1))) (k1:kitOne K (.ref C1) (.ref cv)=some b1) :
  ∀c b,[(c1,b1)].lookup c=some b->∀C,nsIn K mainGlobals c=some (some (.ref C))->kitOne K (.ref C) (.ref cv)=some b/\∀vs H Q,pA K C vs H Q->pA K C1 vs H Q:=fun c b e C h=>by
 by_cases e1:c=c1
 ·subst e1;rw[Wn]at e;cases e;rw[a1]at h;cases h;exact⟨k1,fun _ _ _ z=>z⟩
 ·rw[Bb,show(c == c1)=false from by simp[e1]]at e
  cases e
theorem EB {C1:Addr} {n:String} {c1:Str} {b1:Bool} (a1:nsIn K mainGlobals c1=some (some (.ref C1))) (k1:kitOne K (.ref C1) (.type n)=some b1) :
  ∀c b,[(c1,b1)].lookup c=some b->∀C,nsIn K mainGlobals c=some (some (.ref C))->kitOne K (.ref C) (.type n)=some b/\∀vs H Q,xq K C vs H Q->xq K C1 vs H Q:=fun c b e C h=>by
 by_cases e1:c=c1
 ·subst e1;rw[Wn]at e;cases e;rw[a1]at h;cases h;exact⟨k1,fun _ _ _ z=>z⟩
 ·rw[Bb,show(c == c1)=false from by simp[e1]]at e
  cases e
theorem xu {C1:Addr} {cs:List Addr} {c1:Str} {b1:Bool} (a1:nsIn K mainGlobals c1=some (some (.ref C1))) (k1:kitAny K (.ref C1) (cs.map Value.ref)=some b1) :
  ∀c b,[(c1,b1)].lookup c=some b->∀C,nsIn K mainGlobals c=some (some (.ref C))->kitAny K (.ref C) (cs.map Value.ref)=some b/\∀vs H Q,pA K C vs H Q->pA K C1 vs H Q:=fun c b e C h=>by
 by_cases e1:c=c1
 ·subst e1;rw[Wn]at e;cases e;rw[a1]at h;cases h;exact⟨k1,fun _ _ _ z=>z⟩
 ·rw[Bb,show(c == c1)=false from by simp[e1]]at e
  cases e
theorem IA {a s:Addr} (h:exmOne K (.ref a) (.ref s)=some true):∀c,c=a->exmOne K (.ref c) (.ref s)=some true:=fun c z=>z ▸ h
theorem IB {a:Addr} {n:Str} (h:nsIn K mainGlobals n=some (some (.ref a))):∀c∈([n]:List Str),∀C,nsIn K mainGlobals c=some (some (.ref C))->C=a:=fun c hc C z=>by
 obtain rfl:=Za.mp hc;rw[h]at z;cases z;rfl
def yN (R:List D->Option Rx) (fa:FA) (F:FY):FY:=fun st=>(fa st).bind fun x=>(cq x.1 x.2).bind fun y=>match R y.1 with
 | some v=>some (.x v)
 | none=>F st
theorem Cw {R:List D->Option Rx} {g:List D->Option Rz} {ta:TA} {fa:FA} (ha:oB K ta fa):d7 K (Jt (q8 K R g) ta E) (dJ g fa):=jS (E':=fun _ u _ H2=>∃a C dx T,u=.ref a/\T≠a/\H2 a=some (.ext (yφ C a dx T))/\H2 T=some (.ext (tφ T .none))/\∀T',H2 T'=none->E (.ref a) none (two H2 C a dx T' .none)) ha
theorem IC {R:List D->Option Rx} {g:List D->Option Rz} {ta:TA} {fa:FA} {t:TS} {F:FY} (ha:oB K ta fa) (ht:∀D σ H,∃Q',Jt (q8 K R g) ta E σ H Q'->t D σ H) (hF:tN K E t F):tN K E t (yN R fa F):=by
 intro st σ H O Z D E' r h q;refine cZ h fun rs st1 e1 h=>cZ h fun ds st2 e2 h=>?_;dsimp only at h;cases w:R ds with
 | some v =>
  rw[w]at h;cases h;obtain⟨Q',hQ⟩:=ht D σ H;refine hQ (ha st σ H O Z _ E' rs st1 e1 fun vs H1 O1 x1 k1 E1 rvs=>?_);obtain⟨O2,x2,k2,E2,el⟩:=rvs.esc E1 e2;exact .inr ⟨U O2 Z,ds,v,el,E2.liv,w,Mp (q H1 O2 (x1.trans x2))⟩
 | none =>
  rw[w]at h;exact hF st σ H O Z D E' r h q
end
end VX
namespace VX
open PySem L2 VF
section
variable {F G:FY} {P:FS} {f:FT} {st s s1 s2:En} {a:Option Oy} {v:Rx} {o:Ot} {R:List D->Option Rx} {g:List D->Option Rz} {fa:FA} {rs:List Rs} {ds:List D}
theorem jc (h:P st=some o):tO P st=some (.o o):=by simp only[tO,h,Ya]
theorem cR (h:F st=some (.o (.nx s))) (h2:G s=a):iX F G st=a:=by simp only[iX,h,Ya];exact h2
theorem gF (h:F st=some (.x v)):iX F G st=some (.x v):=by simp only[iX,h,Ya]
theorem EC {r:Rs} (h:F st=some (.o (.rt r s))):iX F G st=some (.o (.rt r s)):=by simp only[iX,h,Ya]
theorem nW (h:f st=some (true,s)) (h2:F s=a):Ck f F G st=a:=by simp only[Ck,h,Ya,if_true];exact h2
theorem pD (h:f st=some (false,s)) (h2:G s=a):Ck f F G st=a:=by
 simp only[Ck,h,Ya];exact h2
theorem gn {n m:Nat} (hm:ds.length=m) (h:F (iK n ds)=some (.x v)):gK F n m ds=some v:=by
 simp only[gK,Af hm,h,Ya]
theorem my {n m:Nat} (h:F (iK n ds)=some (.o o)):gK F n m ds=none:=by
 unfold gK;split
 ·rw[h];rfl
 ·rfl
theorem pE (h:F st=some (.o o)):y7 F st=some o:=by simp only[y7,h,Ya]
theorem kD {k:FE->FS} (h1:fa st=some (rs,s1)) (h2:cq rs s1=some (ds,s2)) (h3:R ds=none) (h4:k (dJ g fa) st=some o):iB R g fa k st=some (.o o):=by
 simp only[iB,h1,h2,h3,h4,Ya]
theorem mz {k:FE->FS} (h1:fa st=some (rs,s1)) (h2:cq rs s1=some (ds,s2)) (h3:R ds=some v):iB R g fa k st=some (.x v):=by
 simp only[iB,h1,h2,h3,Ya]
theorem ED {k:Nat} {caps:List Nat} {fi:FI} {fg:FG} {fc:FT} {kF:FE->FS} (h1:lG k caps fi fg fc R g fa st=none) (h2:kF (cY k caps fi fg fc (dJ g fa)) st=some o):mw k caps fi fg fc R g fa kF st=some (.o o):=by
 simp only[mw,h1,h2,Ya]
theorem EF {k:Nat} {caps:List Nat} {fi:FI} {fg:FG} {fc:FT} {kF:FE->FS} (h1:lG k caps fi fg fc R g fa st=some v):mw k caps fi fg fc R g fa kF st=some (.x v):=by
 simp only[mw,h1]
theorem rb {k:Nat} {caps:List Nat} {fi:FI} {fg:FG} {fc:FT} {z:Option Rx} (h1:fi st=some (ds,s1)) (h2:(i9 caps s1.length&&decide (ds.length<=1000000))=true) (h3:y8 fg fc R g fa k ds (g9 k caps s1)=z):lG k caps fi fg fc R g fa st=z:=by
 simp only[lG,h1,Ya,Af h2];exact h3
theorem ID {i:Nat} {cs:List Str} {Fh:FS} {s3:En} {d:D} (h1:fa st=some (rs,s1)) (h2:cq rs s1=some (ds,s2)) (h3:R ds=some v) (h4:s2[i]?=some .e) (h5:v.1∈cs) (h6:Fh (s2.set i (.v (.xc v.1 v.2.1 v.2.2)))=some (.nx s3)) (h7:s3[i]?=some (.v d)):xl R g fa i cs Fh st=some (.nx (s3.set i .e)):=by
 simp only[xl,h1,h2,h3,h4,Af h5,h6,h7,Ya]
theorem IE {tab:List (Str×Bool)} {fe:FE} {r:Rs} {c n:Str} {y:Option Str} {b:Bool} (h1:fe st=some (r,s)) (h2:cont s r=some (.xc c n y)) (h3:tab.lookup c=some b):qt tab fe st=some (.d (.bl b),s):=by
 simp only[qt,h1,h2,h3,Ya]
theorem Gz {α:Type} {fg:FG} {k:Nat} (f h:α->D) (sb:En):∀(xs:List α) (r:List D),(∀x∈xs,∃s1 s2 rs s3 ds s4 z s5 s6,fg (f x) sb=some s1/\g8 s1=some (true,s2)/\fa s2=some (rs,s3)/\cq rs s3=some (ds,s4)/\R ds=none/\dJ g fa s2=some (z,s5)/\esc z s5=some (h x,s6)/\m9 k s6=sb)->y8 fg g8 R g fa k (xs.map f++r) sb=y8 fg g8 R g fa k r sb
 | [],r,_=>rfl
 | x::xs,r,H=>by
  obtain⟨s1,s2,rs,s3,ds,s4,z,s5,s6,e1,e2,e3,e4,e5,e6,e7,e8⟩:=H x (Va ..);have ih:=Gz f h sb xs r fun y hy=>H y (Yb _ hy);rw[Ze,Qi];simp only[y8,e1,e2,e3,e4,e5,e6,e7,e8,Ya,if_true];exact ih
end
end VX
namespace VT
open PySem PySem.Spec PyProof.Rows L2 VF
section
variable {X:Cx} {o:Expr} {to:TE} {y z:Str} {k1 k2:Nat} {p1 p2 apos cpos:Pos}
def GA (y z:Str) (to:TE):TE:=fun σ H Q=>to σ H fun x H1=>∃a:Str,x=.str a/\a.length<=1048576/\z.length<=14/\Q (.str (Txt.replace a y z)) H1
theorem pe_repl (hyz:(y == z)=false) (ho:PE X o to) (hbase:attributeBase o "replace" X.env (eval o X.env)=eval o X.env:=by rfl)
  (hfew:((backTo cpos (starEach [.Constant (.str y) k1 p1,.Constant (.str z) k2 p2] X.env)).all (fun x=>!x.1)&&(backToKw cpos (keywordEach [] X.env)).all (fun x=>x.1.isSome)
   && decide (([.Constant (.str y) k1 p1,.Constant (.str z) k2 p2]:List Expr).length+([]:List Keyword).length+(if ([]:List Keyword).isEmpty then 0 else 1)<30))=true:=by rfl)
  (hline:(apos.endLine == cpos.line)=true:=by rfl) (hplain:(backTo cpos (starEach [.Constant (.str z) k2 p2] X.env)).any (·.1)=false:=by rfl) :
  PE X (.Call (.Attribute o "replace" apos) [.Constant (.str y) k1 p1,.Constant (.str z) k2 p2] [] cpos) (GA y z to):=by
 intro pins s σ H Q I h;refine Be hbase hfew hline rfl (dI (ho pins s σ H _ I h) fun v s1 zz9=>?_);obtain⟨x,H1,I1,r1,a,rfl,ha,hz,q⟩:=zz9;obtain⟨t,rfl⟩:=r1;refine⟨"str","str.replace",PySem.F.plainAttrs_str,PySem.F.slot_str_replace,PySem.F.type_str_replace,AJ _ _ _,(fun _ e=>nomatch e),?_⟩;refine AF (by show(false||(backTo cpos (starEach [.Constant (.str z) k2 p2] X.env)).any (·.1))=false;rw[hplain];rfl) (AU ?_)
 refine AC (AD (k:=k1) (pos:=p1) (AC (AD (k:=k2) (pos:=p2) (BL ?_))));exact bW (SC.replaceW (Wl I1.tk) (Nat.succ_ne_zero _) (Vf (AL _)) hyz ha hz fun t' k hle=>⟨.str _,H1,I1.tok k (Vb I1.tk (Yc (Ba _ 2) hle)),⟨t',rfl⟩,q⟩)
end
end VT
namespace VT
open PySem PySem.Spec PyProof.Rows L2 VF
section
variable {X:Cx} {pins:List (Addr×Obj)} {σ:L2.St} {H:Hp} {s:Shared}
theorem sJ {x:Str} {u:Value} {mm:Str->Option Value} {pos:Pos} {Q:Value->Shared->Prop} {E:Value->Shared->Prop} (I:L2.Inv X pins σ H s) {s':Shared} (hn:s'.heap.Ns X.env.locals mm) (l:Look X.env s'.heap mm x u)
  (q:Q u s') (hd:(x == ("__debug__":Str))=false:=by decide) (hcd:(x == ("__classdict__":Str))=false:=by decide):wpAny (model X.prog X.w) X.A (eval (.Name x pos) X.env) Q E s':=by
 rcases l with⟨hk,hm⟩|⟨hk,c,hc,hcell⟩
 ·exact Bd (wpAny_loadName_local I.ok.kind hk hn hm q) hd
 ·rcases hk with hk|hk
  ·exact Bd (wpAny_loadName_cell I.ok.kind hk hc hcell q) hd
  ·exact Bd (wpAny_loadName_free I.ok.kind hk hc hcell q hcd) hd
def fmt (s1 s2 c:Str):Str:=Str.empty++s1++c++s2
theorem EG {y m s1 s2 a c:Str} {ta t0:Tok} {m1 m2:Str->Option Value} {p0 p1 p2 p3 pj c1 c2 apos cpos:Pos} {k1 k2:Nat} {Q:Value->Shared->Prop} (I:L2.Inv X pins σ H s) (n1:s.heap.Ns X.env.locals m1) (ly:Look X.env s.heap m1 y (.str a ta)) (n2:s.heap.Ns X.env.locals m2) (lm:Look X.env s.heap m2 m (.str c t0))
  (h0:0<t0) (h1:t0<s.toks) (hcz:(c == fmt s1 s2 c)=false) (ha:a.length<=1048576) (hz:(fmt s1 s2 c).length<=14) (q:∀t' k,s.toks<=k->Q (.str (Txt.replace a c (fmt s1 s2 c)) t') { s with toks:=k })
  (dy:(y == ("__debug__":Str))=false) (dm:(m == ("__debug__":Str))=false) (ey:(y == ("__classdict__":Str))=false) (em:(m == ("__classdict__":Str))=false)
  (hbase:attributeBase (.Name y p0) "replace" X.env (eval (.Name y p0) X.env)=eval (.Name y p0) X.env)
  (hfew:((backTo cpos (starEach [.Name m p1,.JoinedStr [.Constant (.str s1) k1 c1,.FormattedValue (.Name m p2) (-1) none p3,.Constant (.str s2) k2 c2] pj] X.env)).all (fun x=>!x.1)&&(backToKw cpos (keywordEach [] X.env)).all (fun x=>x.1.isSome)
   && decide (([.Name m p1,.JoinedStr [.Constant (.str s1) k1 c1,.FormattedValue (.Name m p2) (-1) none p3,.Constant (.str s2) k2 c2] pj]:List Expr).length+([]:List Keyword).length+(if ([]:List Keyword).isEmpty then 0 else 1)<30))=true)
  (hline:(apos.endLine == cpos.line)=true) :
  wpAny (model X.prog X.w) X.A (eval (.Call (.Attribute (.Name y p0) "replace" apos) [.Name m p1,.JoinedStr [.Constant (.str s1) k1 c1,.FormattedValue (.Name m p2) (-1) none p3,.Constant (.str s2) k2 c2] pj] [] cpos) X.env) Q X.xe s:=by
 have lz:(fmt s1 s2 c).length<=sizeLine:=Yc hz (by rw[Bl];decide)
 have l1:(Str.empty++s1).length<=sizeLine:=by
  refine Yc ?_ lz;unfold fmt;simp only[Ao];lia
 have l2:(Str.empty++s1++c).length<=sizeLine:=by
  refine Yc ?_ lz;unfold fmt;simp only[Ao];lia
 have lc:c.length<=sizeLine:=by
  refine Yc ?_ lz;unfold fmt;simp only[Ao];lia
 have end_:∀v k,s.toks<=v->s.toks<=k->wpAny (model X.prog X.w) X.A (call (.builtin "str.replace") [.str a ta,.str c t0,.str (fmt s1 s2 c) v]) Q X.xe { s with toks:=k }:=fun v k hv hk =>
  bW (SC.replaceW (Wl h0) (Wl (Vb I.tk hv)) (Vf (Vb h1 hv)) hcz ha hz fun t' k' hle=>q t' k' (Yc hk hle))
 refine Be hbase hfew hline rfl (sJ I n1 ly ?_ dy ey);refine⟨"str","str.replace",PySem.F.plainAttrs_str,PySem.F.slot_str_replace,PySem.F.type_str_replace,AJ _ _ _,(fun _ e=>nomatch e),?_⟩;refine AF rfl (AU ?_);refine AC (sJ I n2 lm (AC ?_) dm em);refine wpAny_JoinedStr (pos:=pj) ?_;rw[BF];refine AD (k:=k1) (pos:=c1) ⟨s1,_,rfl,l1,?_⟩;rw[BF];have rest:∀(v:Tok) (k:Nat),s.toks<=k->Joins (model X.prog X.w) X.A X.xe (evalEach [.Constant (.str s2) k2 c2] X.env) (Str.empty++s1++c) (fun out s₁=>out.length<=sizeLine/\wpAny (model X.prog X.w) X.A (spliced []) (fun vs s₂=>wpAny (model X.prog X.w) X.A (call (.builtin "str.replace") ([.str a ta]++(Value.str c t0::Value.str out s₁.toks::vs)) []) Q X.xe s₂) X.xe { s₁ with toks:=s₁.toks+1 }) { s with toks:=k }:=fun v k hk=>by
  rw[BF];refine AD (k:=k2) (pos:=c2) ⟨s2,_,rfl,lz,?_⟩;exact⟨lz,BL (end_ _ _ (Qm hk) (Qm (Qm hk)))⟩
 refine wpAny_FormattedValue_plain (sJ (s':={ s with toks:=s.toks+1 }) I n2 lm ?_ dm em);exact wpAny_formatField_str ⟨c,_,rfl,l2,rest t0 _ (Bm _)⟩ ⟨c,_,rfl,l2,rest t0 _ (Qm (Bm _))⟩ lc
end
end VT
namespace VT
open PySem PySem.Spec PyProof.Rows L2 VF
def dC (s1 s2:Str):List Nat->Str->Str
 | [],a=>a
 | c::cs,a=>dC s1 s2 cs (Txt.replace a ⟨#[c]⟩ (fmt s1 s2 ⟨#[c]⟩))
theorem nX (s1 s2:Str):∀(cs:List Nat) (c:Nat) (a:Str),dC s1 s2 (cs++[c]) a=Txt.replace (dC s1 s2 cs a) ⟨#[c]⟩ (fmt s1 s2 ⟨#[c]⟩)
 | [],_,_=>rfl
 | _::cs,c,a=>nX s1 s2 cs c _
def GB (im iy:Nat) (s1 s2:Str) (tl:TE):TS:=fun D σ H=>tl σ H fun x H1=>∃z a:Str,x=.str z/\σ[iy]?=some (some (.str a))/\(∀i,i<z.cps.size->(dC s1 s2 (z.cps.toList.take i) a).length<=1048576) /\
 ∀σ':L2.St,σ'.length=σ.length->(∀j,j≠im->j≠iy->σ'[j]?=σ[j]?)->σ'[iy]?=some (some (.str (dC s1 s2 z.cps.toList a)))->D.nx σ' H1
section
variable {X:Cx}
theorem EH {P:Program} {w:World} {A:Around} {E:Value->Shared->Prop} {s:Shared} {n:String} {it:Addr} {x:Str} {t:Tok} {i c:Nat} {tg:Expr} {Q:Option Value->Shared->Prop} (hn:n="str_ascii_iterator"∨n="str_iterator") (hit:s.heap.IsStrIter it n x t i) (hx:x.cps[i]?=some c)
  (hQ:∀h',h'.IsStrIter it n x t (i+1)->Heap.SameBut it s.heap h'->Q (some (.str ⟨#[c]⟩ s.toks)) { s with heap:=h',toks:=s.toks+1 }):wpAny (model P w) A (pyNext (.ref it)) Q E s:=by
 rcases hn with rfl|rfl
 ·exact wpAny_pyNext_ascii_item hit hx hQ
 ·exact wpAny_pyNext_wide_item hit hx hQ
theorem next_end {P:Program} {w:World} {A:Around} {E:Value->Shared->Prop} {s:Shared} {n:String} {it:Addr} {x:Str} {t:Tok} {i:Nat} {Q:Option Value->Shared->Prop} (hn:n="str_ascii_iterator"∨n="str_iterator") (hh:A.handled=none) (hit:s.heap.IsStrIter it n x t i) (hx:x.cps[i]?=none)
  (hQ:∀h',Heap.ExtBut it s.heap h'->Q none { s with heap:=h' }):wpAny (model P w) A (pyNext (.ref it)) Q E s:=by
 rcases hn with rfl|rfl
 ·exact wpAny_pyNext_ascii_end hh hit hx hQ
 ·exact wpAny_pyNext_wide_end hh hit hx hQ
theorem Cy {P:Program} {w:World} {A:Around} {E:Value->Shared->Prop} {s:Shared} {x:Str} {t:Tok} {Q:Value->Shared->Prop}
  (hQ:∀n,(n="str_ascii_iterator"∨n="str_iterator")->Q (.ref s.heap.objs.size) { s with heap:=s.heap.push { cls:=.type n,data:=.fields #[.str x t,.int 0 0] } }):wpAny (model P w) A (pyIter (.str x t)) Q E s:=by
 cases ha:x.cps.all (·<128)
 ·exact wpAny_pyIter_wide ha (hQ _ (.inr rfl))
 ·exact wpAny_pyIter_ascii ha (hQ _ (.inl rfl))
theorem ps_frep {iter : Expr} {tl : TE} {im iy : Nat} {y m s1 s2 : Str} {p0 p1 p2 p3 pj c1 c2 apos cpos pm py pa pos : Pos} {k1 k2 : Nat} (hp : PassesOwn (model X.prog X.w) X.A X.env X.xe) (hc : X.calm = true) (hi : PE X iter tl)
    (hN : X.N.Nodup) (im_ : X.N[im]? = some m) (iy_ : X.N[iy]? = some y) (lm : Loc X.env.scope m) (ly : Loc X.env.scope y) (hmy : im ≠ iy)
    (hcz : ∀ c : Nat, ((⟨#[c]⟩ : Str) == fmt s1 s2 ⟨#[c]⟩) = false) (hz : ∀ c : Nat, (fmt s1 s2 ⟨#[c]⟩).length ≤ 14)
    (dy : (y == ("__debug__" : Str)) = false := by decide) (dm : (m == ("__debug__" : Str)) = false := by decide) (ey : (y == ("__classdict__" : Str)) = false := by decide) (em : (m == ("__classdict__" : Str)) = false := by decide)
    (hbase : attributeBase (.Name y p0) "replace" X.env (eval (.Name y p0) X.env) = eval (.Name y p0) X.env := by rfl)
    (hfew : ((backTo cpos (starEach [.Name m p1, .JoinedStr [.Constant (.str s1) k1 c1, .FormattedValue (.Name m p2) (-1) none p3, .Constant (.str s2) k2 c2] pj] X.env)).all (fun x => !x.1) && (backToKw cpos (keywordEach [] X.env)).all (fun x => x.1.isSome)
      && decide (([.Name m p1, .JoinedStr [.Constant (.str s1) k1 c1, .FormattedValue (.Name m p2) (-1) none p3, .Constant (.str s2) k2 c2] pj] : List Expr).length + ([] : List Keyword).length + (if ([] : List Keyword).isEmpty then 0 else 1) < 30)) = true := by rfl)
    (hline : (apos.endLine == cpos.line) = true := by rfl)
    (hsw : swapsWith (.Call (.Attribute (.Name y p0) "replace" apos) [.Name m p1, .JoinedStr [.Constant (.str s1) k1 c1, .FormattedValue (.Name m p2) (-1) none p3, .Constant (.str s2) k2 c2] pj] [] cpos) (some (.Name y py)) pa.line X.env = pure false := by rfl)
    (fm : X.fn m = true ∨ X.env.scope.names.lookup m = some .local := by first | exact .inl rfl | exact .inr rfl | assumption) (fy : X.fn y = true ∨ X.env.scope.names.lookup y = some .local := by first | exact .inl rfl | exact .inr rfl | assumption)
    (hs : ∀ x, foldedSetIterable iter X.env x = pure x := by intro _; rfl) :
    PS X (.For (.Name m pm) iter [.Assign [.Name y py] (.Call (.Attribute (.Name y p0) "replace" apos) [.Name m p1, .JoinedStr [.Constant (.str s1) k1 c1, .FormattedValue (.Name m p2) (-1) none p3, .Constant (.str s2) k2 c2] pj] [] cpos) pa] [] pos) (GB im iy s1 s2 tl) := by
  intro pins s σ H D I h;refine wpAny_For (dI (hi pins s σ H _ I h) fun v s1' zz9 => ?_) hs;obtain ⟨x, H1, I1, r1, z, a, rfl, ha, hl, q⟩ := zz9;obtain ⟨t, rfl⟩ := r1;refine Cy fun n hn => ?_;have lσ : ∀ {σ' : L2.St}, σ'.length = σ.length → im < σ'.length ∧ iy < σ'.length := fun {σ'} e => by
    rw [e, I.len];exact ⟨(List.getElem?_eq_some_iff.mp im_).1, (List.getElem?_eq_some_iff.mp iy_).1⟩
  have fok := I1.fpOk (b := s1'.heap.objs.size) (Nat.le_refl _) (I1.hok.fresh (Nat.le_refl _));have I2 : Inv X pins σ H1 { s1' with heap := s1'.heap.push { cls := .type n, data := .fields #[.str z t, .int 0 0] } } := I1.kept (t' := s1'.toks) fun b o e => Ac _ e;have st2 : Heap.IsStrIter (Shared.heap { s1' with heap := s1'.heap.push { cls := .type n, data := .fields #[.str z t, .int 0 0] } }) s1'.heap.objs.size n z t 0 := ⟨_, Ak _ rfl, rfl, rfl⟩;revert st2 I2;generalize ({ s1' with heap := s1'.heap.push { cls := .type n, data := .fields #[.str z t, .int 0 0] } } : Shared) = s2';intro I2 st2;generalize s1'.heap.objs.size = it at fok st2 ⊢;obtain ⟨f0, f1, f2, f3, f4, f5⟩ := id fok;refine codeAny_forLoop_any (fun k s' => ∃ i σ', Inv X pins σ' H1 s' ∧ s'.heap.IsStrIter it n z t i ∧ i ≤ z.cps.size ∧ k = z.cps.size - i ∧ σ'.length = σ.length ∧ (∀ j, j ≠ im → j ≠ iy → σ'[j]? = σ[j]?) ∧ σ'[iy]? = some (some (.str (dC s1 s2 (z.cps.toList.take i) a)))) ?_ z.cps.size
    ⟨0, σ, I2, st2, Nat.zero_le _, rfl, rfl, fun _ _ _ => rfl, ha⟩
  rintro k s3 ⟨i, σ3, I3, st3, li, rfl, len3, oth3, y3⟩;by_cases hlt : i < z.cps.size
  · have hx : z.cps[i]? = some z.cps[i] := by simp [hlt]
    generalize hcc : z.cps[i] = c at hx;refine Ap hp (EH (tg := .Name m pm) hn st3 hx fun h' st4 sb => ?_);have I4 : Inv X pins σ3 H1 { s3 with heap := h', toks := s3.toks + 1 } := I3.turned (fun b o hb e => sb.extBut b o hb e) f0 f1 f3 f4 f5;have st4' : Heap.IsStrIter (Shared.heap { s3 with heap := h', toks := s3.toks + 1 }) it n z t (i + 1) := st4;obtain ⟨o, e, oc, od⟩ := id st4;refine Ap hp (qD (s := { s3 with heap := h', toks := s3.toks + 1 }) e oc od (by rcases hn with rfl | rfl <;> decide) ?_)
    have tk4 : s3.toks < Shared.toks { s3 with heap := h', toks := s3.toks + 1 } := AL _;have t0 : 0 < s3.toks := I3.tk;revert I4 st4' tk4;generalize s3.toks = tc at t0;generalize ({ s3 with heap := h', toks := tc + 1 } : Shared) = s4;intro I4 st4 tk4
    have I4' := I4.pinned (fp := [it]) (fun b hb => by have e : b = it := by simpa using hb
                                                       subst e; exact fok) (fun b hb => by have e : b = it := by simpa using hb
                                                                                           subst e; obtain ⟨o, e, c, d⟩ := st4; exact ⟨o, e, fun v z => by rw [d] at z; cases z⟩)
    refine Ap hp (BE (bW (mX I4' hN im_ lm (v := .str ⟨#[c]⟩) ⟨tc, rfl⟩ (fun s5 I5 _ lk up => ?_) fm)));obtain ⟨m2, n2, lk2⟩ := lk;have tk5 : tc < s5.toks := By tk4 up;obtain ⟨m1, n1, hl1⟩ := id I5.loc;have len5 : (σ3.set im (some (V.str ⟨#[c]⟩))).length = σ.length := by simp [len3]
    obtain ⟨u, ⟨ta, rfl⟩, lk1⟩ := hl1 iy y (.str (dC s1 s2 (z.cps.toList.take i) a)) iy_ (by rw [AT hmy]; exact y3) (ly.elim .inl fun z => .inr (.inl z))
    refine Ap hp (A9 (wpAny_Assign_Name (EG I5 n1 lk1 n2 lk2 t0 tk5 (hcz c) (hl i hlt) (hz c) (fun t' k' hk => ?_) dy dm ey em hbase hfew hline) hsw));refine oY (I5.tok k' (By I5.tk hk)) hN iy_ ly (v := .str (Txt.replace (dC s1 s2 (z.cps.toList.take i) a) ⟨#[c]⟩ (fmt s1 s2 ⟨#[c]⟩))) ⟨t', rfl⟩ (fun s6 I6 => ?_) fy;refine Aw ⟨z.cps.size - (i + 1), by lia, i + 1, _, I6.unpinned, ?_, hlt, rfl, by simp [len3], fun j h1 h2 => ?_, ?_⟩
    · obtain ⟨o, e, oc, od⟩ := st4
      exact ⟨o, (I6.pin (it, o) (Bk _ (Bk _ (eU (by simp) e)))).1, oc, od⟩
    · rw [AT (Am h2), AT (Am h1)]
      exact oth3 j h1 h2
    · rw [BY (by simp [(lσ len3).2])]
      have : z.cps.toList.take (i + 1) = z.cps.toList.take i ++ [c] := by
        rw [List.take_succ]; simp [hx]
      rw [this, nX]
  · have e : i = z.cps.size := by lia
    subst e;refine Ap hp (next_end hn (I3.ok.hd hc) st3 (by simp) fun h' eb => ?_)
    refine Aw ⟨σ3, H1, I3.turned (t' := s3.toks) (fun b o hb e => eb b o hb e) f0 f1 f3 f4 f5, q σ3 len3 oth3 ?_⟩;have : z.cps.toList.take z.cps.size = z.cps.toList := by rw [← Array.length_toList, List.take_length]
    rw [this] at y3;exact y3
end
end VT
namespace VT
open PySem PySem.Spec PyProof.Rows L2 VF
section
variable {K:PySem.W.Frag}
def fRepl (y z:Str) (fe:FE):FE:=fun st=>(fe st).bind fun x=>match cont x.2 x.1 with
 | some (.str a)=>if a.length<=1048576/\z.length<=14 then some (.d (.str (Txt.replace a y z)),x.2) else none
 | _=>none
theorem rd_repl {y z:Str} {te:TE} {fe:FE} (h:d7 K te fe):d7 K (GA y z te) (fRepl y z fe):=by
 intro st σ H O Z Q E r st' e q;refine cZ e fun r1 st1 e1 e=>?_;refine h st σ H O Z _ E r1 st1 e1 fun v H1 O1 x1 k1 E1 rv w1=>?_;cases hc:cont st1 r1 with
 | none=>rw[hc]at e;cases e
 | some d =>
  rw[hc]at e;have b:=rv.ba E1 hc;cases d with
  | str a =>
   have e':(if a.length<=1048576/\z.length<=14 then some (Rs.d (.str (Txt.replace a y z)),st1) else none)=some (r,st'):=e;by_cases c:a.length<=1048576/\z.length<=14
   ·rw[Af c]at e';cases e';exact⟨a,b,c.1,c.2,q _ H1 O1 x1 k1 E1 (show DA K (U O1 Z) H1 _ _ from .str _) trivial⟩
   ·rw[Ah c]at e';cases e'
  | _=>cases e
def kR (s1 s2:Str):List Nat->Str->Bool
 | [],_=>true
 | c::cs,a=>decide (a.length<=1048576)&&kR s1 s2 cs (Txt.replace a ⟨#[c]⟩ (fmt s1 s2 ⟨#[c]⟩))
theorem uB {s1 s2:Str}:∀{cs:List Nat} {a:Str},kR s1 s2 cs a=true->∀i,i<cs.length->(dC s1 s2 (cs.take i) a).length<=1048576
 | [],_,_,i,hi=>absurd hi (Nat.not_lt_zero _)
 | c::cs,a,h,0,_=>by
  have h':(decide (a.length<=1048576)&&kR s1 s2 cs (Txt.replace a ⟨#[c]⟩ (fmt s1 s2 ⟨#[c]⟩)))=true:=h;simp only[Qe,decide_eq_true_eq]at h';exact h'.1
 | c::cs,a,h,i+1,hi=>by
  have h':(decide (a.length<=1048576)&&kR s1 s2 cs (Txt.replace a ⟨#[c]⟩ (fmt s1 s2 ⟨#[c]⟩)))=true:=h;simp only[Qe,decide_eq_true_eq]at h';exact uB h'.2 i (BW hi)
def sFRep (im iy:Nat) (s1 s2:Str) (fe:FE):FS:=fun st=>(fe st).bind fun x=>match cont x.2 x.1,x.2[iy]?,x.2[im]? with
 | some (.str z),some (.v (.str a)),some .e=>if kR s1 s2 z.cps.toList a=true then some (.nx (x.2.set iy (.v (.str (dC s1 s2 z.cps.toList a))))) else none
 | _,_,_=>none
theorem Cz {im iy:Nat} {s1 s2:Str} {fe:FE} {st:En} {o:Ot} (h:sFRep im iy s1 s2 fe st=some o):∃r st1 z a,fe st=some (r,st1)/\cont st1 r=some (.str z)/\st1[iy]?=some (.v (.str a))/\st1[im]?=some .e/\kR s1 s2 z.cps.toList a=true/\o=.nx (st1.set iy (.v (.str (dC s1 s2 z.cps.toList a)))):=by
 refine cZ h fun r st1 e1 e=>?_;simp only at e;split at e
 ·rename_i z a h1 h2 h3
  split at e
  ·rename_i hk
   cases e;exact⟨r,st1,z,a,e1,h1,h2,h3,hk,rfl⟩
  ·cases e
 ·cases e
theorem rs_frep {im iy:Nat} {s1 s2:Str} {te:TE} {fe:FE} (h:d7 K te fe):nV K (GB im iy s1 s2 te) (sFRep im iy s1 s2 fe):=by
 intro st σ H O Z Dn E o e q;obtain⟨r,st1,z,a,e1,hc,hy,hm,hk,rfl⟩:=Cz e;refine h st σ H O Z _ E r st1 e1 fun v H1 O1 x1 k1 E1 rv w1=>?_;have hmy:im≠iy:=fun e=>by rw[e,hy]at hm;cases hm
 obtain⟨u,hu,hd⟩:=E1.val iy _ hy;have hu':u=.str a:=hd.ba;subst hu';refine⟨z,a,rv.ba E1 hc,hu,fun i hi=>uB hk i (by simpa using hi),fun σ' l1 l2 l3=>?_⟩
 have io:∀(i:Nat) d,st1[i]?=some (.io d)->i≠im/\i≠iy:=fun i d h=>⟨(fun e=>by rw[e,hm]at h;cases h),(fun e=>by rw[e,hy]at h;cases h)⟩
 refine q σ' H1 O1 x1 (k1.kq.trans ⟨by simp,fun i d h=>?_⟩) ?_
 ·obtain⟨n1,n2⟩:=io i d h;exact⟨l2 i n1 n2,d,by rw[aH (Am n2)];exact h⟩
 have ne:∀(j:Nat) s x,(st1.set iy (.v (.str (dC s1 s2 z.cps.toList a))))[j]?=some s->s.ow=some x->st1[j]?=some s/\σ'[j]?=σ[j]?:=fun j s x h1 h2=>by
  by_cases q:iy=j
  ·subst q;rw[bD hy]at h1;cases h1;cases h2
  ·rw[aH q]at h1;exact⟨h1,l2 j (fun e=>by rw[e,hm]at h1;cases h1;cases h2) (Am q)⟩
 refine⟨by simp[E1.len,l1],fun j x hj=>?_,fun j s x h1 h2=>?_,fun j k s t x x' r h1 h2 h3 h4 h5 h6=>?_,E1.dis,E1.liv⟩
 ·by_cases q:iy=j
  ·subst q;rw[bD hy]at hj;cases hj;exact⟨_,l3,.str _⟩
  ·rw[aH q]at hj;obtain⟨w,g1,g2⟩:=E1.val j x hj;exact⟨w,by rw[l2 j (fun e=>by rw[e,hm]at hj;cases hj) (Am q)];exact g1,g2⟩
 ·obtain⟨a1,a2⟩:=ne j s x h1 h2;obtain⟨p,g1,g2,g3⟩:=E1.own j s x a1 h2;exact⟨p,by rw[a2];exact g1,g2,g3⟩
 ·obtain⟨a1,a2⟩:=ne j s x h1 h2;obtain⟨b1,b2⟩:=ne k t x' h3 h4;rw[a2]at h5;rw[b2]at h6;exact E1.uni j k s t x x' r a1 h2 b1 h4 h5 h6
end
end VT
namespace VF22
open PySem PySem.Spec PyProof.Rows L2 VF
section
variable {X:Cx} {K:PySem.W.Frag} {P:Program} {w:World} {rows:List (Str×Str)}
def fQ (rows:List (Str×Str)) (a:Str):Option Str:=(rows.find? fun r=>decide (r.1=a)).map (·.2)
def IF (rows:List (Str×Str)):List (Key×V):=rows.map fun r=>(Sum.inr r.1,V.str r.2)
theorem pF (a:Str):∀rows,jB (IF rows) (Sum.inr a)=(fQ rows a).map V.str
 | []=>rfl
 | r::rows=>by
  have ih:=pF a rows;by_cases e:r.1=a
  ·have b:fQ (r::rows) a=some r.2:=by simp[fQ,Wi,e]
   rw[b];exact jC (show(Sum.inr r.1:Key)=Sum.inr a by rw[e])
  ·have b:fQ (r::rows) a=fQ rows a:=by simp[fQ,Wi,e]
   rw[b,← ih];exact jD (show ¬ (Sum.inr r.1:Key)=Sum.inr a from fun z=>e (Sum.inr.inj z))
def GD (P:Program) (w:World) (K:PySem.W.Frag) (C:Addr) (rows:List (Str×Str)):Prop :=
 (C == sysModules)=false/\∃o es ep,K.lookup C=some o/\o.ExactDict/\o.data=.dict es ep/\KeysOf (cN P w) es/\∃vs,Pairs (cN P w) es.toList vs/\(vs.map (·.1)).Nodup/\KV (IF rows) vs
theorem GD.of {pins:List (Addr×Obj)} {σ:L2.St} {H:Hp} {s:Shared} {C:Addr} (g:GD X.prog X.w K C rows) (I:Inv X pins σ H s) (hK:X.K=K):(C == sysModules)=false/\∃vs,KV (IF rows) vs/\s.heap.DictOf (cN X.prog X.w) C vs:=by
 subst hK;obtain⟨h0,o,es,ep,h1,h2,h3,h4,vs,h5,h6,h7⟩:=g;exact⟨h0,vs,h7,o,es,ep,I.kIn _ _ h1,h2,h3,h4,h5,h6⟩
def LH (P:Program) (w:World) (K:PySem.W.Frag) (mg:Str->Option Value) (x:Str) (rows:List (Str×Str)):Prop:=∃C,mg x=some (.ref C)/\GD P w K C rows
def Mq (P:Program) (w:World) (K:PySem.W.Frag) (rows:List (Str×Str)):TE:=fun _ H Q=>∀C,GD P w K C rows->Q (.ref C) H
theorem KJ {x:Str} {pos:Pos} (hg:Gl X x) (hm:LH P w K X.mg x rows) (hd:(x == ("__debug__":Str))=false:=by decide):PE X (.Name x pos) (Mq P w K rows):=by
 obtain⟨a,e,g⟩:=hm;exact fun _ _ _ H _ I q=>gj I hg e ⟨.ref a,H,I,rfl,q a g⟩ hd
def GC (P:Program) (w:World) (K:PySem.W.Frag) (neg:Bool) (rows:List (Str×Str)):R2:=fun x y H Q=>∃(a:Str) (C:Addr),x=.str a/\y=.ref C/\GD P w K C rows/\Q (.bl (if neg then !(fQ rows a).isSome else(fQ rows a).isSome)) H
theorem vU (hK:X.K=K):OpR X (compareOp .NotIn) (GC X.prog X.w K true rows):=by
 intro pins s σ H x y v u Q I rx ry ⟨a,C,ex,ey,g,q⟩;subst ex;subst ey;cases ry;obtain⟨hd,vs,rel,dd⟩:=g.of I hK;refine wpAny_notIn_of (tX (k:=Sum.inr a) rx) hd dd.mapOf ?_;rw[← (rel.val (Sum.inr a)).isSome_eq,pF,A5];exact⟨.bl _,H,I.tok _,rfl,q⟩
def xv (neg:Bool) (rows:List (Str×Str)) (fe:FE):FE:=fun st=>(fe st).bind fun x=>(cont x.2 x.1).bind fun d=>match d with
 | .str a=>some (.d (.bl (if neg then !(fQ rows a).isSome else(fQ rows a).isSome)),x.2)
 | _=>none
theorem EI {te:TE} {fe:FE} {neg:Bool} (h:d7 K te fe):d7 K (zm (GC P w K neg rows) te (Mq P w K rows)) (xv neg rows fe):=by
 intro st σ H O Z Q E r' st' h' q;refine cZ h' fun r1 st1 e1 h'=>?_;refine b9 h' fun d1 e3 h'=>?_;refine h st σ H O Z _ E r1 st1 e1 fun v1 H1 O1 x1 k1 E1 rv1 w1=>fun C g=>?_;have b:=rv1.ba E1 e3;cases d1 with
 | str a =>
  cases h';exact⟨a,C,b,rfl,g,q _ H1 O1 x1 k1 E1 (.bl _) True.intro⟩
 | _=>cases h'
def KK (rows:List (Str×Str)) (ti:TE):TE:=fun σ H Q=>ti σ H fun y H1=>∃a b:Str,y=.str a/\fQ rows a=some b/\Q (.str b) H1
theorem uC {x:Str} {i:Expr} {ti:TE} {p pos:Pos} (hK:X.K=K) (hg:Gl X x) (hm:LH X.prog X.w K X.mg x rows) (hi:PE X i ti) (hs:JP i) (hd:(x == ("__debug__":Str))=false:=by decide):PE X (.Subscript (.Name x p) i pos) (KK rows ti):=by
 obtain⟨C,e,g⟩:=hm;intro pins s σ H Q I h;refine DI PySem.F.slot_dict_getitem.lookup hs (gj I hg e (dI (hi pins s σ H _ I h) fun iv s2 zz9=>?_) hd);obtain⟨y,H2,I2,ry,a,b,ey,l,q2⟩:=zz9;subst ey;obtain⟨hd,vs,rel,dd⟩:=g.of I2 hK;obtain⟨w',hw,rw'⟩:=RelO.some_of (v:=V.str b) (o:=valueAt vs (Sum.inr a)) (by have:=rel.val (Sum.inr a);rw[pF,l]at this;exact this)
 exact⟨dd.typeIs,wpAny_getItem_of (tX (k:=Sum.inr a) ry) dd.mapOf hw ⟨.str b,H2,I2.tok _,rw',q2⟩⟩
def CA (rows:List (Str×Str)) (fe:FE):FE:=fun st=>(fe st).bind fun x=>(cont x.2 x.1).bind fun d=>match d with
 | .str a=>(fQ rows a).bind fun b=>some (.d (.str b),x.2)
 | _=>none
theorem CB {te:TE} {fe:FE} (h:d7 K te fe):d7 K (KK rows te) (CA rows fe):=by
 intro st σ H O Z Q E r' st' h' q;refine cZ h' fun r1 st1 e1 h'=>?_;refine b9 h' fun d1 e3 h'=>?_;refine h st σ H O Z _ E r1 st1 e1 fun v1 H1 O1 x1 k1 E1 rv1 w1=>?_;have b:=rv1.ba E1 e3;cases d1 with
 | str a =>
  obtain⟨c,hc,h'⟩:=Option.bind_eq_some_iff.mp h';cases h';exact⟨a,c,b,hc,q _ H1 O1 x1 k1 E1 (.str _) True.intro⟩
 | _=>cases h'
end
end VF22
namespace VT
open PySem PySem.Spec PyProof.Rows L2 VF
theorem xw (s1 s2:Str) (c:Nat):(fmt s1 s2 ⟨#[c]⟩).length=s1.length+1+s2.length:=by
 unfold fmt;simp only[Ao];show 0+s1.length+1+s2.length=_;lia
theorem cz_b (c:Nat):((⟨#[c]⟩:Str) == fmt " " " " ⟨#[c]⟩)=false:=by
 rw[beq_eq_false_iff_ne];intro e;have:=congrArg Str.length e;rw[xw]at this;have h1:Str.length " "=1:=by decide +kernel
 have h2:Str.length ⟨#[c]⟩=1:=rfl;lia
theorem hz_b (c:Nat):(fmt " " " " ⟨#[c]⟩).length<=14:=by
 rw[xw];have h1:Str.length " "=1:=by decide +kernel
 lia
end VT
namespace VF22
open PySem PySem.Spec PyProof.Rows L2 VF
theorem gd_mk2 {P:Program} {w:World} {K:PySem.W.Frag} {C:Addr} {n:Nat} {a1 b1 a2 b2:Str} {t1 t2 t3 t4:Tok}
  (h:K.lookup C=some ⟨.type "dict",none,.dict #[⟨PyData.keyHash w.params a1,.str a1 t1,.str b1 t2⟩,⟨PyData.keyHash w.params a2,.str a2 t3,.str b2 t4⟩] n,#[]⟩) (hC:(C == sysModules)=false) (ne:a1≠a2):GD P w K C [(a1,b1),(a2,b2)]:=by
 refine⟨hC,_,_,n,h,⟨rfl,rfl,rfl⟩,rfl,fun e he=>?_,[(Sum.inr a1,.str b1 t2),(Sum.inr a2,.str b2 t4)],.cons (gw P w a1 t1) rfl (.cons (gw P w a2 t3) rfl .nil),?_,.cons ⟨rfl,t2,rfl⟩ (.cons ⟨rfl,t4,rfl⟩ .nil)⟩
 ·have he:e∈[(⟨PyData.keyHash w.params a1,.str a1 t1,.str b1 t2⟩:DictEntry),⟨PyData.keyHash w.params a2,.str a2 t3,.str b2 t4⟩]:=by simpa using he
  rcases Vc.mp he with rfl|he
  ·exact⟨Sum.inr a1,gw P w a1 t1,rfl⟩
  ·rcases Vc.mp he with rfl|he
   ·exact⟨Sum.inr a2,gw P w a2 t3,rfl⟩
   ·exact nomatch he
 ·show([Sum.inr a1,Sum.inr a2]:List Key).Nodup;simp[ne]
end VF22
namespace VT
open PySem PySem.Spec PyProof.Rows L2 VF
def rp (c:Nat) (z:List Nat) (k:Nat):List Nat:=if k=c then z else [k]
theorem sK (c:Nat) (z:List Nat):∀l:List Nat,c∉l->l.flatMap (rp c z)=l
 | [],_=>rfl
 | k::r,h=>by
  have h1:¬ k=c:=fun e=>h (e ▸ Va ..);rw[We,sK c z r fun m=>h (Yb _ m),rp,Ah h1];rfl
theorem xy (c:Nat) (z:Str):∀parts:List Str,(∀p∈parts,c∉p.cps.toList)->(Str.join ⟨#[c]⟩ parts).cps.toList.flatMap (rp c z.cps.toList)=(Str.join z parts).cps.toList
 | [],_=>rfl
 | [p],h=>sK c _ _ (h p (Za.mpr rfl))
 | p::q::r,h=>by
  have ih:=xy c z (q::r) fun a ha=>h a (Yb _ ha);show(p++⟨#[c]⟩++Str.join ⟨#[c]⟩ (q::r)).cps.toList.flatMap (rp c z.cps.toList)=(p++z++Str.join z (q::r)).cps.toList;simp only[Av,Vh,Xi];rw[ih,sK c _ _ (h p (Va ..))];show p.cps.toList++(rp c z.cps.toList c++[])++_=_;rw[rp,Af rfl,Wc]
theorem pG (x z:Str) (c:Nat):(Txt.replace x ⟨#[c]⟩ z).cps.toList=x.cps.toList.flatMap (rp c z.cps.toList):=by
 rw[StrLaws.replace_one,← xy c z _ (StrLaws.split_free x c),StrLaws.join_split]
def GE (cs:List Nat) (k:Nat):List Nat:=if k∈cs then [32,k,32] else [k]
theorem jT {α β:Type} {f g:α->List β}:∀{l:List α},(∀a∈l,f a=g a)->l.flatMap f=l.flatMap g
 | [],_=>rfl
 | a::l,h=>by rw[We,We,h a (Va ..),jT fun b hb=>h b (Yb _ hb)]
theorem xz (c:Nat):(fmt " " " " ⟨#[c]⟩).cps.toList=[32,c,32]:=by
 unfold fmt;simp only[Av,Vh];rfl
theorem pH:∀(cs:List Nat) (a:Str),32∉cs->cs.Nodup->(dC " " " " cs a).cps.toList=a.cps.toList.flatMap (GE cs)
 | [],a,_,_=>by
  show a.cps.toList=_;have:a.cps.toList.flatMap (GE [])=a.cps.toList.flatMap fun k=>[k]:=jT fun k _=>by simp[GE]
  rw[this];simp
 | c::cs,a,h,n=>by
  have nc:c∉cs:=(Zj.mp n).1;have hb:32∉cs:=fun m=>h (Yb _ m);show(dC " " " " cs (Txt.replace a ⟨#[c]⟩ (fmt " " " " ⟨#[c]⟩))).cps.toList=_;rw[pH cs _ hb (Zj.mp n).2,pG,List.flatMap_assoc,xz];refine jT fun k _=>?_;by_cases e:k=c
  ·subst e;simp[rp,GE,nc,hb]
  ·simp[rp,GE,e]
theorem pI:∀(cs:List Nat) (a:Str),(dC " " " " cs a).cps.toList.length<=3 ^ cs.length*a.cps.toList.length
 | [],a=>by show a.cps.toList.length<=_;simp
 | c::cs,a=>by
  have ih:=pI cs (Txt.replace a ⟨#[c]⟩ (fmt " " " " ⟨#[c]⟩));have h1:(Txt.replace a ⟨#[c]⟩ (fmt " " " " ⟨#[c]⟩)).cps.toList.length<=3*a.cps.toList.length:=by
   rw[pG,xz];generalize a.cps.toList=l;induction l with
   | nil=>simp
   | cons k r ih =>
    rw[We,Wa,Vd];have:(rp c [32,c,32] k).length<=3:=by unfold rp;split<;>simp
    lia
  show(dC " " " " cs (Txt.replace a ⟨#[c]⟩ (fmt " " " " ⟨#[c]⟩))).cps.toList.length<=_;refine Yc ih ?_;rw[Vd,Nat.pow_succ,Nat.mul_assoc];exact Nat.mul_le_mul_left _ h1
theorem uD:∀(cs:List Nat) (a:Str),3 ^ cs.length*a.cps.toList.length<=1048576->kR " " " " cs a=true
 | [],_,_=>rfl
 | c::cs,a,h=>by
  have h1:(Txt.replace a ⟨#[c]⟩ (fmt " " " " ⟨#[c]⟩)).cps.toList.length<=3*a.cps.toList.length:=by
   have:=pI [c] a;simpa[dC]using this
  have hp:1<=3 ^ cs.length:=Nat.one_le_pow _ _ (by decide)
  rw[Vd,Nat.pow_succ,Nat.mul_assoc]at h;have h2:3*a.cps.toList.length<=3 ^ cs.length*(3*a.cps.toList.length):=Nat.le_mul_of_pos_left _ hp;have e:kR " " " " (c::cs) a=(decide (a.length<=1048576)&&kR " " " " cs (Txt.replace a ⟨#[c]⟩ (fmt " " " " ⟨#[c]⟩))):=rfl;rw[e,uD cs _ (Yc (Nat.mul_le_mul_left _ h1) h),BU];have:a.length=a.cps.toList.length:=by simp[Str.length]
  simp only[decide_eq_true_eq];lia
def em (acc:List Nat):List (List Nat):=if acc=[] then [] else [acc]
def wd:List Nat->List Nat->List (List Nat)
 | acc,[]=>em acc
 | acc,k::r=>if k=32 then em acc++wd [] r else wd (acc++[k]) r
theorem sL:∀(p acc r:List Nat),32∉p->wd acc (p++r)=wd (acc++p) r
 | [],acc,r,_=>by simp
 | k::p,acc,r,h=>by
  have h1:¬ k=32:=fun e=>h (e ▸ Va ..);show(if k=32 then em acc++wd [] (p++r) else wd (acc++[k]) (p++r))=_;rw[Ah h1,sL p (acc++[k]) r fun m=>h (Yb _ m),Wd];rfl
theorem xA:∀(ps:List Str),(∀p∈ps,32∉p.cps.toList)->wd [] (Str.join ⟨#[32]⟩ ps).cps.toList=(ps.map fun p=>p.cps.toList).filter (fun p=>!p.isEmpty)
 | [],_=>rfl
 | [p],h=>by
  show wd [] p.cps.toList=_;have:=sL p.cps.toList [] [] (h p (Za.mpr rfl));rw[Wc,Qh]at this;rw[this];show em p.cps.toList=_;cases e:p.cps.toList with
  | nil=>simp[em,e]
  | cons a b=>simp[em,e]
 | p::q::r,h=>by
  have ih:=xA (q::r) fun a ha=>h a (Yb _ ha);show wd [] (p++⟨#[32]⟩++Str.join ⟨#[32]⟩ (q::r)).cps.toList=_;simp only[Av,Vh];rw[Wd,sL _ _ _ (h p (Va ..)),Qh];show(if 32=32 then em p.cps.toList++wd [] (Str.join ⟨#[32]⟩ (q::r)).cps.toList else _)=_;rw[Af rfl,ih];show _=((p.cps.toList)::((q::r).map fun p=>p.cps.toList)).filter (fun p=>!p.isEmpty);rw[BN];generalize ((q::r).map fun p=>p.cps.toList).filter (fun p=>!p.isEmpty)=z;cases e:p.cps.toList with
  | nil=>simp[em]
  | cons a b=>simp[em]
theorem CC (x:Str):((Txt.split x ⟨#[32]⟩).map fun p=>p.cps.toList).filter (fun p=>!p.isEmpty)=wd [] x.cps.toList:=by
 rw[← xA _ (StrLaws.split_free x 32),StrLaws.join_split]
def ft (ms:List Nat) (k:Nat):List Nat:=if k=10 then [32] else if k∈ms then [32,k,32] else [k]
def wt (ms acc l:List Nat):List (List Nat):=wd acc (l.flatMap (ft ms))
theorem KL {ms:List Nat} (h1:32∉ms) (h2:10∉ms) (l:List Nat):(l.flatMap (rp 10 [32])).flatMap (GE ms)=l.flatMap (ft ms):=by
 rw[List.flatMap_assoc];refine jT fun k _=>?_;by_cases e:k=10
 ·subst e;simp[rp,GE,ft,h1]
 ·simp[rp,GE,ft,e]
theorem IG (acc r:List Nat):wd acc (32::r)=em acc++wd [] r:=by
 show(if 32=32 then em acc++wd [] r else _)=_;rw[Af rfl]
theorem sM:em []=[]:=rfl
def y9 (k:Nat):Prop:=k=32∨k=10
theorem KM {ms acc r:List Nat} {k:Nat} (hk:y9 k) (h:32∉ms):wt ms acc (k::r)=em acc++wt ms [] r:=by
 unfold wt;rw[We];have:ft ms k=[32]:=by
  rcases hk with rfl|rfl
  ·simp[ft,h]
  ·simp[ft]
 rw[this];exact IG acc _
theorem CD {ms:List Nat} (h:32∉ms):∀{g:List Nat} (_:∀k∈g,y9 k) (r:List Nat),wt ms [] (g++r)=wt ms [] r
 | [],_,_=>rfl
 | k::g,hg,r=>by
  rw[Qi,KM (hg k (Va ..)) h,sM,Qh];exact CD h (fun j hj=>hg j (Yb _ hj)) r
theorem EJ {ms acc g:List Nat} (h:32∉ms) (hg:∀k∈g,y9 k) (hn:g≠[]) (r:List Nat):wt ms acc (g++r)=em acc++wt ms [] r:=by
 cases g with
 | nil=>exact absurd rfl hn
 | cons k g =>
  rw[Qi,KM (hg k (Va ..)) h];rw[CD h (fun j hj=>hg j (Yb _ hj)) r]
theorem EK {ms acc r:List Nat} {c:Nat} (hc:c∈ms) (h:32∉ms) (h2:10∉ms):wt ms acc (c::r)=em acc++[c]::wt ms [] r:=by
 unfold wt;rw[We];have e:¬ c=10:=fun e=>h2 (e ▸ hc);have e2:¬ c=32:=fun e=>h (e ▸ hc);have:ft ms c=[32,c,32]:=by simp[ft,e,hc]
 rw[this];show wd acc (32::c::32::_)=_;rw[IG];show _++(if c=32 then _ else wd ([]++[c]) (32::_))=_;rw[Ah e2,IG];rfl
def CF (ms:List Nat) (k:Nat):Prop:=k≠32/\k≠10/\k∉ms
theorem xB {ms:List Nat}:∀{u:List Nat} (_:∀k∈u,CF ms k) (acc r:List Nat),wt ms acc (u++r)=wt ms (acc++u) r
 | [],_,acc,r=>by simp
 | k::u,hu,acc,r=>by
  obtain⟨h1,h2,h3⟩:=hu k (Va ..);have ih:=xB (ms:=ms) (fun j hj=>hu j (Yb _ hj)) (acc++[k]) r;rw[Wd]at ih;rw[show acc++k::u=acc++([k]++u) from rfl,← ih];unfold wt;rw[Qi,We];have:ft ms k=[k]:=by simp[ft,h2,h3]
  rw[this];show(if k=32 then _ else wd (acc++[k]) _)=_;rw[Ah h1];rfl
theorem IH {ms acc:List Nat}:wt ms acc []=em acc:=rfl
end VT
namespace VL
open PySem L2 VF
def Lw (x:Str):Prop:=∀c∈x.cps.toList,97<=c/\c<=122
abbrev letS:Str:=Str.ofString "abcdefghijklmnopqrstuvwxyz"
theorem pJ:letS.cps.toList=List.range' 97 26:=by decide +kernel
def Nm (x:Str):Prop:=1<=x.length/\x.length<=6/\Lw x
theorem CG {ys:List Str} (h:∀y∈ys,∃c,y=⟨#[c]⟩/\97<=c/\c<=122):Lw (Txt.join (Str.ofString "") ys):=by
 intro c hc;have e:Txt.join (Str.ofString "") ys=Str.join (Str.ofString "") ys:=StrLaws.glued_eq_join _ _;rw[e]at hc;rcases(PyProof.Rows.mem_join _ _ _).mp hc with⟨t,ht,hct⟩|⟨_,z⟩
 ·obtain⟨c',rfl,h1⟩:=h t ht;have:c=c':=by simpa using hct
  rw[this];exact h1
 ·have hE:(Str.ofString "").cps.toList=[]:=by decide +kernel
  rw[hE]at z;cases z
theorem join_ones {ys:List Str} (h:∀y∈ys,∃c,y=(⟨#[c]⟩:Str)):(Txt.join (Str.ofString "") ys).length=ys.length :=
 PySem.W.KT.join_ones ys fun a ha=>by obtain⟨c,rfl⟩:=h a ha;rfl
theorem CH {ys:List Str} (h:∀y∈ys,∃c,y=(⟨#[c]⟩:Str)):(ys.map (·.length)).sum=ys.length:=by
 induction ys with
 | nil=>rfl
 | cons y r ih =>
  obtain⟨c,rfl⟩:=h y Va;rw[Ze,List.sum_cons,ih fun z hz=>h z (Yb _ hz)];show 1+r.length=r.length+1;lia
theorem Lw.app {x y:Str} (a:Lw x) (b:Lw y):Lw (x++y):=fun c hc=>by
 rw[Av,Vh]at hc;rcases Zc.mp hc with z|z
 ·exact a c z
 ·exact b c z
theorem CJ:Lw (Str.ofString ""):=fun c hc=>by
 have hE:(Str.ofString "").cps.toList=[]:=by decide +kernel
 rw[hE]at hc;cases hc
def word (s:Nat):Str:=Txt.mul ⟨#[97+s % 26]⟩ (1+((s:Nat):Int) / 26)
theorem kE (s:Nat):(word s).cps.toList=List.replicate (1+s / 26) (97+s % 26):=by
 unfold word;rw[PyProof.Rows.mul_one_list];have e:(1+((s:Nat):Int) / 26).toNat=1+s / 26:=by lia
 rw[e]
theorem uE (s:Nat):(word s).length=1+s / 26:=by
 have:=congrArg List.length (kE s);rw[Vi,Wh]at this;exact this
theorem CK {a b:Nat} (h:word a=word b):a=b:=by
 have h1:(word a).cps.toList=(word b).cps.toList:=by rw[h]
 rw[kE,kE]at h1;have h2:=congrArg List.length h1;rw[Vi,Vi]at h2;have h3:=congrArg (fun l=>l[0]?) h1;simp only[Xk]at h3;rw[Af (by lia),Af (by lia)]at h3
 have h4:=Option.some.inj h3;lia
theorem EL {s:Nat} (h:s<=120):Nm (word s):=by
 refine⟨by rw[uE];lia,by rw[uE];lia,fun c hc=>?_⟩
 rw[kE]at hc;have:=BT hc;lia
theorem yO {xs:List Str} {s:Nat} (h:∀j,j<s->word j∈xs):s<=xs.length:=by
 have:=t9 ((List.range s).map word) xs (by
  show List.Pairwise _ _;rw[List.pairwise_map];exact List.nodup_range.imp fun hne e=>hne (CK e)) (fun x hx=>by
  obtain⟨j,hj,rfl⟩:=Qc.mp hx
  exact h j (Yj.mp hj))
 rw[Xa,Yn]at this;exact this
theorem II (s:Nat):mf letS.cps.toList (((s:Nat):Int) % 26)=some (97+s % 26):=by
 have e:((s:Nat):Int) % 26=(((s % 26:Nat)):Int):=by lia
 rw[e];refine rN ?_;rw[pJ,List.getElem?_range' (by lia)]
 congr 1;lia
theorem pK {α:Type}:∀{l:List α} {i:Nat} (h:i<l.length),(l[i]::l.eraseIdx i).Perm l
 | _::_,0,_=>List.Perm.refl _
 | x::r,i+1,h=>(List.Perm.swap x _ _).trans (List.Perm.cons x (pK (l:=r) (i:=i) (BW h)))
abbrev minus:Str:=Str.ofString "-"
def bd (p:Bool×Str):Str:=if p.1 then minus++p.2 else p.2
theorem dX:minus.cps.toList=[45]:=by decide +kernel
theorem pL {p:Bool×Str} (h:Nm p.2):1<=(bd p).length/\(bd p).length<=7:=by
 have e:minus.length=1:=by decide +kernel
 unfold bd;split
 ·rw[Ao,e];have:=h.1;have:=h.2.1;lia
 ·have:=h.1;have:=h.2.1;lia
theorem sN {x y:Str} (h:x.cps.toList=y.cps.toList):x=y:=by
 cases x;cases y;have:_=_:=Array.toList_inj.mp h;exact congrArg Str.mk this
theorem CL {n:Str}:Txt.slice (minus++n) (some 1) none=n:=by
 have e:minus.length=1:=by decide +kernel
 rw[PyProof.Rows.slice_from_eq (i:=1) (b:=((minus++n).length:Int)) (by decide) (by rw[Ao,e];lia) rfl]
 refine sN ?_;show((List.drop 1 (minus++n).cps.toList).take _).toArray.toList=_;rw[Av,Vh,dX,Ao,e];show List.take _ n.cps.toList=_;refine Vm ?_;rw[Wh];show n.length<=_;lia
theorem yP {d:Int} {n:Str} (d0:0<=d) (d1:d<2):Txt.mul minus d++n=bd (decide (d=1),n):=by
 have h:d=0∨d=1:=by lia
 rcases h with rfl|rfl
 ·show(if (0:Int)<1 then Str.empty else _)++n=_;rw[Af (by decide)]
  exact Str.empty_append n
 ·rfl
theorem EM {n:Str} (h:Nm n):∃c r,n.cps.toList=c::r/\c≠45:=by
 cases e:n.cps.toList with
 | nil =>
  have h1:1<=n.length:=h.1;have:=congrArg List.length e;rw[Wh]at this;have h2:n.cps.size=n.length:=rfl;rw[h2]at this;simp at this;lia
 | cons c r =>
  refine⟨c,r,rfl,fun z=>?_⟩;have hc:=h.2.2 c (by rw[e];exact Va)
  lia
theorem yQ {t:Bool} {n:Str} (h:Nm n):Txt.startswith (bd (t,n)) minus=t:=by
 have e1:minus.length=1:=by decide +kernel
 have hl:=(pL (p:=(t,n)) h).1;unfold Txt.startswith
 rw[Ae (show 0+minus.length<=(bd (t,n)).length by lia),Bool.true_and,StrLaws.subAt_eq,dX,e1]
 cases t with
 | true =>
  show((((minus++n).cps.toList).drop 0).take 1 == [45])=true;rw[Av,Vh,dX];rfl
 | false =>
  obtain⟨c,r,e,hc⟩:=EM h;show(((n.cps.toList).drop 0).take 1 == [45])=false;rw[e];show([c] == [45])=false;simp[hc]
end VL
namespace VF22
open PySem L2 VF
theorem vV {X:Cx} {e:Expr} {t:TE} (h:xg X e t):PE X e t:=by
 unfold xg at h;exact h
theorem qu {X:Cx} {a0:Str} {j0:_} {p0:Pos} {q0:Pos} {a1:Str} {j1:_} {p1:Pos} {q1:Pos} {a2:Str} {j2:_} {p2:Pos} {q2:Pos} {a3:Str} {j3:_} {p3:Pos} {q3:Pos} {a4:Str} {j4:_} {p4:Pos} {a5:Str} {j5:_} {p5:Pos} {q4:Pos} {pos:Pos}:xg X (.List [.List [.Constant (.str a0) j0 p0] q0,.List [.Constant (.str a1) j1 p1] q1,.List [.Constant (.str a2) j2 p2] q2,.List [.Constant (.str a3) j3 p3] q3,.List [.Constant (.str a4) j4 p4,.Constant (.str a5) j5 p5] q4] pos) (g6 (br (g6 (br (tC (.str a0)) eG)) (br (g6 (br (tC (.str a1)) eG)) (br (g6 (br (tC (.str a2)) eG)) (br (g6 (br (tC (.str a3)) eG)) (br (g6 (br (tC (.str a4)) (br (tC (.str a5)) eG))) eG)))))):=ce (eI (ce (bp az bT rfl)) (eI (ce (bp az bT rfl)) (eI (ce (bp az bT rfl)) (eI (ce (bp az bT rfl)) (eI (ce (bp az (bp az bT rfl) rfl)) bT rfl) rfl) rfl) rfl) rfl)
theorem om {X:Cx} {a0:Str} {j0:_} {p0:Pos} {a1:Str} {j1:_} {p1:Pos} {q0:Pos} {a2:Str} {j2:_} {p2:Pos} {a3:Str} {j3:_} {p3:Pos} {q1:Pos} {a4:Str} {j4:_} {p4:Pos} {q2:Pos} {a5:Str} {j5:_} {p5:Pos} {q3:Pos} {a6:Str} {j6:_} {p6:Pos} {q4:Pos} {a7:Str} {j7:_} {p7:Pos} {q5:Pos} {pos:Pos}:xg X (.List [.List [.Constant (.str a0) j0 p0,.Constant (.str a1) j1 p1] q0,.List [.Constant (.str a2) j2 p2,.Constant (.str a3) j3 p3] q1,.List [.Constant (.str a4) j4 p4] q2,.List [.Constant (.str a5) j5 p5] q3,.List [.Constant (.str a6) j6 p6] q4,.List [.Constant (.str a7) j7 p7] q5] pos) (g6 (br (g6 (br (tC (.str a0)) (br (tC (.str a1)) eG))) (br (g6 (br (tC (.str a2)) (br (tC (.str a3)) eG))) (br (g6 (br (tC (.str a4)) eG)) (br (g6 (br (tC (.str a5)) eG)) (br (g6 (br (tC (.str a6)) eG)) (br (g6 (br (tC (.str a7)) eG)) eG))))))):=ce (eI (ce (bp az (bp az bT rfl) rfl)) (eI (ce (bp az (bp az bT rfl) rfl)) (eI (ce (bp az bT rfl)) (eI (ce (bp az bT rfl)) (eI (ce (bp az bT rfl)) (eI (ce (bp az bT rfl)) bT rfl) rfl) rfl) rfl) rfl) rfl)
theorem qv {X:Cx} {a0:Str} {j0:_} {p0:Pos} {a1:Str} {j1:_} {p1:Pos} {q0:Pos} {a2:Str} {j2:_} {p2:Pos} {a3:Str} {j3:_} {p3:Pos} {q1:Pos} {a4:Str} {j4:_} {p4:Pos} {q2:Pos} {a5:Str} {j5:_} {p5:Pos} {a6:Str} {j6:_} {p6:Pos} {q3:Pos} {a7:Str} {j7:_} {p7:Pos} {a8:Str} {j8:_} {p8:Pos} {q4:Pos} {pos:Pos}:xg X (.List [.List [.Constant (.str a0) j0 p0,.Constant (.str a1) j1 p1] q0,.List [.Constant (.str a2) j2 p2,.Constant (.str a3) j3 p3] q1,.List [.Constant (.str a4) j4 p4] q2,.List [.Constant (.str a5) j5 p5,.Constant (.str a6) j6 p6] q3,.List [.Constant (.str a7) j7 p7,.Constant (.str a8) j8 p8] q4] pos) (g6 (br (g6 (br (tC (.str a0)) (br (tC (.str a1)) eG))) (br (g6 (br (tC (.str a2)) (br (tC (.str a3)) eG))) (br (g6 (br (tC (.str a4)) eG)) (br (g6 (br (tC (.str a5)) (br (tC (.str a6)) eG))) (br (g6 (br (tC (.str a7)) (br (tC (.str a8)) eG))) eG)))))):=ce (eI (ce (bp az (bp az bT rfl) rfl)) (eI (ce (bp az (bp az bT rfl) rfl)) (eI (ce (bp az bT rfl)) (eI (ce (bp az (bp az bT rfl) rfl)) (eI (ce (bp az (bp az bT rfl) rfl)) bT rfl) rfl) rfl) rfl) rfl)
theorem cX {X:Cx} {s:Stmt} {t:L2.TS} (h:PS X s t):Dw X s t:=by
 unfold Dw;exact h
theorem xC {X:Cx} (i:Nat) {e:Expr} {te:TE} {x:Str} {pos' pos:Pos} (hN:X.N.Nodup) (he:xg X e te) (hi:X.N[i]?=some x:=by rfl) (hx:Loc X.env.scope x:=by first|exact Or.inl rfl|exact Or.inr rfl) (hf:X.fn x=true∨X.env.scope.names.lookup x=some .local:=by first|exact .inl rfl|exact .inr rfl|assumption)
  (hs:swapsWithSole [.Name x pos'] e pos.line X.env=pure false:=by rfl) (hw:swappedStores [.Name x pos'] e X.env=pure none:=by rfl) (h1:(assignEach [.Name x pos'] X.env).map (·.2)=[assign (.Name x pos') X.env]:=by rfl) :
  Dw X (.Assign [.Name x pos'] e pos) (rH te (jr i)):=by
 unfold xg at he;unfold Dw;exact bi i hN he hi hx hf hs hw h1
theorem EN {X:Cx} {ss:List Stmt} {t:L2.TS} (h:ol X ss t):PSs X ss t:=by
 unfold ol at h;exact h
theorem gy {X:Cx}:ol X [] zf:=by
 unfold ol;exact bz
theorem bG {X:Cx} {s:Stmt} {ss:List Stmt} {t u:L2.TS} (h1:Dw X s t) (h2:ol X ss u):ol X (s::ss) (DC t u):=by
 unfold Dw at h1;unfold ol at *;exact ai h1 h2
theorem jU {X:Cx} {c:Expr} {a b:List Stmt} {tc:TT} {t u:L2.TS} {pos:Pos} (hc:PT X c tc) (ha:ol X a t) (hb:ol X b u):Dw X (.If c a b pos) (DD tc t u):=by
 unfold ol at ha hb;unfold Dw;exact b8 hc ha hb
end VF22
namespace K05
open PySem L2 VF VF22 VX
noncomputable section
abbrev aJ:FE:=aW 0
abbrev ay:FE:=aW 1
abbrev bx:FE:=aW 2
abbrev cx:FE:=aW 3
abbrev bZ:FE:=aW 4
abbrev dh:FE:=aW 5
abbrev gG:FE:=aW 6
abbrev CM:FE:=aW 7
abbrev iQ:FE:=aW 8
abbrev CN:FE:=aW 9
abbrev sO:FE:=aW 10
abbrev EO:FE:=aW 11
abbrev EQ:FE:=aW 12
abbrev b7:FE:=fC (.int 0)
abbrev aV:FE:=fC (.int 1)
abbrev dN:FE:=fC (.int 2)
abbrev eP:FE:=fC (.int 3)
abbrev iC:FE:=fC (.int 4)
abbrev oG:FE:=fC (.int 5)
abbrev mD:FE:=fC (.int 6)
abbrev oH:FE:=fC (.int 7)
abbrev xD:FE:=fC (.int 8)
abbrev ES:FE:=fC (.int 9)
abbrev CO:FE:=fC (.int 10)
abbrev CP:FE:=fC (.int 11)
abbrev CQ:FE:=fC (.int 18)
abbrev CS:FE:=fC (.int 23)
abbrev pM:FE:=fC (.int 26)
abbrev vW:FE:=fC (.int 7919)
abbrev uF:FE:=fC (.int 40013)
abbrev uG:FE:=fC (.int 48271)
abbrev nY:FE:=fC (.int 65521)
abbrev kS:FE:=fC (.int 1000003)
abbrev pN:FE:=fC (.int 12820163)
abbrev iZ:FE:=fC (.int 2147483647)
def uH:FE :=
  (aL yt aJ (fC (.str "abcdefghijklmnopqrstuvwxyz")))
def rd:FS :=
  (aM (gP (lh (jH (aO (dL cc (ac aJ (ac (fC (.ty "str")) aj))))) (jH (aO (rZ HH HH aV (dL dQ (ac aJ aj)) mD)))) (bR (fC (.bl false))) bM)
  (bR (dL vE (ac (cY 1 [] (lB aJ) (gN 0) g8 uH) aj))))
def nq:List D->Option Rz:=cG rd 1 1
def nZ:FS :=
  (bR (Gd "str" wV aJ (ac (fC (.str "-")) aj)))
def gz:List D->Option Rz:=cG nZ 1 1
def re:FS :=
  (bR (Jo (aO (eV gz (ac aJ aj))) (gl D6 aJ (bC aV) gQ) aJ))
def i3:List D->Option Rz:=cG re 1 1
def rf:FS :=
  (bR (js (dL cc (ac aJ (ac (fC (.ty "str")) aj))) (eV nq (ac (eV i3 (ac aJ aj)) aj))))
def nr:List D->Option Rz:=cG rf 1 1
def sP:FS :=
  (gP (aO (dL cc (ac bx (ac (fC (.ty "str")) aj)))) (fz (fM qR dA 1 (ac bx aj))) (fz (fM qR sC 1 (ac (aL cK bx aV) aj))))
def jd:FS :=
  (aM (bn (bu aj) 1)
  (aM (kK (lB aJ) (gN 2) sP)
  (bR ay)))
def hU:List D->Option Rz:=cG jd 3 1
def mE:FT :=
  (aO (aL tM aJ (fC (.str ""))))
def mF:FE :=
  aJ
def je:FY :=
  (iX (Ck (jH (aO (dL cc (ac aJ (ac (fC (.ty "str")) aj))))) (kB "BadText") (tO bM))
  (iX (tO (bn (VT.fRepl "\n" " " aJ) 2))
  (iX (tO (VT.sFRep 3 2 " " " " ay))
  (tO (bR (cY 1 [] (lB (Gd "str" vP bx (ac (fC (.str " ")) aj))) (gN 0) mE mF))))))
def eY:List D->Option Rx:=gK je 4 2
def dY:List D->Option Rz:=cG (y7 je) 4 2
def jf:FE :=
  (eV nr (ac aJ aj))
def jg:FY :=
  (iX (Ck (jH (aO (dL vE (ac (cY 1 [] (lB aJ) (gN 0) g8 jf) aj)))) (kB "BadText") (tO bM))
  (tO (bR (dL fI (ac aJ aj)))))
def gb:List D->Option Rx:=gK jg 1 1
def hX:List D->Option Rz:=cG (y7 jg) 1 1
def gq:FY :=
  (iX (iB gb hX (ac (gl D6 aJ (bC aV) (bC (Dt qr aV))) aj) fun fe=>bn fe 1)
  (iX (Ck (lh (aO (xv true [("[","open"),("(","ring")] (aL cK aJ b7))) (lh (aO (aL tM (aL cK aJ (Dt qr aV)) (CA [("[","]"),("(",")")] (aL cK aJ b7)))) (aO (aL ju (dL dQ (ac ay aj)) b7)))) (kB "BadText") (tO bM))
  (tO (bR (r6 (ac (CA [("[","open"),("(","ring")] (aL cK aJ b7)) (ac ay aj)))))))
def cf:List D->Option Rx:=gK gq 2 1
def ci:List D->Option Rz:=cG (y7 gq) 2 1
def d9:FS :=
  (aM (fz (fM qR dA 2 (ac cx aj)))
  (gP (aO (aL yt cx (r6 (ac (fC (.str "]")) (ac (fC (.str ")")) aj))))) (aM (fz (fM qR dA 1 (ac bx aj)))
  (bn (bu aj) 2)) bM))
def jV:FS :=
  (aM (bn (bu aj) 1)
  (aM (bn (bu aj) 2)
  (aM (kK (lB aJ) (gN 3) d9)
  (aM (gP (aO (aL tM bx (bu aj))) (fz (fM qR dA 1 (ac bx aj))) bM)
  (bR ay)))))
def fR:List D->Option Rz:=cG jV 4 1
def gc:FS :=
  (aM (bn (eV i3 (ac bx aj)) 3)
  (aM (gP (aO (aL (Kv false) cx ay)) B2 bM)
  (qq Gq (fC (.bl true)) 1 cx)))
def jW:FS :=
  (aM (bn (B8 (.dk [])) 1)
  (kK (lB (dJ hU (ac aJ aj))) (gN 2) gc))
def fS:List D->Option Rz:=cG jW 4 1
def jh:FY :=
  (iX (yN eY (ac aJ (ac (fC (.str "[]()")) aj)) (mw 1 [] (lB (dJ fR (ac (dJ dY (ac aJ (ac (fC (.str "[]()")) aj))) aj))) (gN 0) g8 cf ci (ac aJ aj) fun fe=>bn (dL fI (ac fe aj)) 1))
  (iX (tO (fz (dJ fS (ac ay aj))))
  (tO (bR ay))))
def dZ:List D->Option Rx:=gK jh 2 1
def ji:List D->Option Rz:=cG (y7 jh) 2 1
def iD:FY :=
  (iX (iB eY dY (ac aJ (ac (fC (.str "|")) aj)) fun fe=>bn fe 1)
  (iX (Ck (lh (aO (aL HN (dL dQ (ac ay aj)) dN)) (lh (aO (aL tM (aL cK ay b7) (fC (.str "|")))) (aO (aL tM (aL cK ay (Dt qr aV)) (fC (.str "|")))))) (kB "BadText") (tO bM))
  (iX (iB gb hX (ac (gl D6 ay (bC aV) (bC (Dt qr aV))) aj) fun fe=>bn fe 2)
  (iX (tO (fz (dJ fS (ac bx aj))))
  (tO (bR bx))))))
def d6:List D->Option Rx:=gK iD 3 1
def iE:List D->Option Rz:=cG (y7 iD) 3 1
def pO:FS :=
  (bR (bu (ac (dL ja (ac aJ aj)) (ac b7 (ac b7 (ac aV (ac b7 aj)))))))
def lH:List D->Option Rz:=cG pO 1 1
def lJ:FS :=
  (aM (gP (mi (aO (aL ju (aL cK aJ dN) b7)) (aO (aL HN (aL cK aJ aV) (dL dQ (ac (aL cK aJ b7) aj))))) (aM (bn (aL cK (aL cK aJ b7) (aL cK aJ aV)) 2)
  (aM (qq pi (aL fB (aL cK aJ aV) aV) 0 aV)
  (gP (aO (aL Mj bx (aL JZ CO CQ))) (qq pi bx 0 dN) (qq pi (aL pf (aL fB (aL fB (aL mo (aL cK aJ eP) uF) (aL pf bx kS)) aV) iZ) 0 eP)))) bM)
  (aM (gP (aO (aL LQ (aL cK aJ dN) b7)) (aM (bn (aL pf (aL cK aJ dN) ay) 3)
  (aM (qq pi (aL vA (aL cK aJ dN) ay) 0 dN)
  (bR cx))) bM)
  (aM (qq pi (aL fB (aL cK aJ iC) aV) 0 iC)
  (aM (qq pi (aL pf (aL fB (aL fB (aL mo (aL cK aJ eP) uG) pN) (aL cK aJ iC)) iZ) 0 eP)
  (bR (aL pf (aL vA (aL pf (aL mo (aL fB (aL pf (aL cK aJ eP) nY) aV) (aL fB (aL vA (aL cK aJ eP) nY) vW)) kS) oH) ay))))))
def aD:D->List D->Option (Rz×D):=df lJ 4 2
def kT:FS :=
  (bR (Gd "str" zY (fC (.str "")) (ac (cY 1 [0] (lj (ac ay aj)) (gN 0) g8 (aL cK (fC (.str "abcdefghijklmnopqrstuvwxyz")) (eW aD 1 (ac pM aj)))) aj)))
def eM:D->List D->Option (Rz×D):=df kT 2 2
def pP:FS :=
  (aM (gP (aO (aL tM ay (fC (.str "")))) (bR (aL fB ay (eW eM 0 (ac (aL fB aV (eW aD 0 (ac dN aj))) aj)))) bM)
  (aM (gP (aO (aL ju (eW aD 0 (ac oH aj)) b7)) (aM (bn (bu (ix ["to","turn","turns","ring","rings","odd","ours","row","rows","cuts","knots","cover"])) 2)
  (aM (bn (aL fB bx (bu (ix ["change","joins","theirs","one","two","home","none","open","keep","tox","onex"]))) 2)
  (bR (aL cK bx (eW aD 0 (ac CS aj)))))) bM)
  (bR (eW eM 0 (ac (aL fB aV (eW aD 0 (ac mD aj))) aj)))))
def lK:D->List D->Option (Rz×D):=df pP 3 2
def jX:FS :=
  (aM (bn (fC (.str "")) 2)
  (aM (gP (aO (aL ju (eW aD 0 (ac eP aj)) b7)) (bn (eW eM 0 (ac (aL fB aV (eW aD 0 (ac iC aj))) aj)) 2) bM)
  (aM (bn (bu aj) 3)
  (aM (kK (lj (ac ay aj)) (gN 4) (aM (bn (eW lK 0 (ac bx aj)) 5)
  (aM (bn b7 6)
  (aM (Du (aO (aL yt dh cx)) (aM (bn (aL mo (aL cK (fC (.str "abcdefghijklmnopqrstuvwxyz")) (aL pf gG pM)) (aL fB aV (aL vA gG pM))) 5)
  (bn (aL fB gG aV) 6)) 200)
  (fz (fM qR dA 3 (ac dh aj)))))))
  (bR cx)))))
def jY:D->List D->Option (Rz×D):=df jX 7 2
def jZ:FS :=
  (aM (bn (dL ja (ac ay aj)) 2)
  (aM (bn (bu aj) 3)
  (aM (Du (aO (aL tM bx (bu aj))) (fz (fM qR dA 3 (ac (fM qR sw 2 (ac (eW aD 0 (ac (dL dQ (ac bx aj)) aj)) aj)) aj))) 300)
  (bR cx))))
def hY:D->List D->Option (Rz×D):=df jZ 4 2
def pQ:FS :=
  (bR (dL fI (ac (cY 1 [0] (lB (eW hY 0 (ac ay aj))) (gN 0) g8 (aL fB (aL mo (fC (.str "-")) (eW aD 1 (ac dN aj))) aJ)) aj)))
def ge:D->List D->Option (Rz×D):=df pQ 2 2
def uI:FS :=
  (aM (fz (fM qR dA 4 (ac dh aj)))
  (gP (aO (aL ju (eW aD 0 (ac eP aj)) b7)) (aM (fz (fM qR dA 3 (ac (r6 (ac (fC (.str "open")) (ac (dL fI (ac bZ aj)) aj))) aj)))
  (bn (bu aj) 4)) (gP (mi (aO bx) (aO (aL ju (eW aD 0 (ac eP aj)) b7))) (aM (fz (fM qR dA 3 (ac (r6 (ac (fC (.str "ring")) (ac (dL fI (ac bZ aj)) aj))) aj)))
  (bn (bu aj) 4)) bM)))
def nu:FS :=
  (aM (bn (bu aj) 3)
  (aM (bn (bu aj) 4)
  (aM (kK (lB (eW ge 0 (ac ay aj))) (gN 5) uI)
  (aM (gP (aO (aL tM bZ (bu aj))) (fz (fM qR dA 3 (ac (r6 (ac (fC (.str "open")) (ac (dL fI (ac bZ aj)) aj))) aj))) bM)
  (bR (dL fI (ac cx aj)))))))
def nA:D->List D->Option (Rz×D):=df nu 6 3
def n5 (gs:List D->Option Rz):FS :=
  (aM (gP (aO (aL (HL false) ay (fC .non))) (bR (aL (HL false) aJ (fC .non))) bM)
  (aM (gP (lh (aO (dL cc (ac ay (ac (fC (.ty "bool")) aj)))) (aO (dL cc (ac aJ (ac (fC (.ty "bool")) aj))))) (bR (js (dL cc (ac ay (ac (fC (.ty "bool")) aj))) (js (dL cc (ac aJ (ac (fC (.ty "bool")) aj))) (aL ju aJ ay)))) bM)
  (aM (gP (aO (dL cc (ac ay (ac (fC (.ty "int")) aj)))) (bR (js (dL cc (ac aJ (ac (fC (.ty "int")) aj))) (aL ju aJ ay))) bM)
  (aM (gP (aO (dL cc (ac ay (ac (fC (.ty "str")) aj)))) (bR (js (dL cc (ac aJ (ac (fC (.ty "str")) aj))) (aL ju aJ ay))) bM)
  (aM (gP (lh (aO (aL tM (dL cc (ac ay (ac (fC (.ty "tuple")) aj))) (dL cc (ac aJ (ac (fC (.ty "tuple")) aj))))) (aO (aL tM (dL cc (ac ay (ac (fC (.ty "list")) aj))) (dL cc (ac aJ (ac (fC (.ty "list")) aj)))))) (bR (fC (.bl false))) bM)
  (bR (js (aL ju (dL dQ (ac aJ aj)) (dL dQ (ac ay aj))) (dL vE (ac (cY 1 [0,1] (lj (ac (dL dQ (ac ay aj)) aj)) (gN 0) g8 (eV gs (ac (aL cK ay aJ) (ac (aL cK bx aJ) aj)))) aj)))))))))
def hZ:FS :=
  (aM (bn (bu (ac (fC (.str "[")) (ac (fC (.str "]")) aj))) 4)
  (aM (gP (aO (aL ju bx (fC (.str "ring")))) (bn (bu (ac (fC (.str "(")) (ac (fC (.str ")")) aj))) 4) bM)
  (bn (aL aR (aL aR (aL aR ay (gl bV bZ gQ (bC aV))) (dL ja (ac cx aj))) (gl bV bZ (bC aV) gQ)) 1)))
def mG:FS :=
  (aM (bn (bu aj) 1)
  (aM (kK (lB aJ) (gT 2 (DV (gN 2) (DV (gN 3) JW))) hZ)
  (bR ay)))
def gU:List D->Option Rz:=cG mG 5 1
def ia:FS :=
  (aM (bn (bu (ix [""," ","\n","  "," \n","\n     "])) 5)
  (aM (gP (mi (aO cx) (aO (aL iM bZ (bu (ix ["[","]","(",")","|"]))))) (bn (bu (ix [" ","\n","  ","\n "," ","     "])) 5) bM)
  (aM (bn (aL fB (aL fB bx (aL cK dh (eW aD 0 (ac mD aj)))) bZ) 2)
  (bn (aL iM bZ (bu (ix ["[","]","(",")","|"]))) 3))))
def mH:FS :=
  (aM (bn (fC (.str "")) 2)
  (aM (bn (fC (.bl false)) 3)
  (aM (kK (lB ay) (gN 4) ia)
  (bR (aL fB bx (aL cK (bu (ix [""," ","\n"," \n"])) (eW aD 0 (ac iC aj))))))))
def ef:D->List D->Option (Rz×D):=df mH 6 2
def kU:FS :=
  (aM (bn (bu (ac (fC (.str "-")) (ac (aL aR (fC (.str "--")) ay) (ac (aL aR ay (fC (.str "-"))) (ac (fC (.str "abcdefg")) (ac (fC (.str "-abcdefg")) (ac (fC (.str "A")) (ac (fC (.str "-Ab")) (ac (aL aR (aL aR ay (fC (.str "-"))) ay) (ac (fC (.str "a1")) (ac (aL aR (fC (.str "+")) ay) aj))))))))))) 2)
  (aM (bn (aL aR bx (bu (ac (aL aR ay (fC (.str ","))) (ac (fC (.str "a_b")) (ac (fC (.str "-a-b")) (ac (fC (.str ".")) (ac (fC (.str "*")) (ac (fC (.str "0")) (ac (fC (.str "a'")) (ac (fC (.str "aB")) (ac (fC (.str "-1")) (ac (fC (.str "~")) (ac (fC (.str "{")) (ac (fC (.str "a;b")) (ac (aL aR (fC (.str "#")) ay) aj))))))))))))))) 2)
  (bR (aL cK bx (eW aD 0 (ac (dL dQ (ac bx aj)) aj))))))
def eN:D->List D->Option (Rz×D):=df kU 3 2
def dD:FT :=
  (aO (aL yt (aL cK ay aJ) (bu (ix ["[","]","(",")"]))))
def dE:FE :=
  aJ
def dF:FT :=
  (aO (aL iM aJ ay))
def dG:FE :=
  aJ
def eZ:FT :=
  (aO (aL yt (aL cK ay aJ) (bu (ac (fC (.str "]")) (ac (fC (.str ")")) aj)))))
def fj:FE :=
  (aL aR aJ aV)
def fk:FT :=
  (aO (aL HN aJ ay))
def fq:FE :=
  aJ
def fu:FT :=
  (aO (aL LQ aJ ay))
def fv:FE :=
  aJ
def gf:FS :=
  (aM (bn (cY 1 [1] (lj (ac (dL dQ (ac ay aj)) aj)) (gN 0) dD dE) 2)
  (aM (bn (cY 1 [2] (lj (ac (dL dQ (ac ay aj)) aj)) (gN 0) dF dG) 3)
  (aM (bn (aL cK bx (eW aD 0 (ac (dL dQ (ac bx aj)) aj))) 4)
  (aM (bn (aL cK cx (eW aD 0 (ac (dL dQ (ac cx aj)) aj))) 5)
  (aM (bn (eW aD 0 (ac ES aj)) 6)
  (aM (gP (aO (aL ju gG b7)) (bR (aL aR (gl bV ay gQ (bC bZ)) (gl bV ay (bC (aL aR bZ aV)) gQ))) bM)
  (aM (gP (aO (aL ju gG aV)) (aM (bn (aL cK (fC (.str "()[]")) (Gd "str" Cu (fC (.str "[]()")) (ac (aL cK ay bZ) aj))) 7)
  (bR (aL aR (aL aR (gl bV ay gQ (bC bZ)) (bu (ac CM aj))) (gl bV ay (bC (aL aR bZ aV)) gQ)))) bM)
  (aM (gP (aO (aL ju gG dN)) (bR (aL aR (aL aR (gl bV ay gQ (bC bZ)) (bu (ac (aL cK ay bZ) aj))) (gl bV ay (bC bZ) gQ))) bM)
  (aM (gP (aO (aL ju gG eP)) (aM (bn (aL aR (bu (ac b7 aj)) (cY 1 [1] (lB bx) (gN 0) eZ fj)) 8)
  (aM (bn (aL cK iQ (eW aD 0 (ac (dL dQ (ac iQ aj)) aj))) 4)
  (aM (bn (bu (ac (bu (ac (fC (.str "[")) (ac (fC (.str "]")) aj))) (ac (bu (ac (fC (.str "(")) (ac (fC (.str ")")) aj))) (ac (bu (ac (fC (.str "|")) aj)) (ac (bu (ac (fC (.str "[")) aj)) (ac (bu (ac (fC (.str "]")) aj)) (ac (bu (ac (fC (.str "(")) aj)) aj))))))) 9)
  (aM (bn (aL aR CN (bu (ac (bu (ac (fC (.str ")")) aj)) (ac (bu (ac (fC (.str "zz")) aj)) (ac (bu (ac (fC (.str "-")) aj)) (ac (bu (ac (fC (.str ",")) aj)) (ac (bu (ac (fC (.str "|")) (ac (fC (.str "|")) aj))) aj))))))) 9)
  (bR (aL aR (aL aR (gl bV ay gQ (bC bZ)) (aL cK CN (eW aD 0 (ac CP aj)))) (gl bV ay (bC bZ) gQ))))))) bM)
  (aM (gP (aO (aL ju gG iC)) (bR (aL aR (aL aR (gl bV ay gQ (bC dh)) (bu (ac (eW eN 0 (ac (fC (.str "zz")) aj)) aj))) (gl bV ay (bC (aL aR dh aV)) gQ))) bM)
  (aM (gP (aO (aL ju gG oG)) (bR (aL aR (aL aR (gl bV ay gQ (bC dh)) (bu (ac (eW eN 0 (ac (fC (.str "zz")) aj)) aj))) (gl bV ay (bC dh) gQ))) bM)
  (aM (gP (aO (aL ju gG mD)) (bR (aL aR (aL aR (gl bV ay gQ (bC dh)) (bu (ac (fC (.str "-")) (ac (Gd "str" vO (aL cK ay dh) (ac (fC (.str "-")) aj)) aj)))) (gl bV ay (bC (aL aR dh aV)) gQ))) bM)
  (aM (gP (aO (aL ju gG oH)) (aM (bn (aL cK (bu (ac (bu (ac (fC (.str "(")) (ac (fC (.str ")")) aj))) (ac (bu (ac (fC (.str "[")) (ac (fC (.str "]")) aj))) (ac (bu (ac (fC (.str "|")) aj)) (ac (bu (ac (fC (.str "(")) (ac (fC (.str "|")) aj))) (ac (bu (ac (fC (.str "|")) (ac (fC (.str "|")) aj))) aj)))))) (eW aD 0 (ac oG aj))) 10)
  (aM (bn (aL aR (aL aR (gl bV sO gQ (bC aV)) (bu (ac (aL cK ay dh) aj))) (gl bV sO (bC aV) gQ)) 10)
  (bR (aL aR (aL aR (gl bV ay gQ (bC dh)) sO) (gl bV ay (bC (aL aR dh aV)) gQ))))) bM)
  (aM (bn (dL (pC true) (ac (cY 1 [5] (lB bx) (gN 0) fk fq) aj)) 11)
  (aM (bn (dL (pC false) (ac (cY 1 [5] (lB bx) (gN 0) fu fv) aj)) 12)
  (bR (aL aR (gl bV ay gQ (bC (aL aR EO aV))) (gl bV ay (bC EQ) gQ))))))))))))))))))
def eh:D->List D->Option (Rz×D):=df gf 13 2
def dO:FS :=
  (aM (bn (eW aD 0 (ac xD aj)) 2)
  (aM (bn (aL cK (bu (ac b7 (ac (aL yr (dL dQ (ac ay aj)) aV) aj))) (eW aD 0 (ac dN aj))) 3)
  (aM (bn (aL aR aV (eW aD 0 (ac (aL yr (dL dQ (ac ay aj)) aV) aj))) 4)
  (aM (gP (aO (aL ju bx b7)) (bR (aL aR (gl bV ay gQ (bC cx)) (gl bV ay (bC (aL aR cx aV)) gQ))) bM)
  (aM (gP (aO (aL ju bx aV)) (bR (aL aR (aL aR (gl bV ay gQ (bC cx)) (bu (ac (aL cK (bu (ix ["[","]","(",")","zz"])) (eW aD 0 (ac oG aj))) aj))) (gl bV ay (bC (aL aR cx aV)) gQ))) bM)
  (aM (gP (aO (aL ju bx dN)) (aM (bn (eW aD 0 (ac (aL aR (dL dQ (ac ay aj)) aV) aj)) 5)
  (bR (aL aR (aL aR (gl bV ay gQ (bC dh)) (bu (ac (fC (.str "|")) aj))) (gl bV ay (bC dh) gQ)))) bM)
  (aM (gP (aO (aL ju bx eP)) (bR (aL cK (bu (ac (aL aR (bu (ac (fC (.str "zz")) aj)) ay) (ac (aL aR ay (bu (ac (fC (.str "zz")) aj))) (ac (aL aR (aL aR (bu (ac (fC (.str "[")) aj)) ay) (bu (ac (fC (.str "]")) aj))) aj)))) (eW aD 0 (ac eP aj)))) bM)
  (aM (gP (aO (aL ju bx iC)) (bR (aL aR (aL aR (gl bV ay gQ (bC bZ)) (bu (ac (eW eN 0 (ac (fC (.str "zz")) aj)) aj))) (gl bV ay (bC bZ) gQ))) bM)
  (aM (gP (aO (aL ju bx oH)) (bR (bu aj)) bM)
  (aM (gP (aO (aL ju bx oG)) (bR (aL aR (aL aR (gl bV ay gQ (bC bZ)) (bu (ac (aL cK (bu (ix ["[","]","(",")"])) (eW aD 0 (ac iC aj))) aj))) (gl bV ay (bC bZ) gQ))) bM)
  (bR (aL aR (aL aR (gl bV ay gQ (bC bZ)) (bu (ac (fC (.str "-")) (ac (fC (.str "zz")) aj)))) (gl bV ay (bC bZ) gQ)))))))))))))
def cT:D->List D->Option (Rz×D):=df dO 6 2
def ie:FY :=
  (iX (Ck (aO aJ) (iB d6 iE (ac ay aj) bR) (tO bM))
  (iB dZ ji (ac ay aj) bR))
def lO:List D->Option Rx:=gK ie 2 2
def fw:List D->Option Rz:=cG (y7 ie) 2 2
def kX:FS :=
  (aM (bn (fC (.bl false)) 2)
  (aM (xl lO fw (ac aJ (ac ay aj)) 3 ["BadText"] (aM (bn (js (qt [("BadText",true)] cx) (js (qt [("BadText",true)] cx) (ua (qt [("BadText",false)] cx)))) 2)
  (bn (js bx (ua (qt [("BadText",false)] cx))) 2)))
  (bR bx)))
def eO:List D->Option Rz:=cG kX 4 2
def xE:FS :=
  (aM (gP (lh (jH (aO (eV eO (ac (aL B1 iQ aV) (ac (aL cK gG iQ) aj))))) (jH (aO (eV eO (ac (aL B1 iQ aV) (ac (aL cK dh (aL yr aV iQ)) aj)))))) (bR (fC (.bl false))) bM)
  (aM (gP (jH (aO (eV eO (ac (aL B1 iQ aV) (ac CM aj))))) (bR (fC (.bl false))) bM)
  (gP (jH (aO (eV (eX 4) (ac (dJ fw (ac (aL B1 iQ aV) (ac (aL cK dh iQ) aj))) (ac (aL cK (r6 (ac cx (ac bZ aj))) iQ) aj))))) (bR (fC (.bl false))) bM)))
def GF:FS :=
  (aM (bn (dJ lH (ac aJ aj)) 1)
  (aM (bn (eW jY 1 (ac (aL aR aV (eW aD 1 (ac mD aj))) aj)) 2)
  (aM (bn (Ec nA 1 [.bl true] (ac bx aj)) 3)
  (aM (bn (eW ge 1 (ac (gl bV bx (bC (aL mo (eW aD 1 (ac dN aj)) (dL dQ (ac bx aj)))) gQ) aj)) 4)
  (aM (bn (bu (ac (eW ef 1 (ac (dJ gU (ac cx aj)) aj)) (ac (eW ef 1 (ac (aL aR (aL aR (bu (ac (fC (.str "|")) aj)) (dL ja (ac bZ aj))) (bu (ac (fC (.str "|")) aj))) aj)) aj))) 5)
  (aM (bn (bu (ac (eW ef 1 (ac (eW eh 1 (ac (dJ gU (ac cx aj)) aj)) aj)) aj)) 6)
  (aM (fz (fM qR dA 6 (ac (eW ef 1 (ac (eW cT 1 (ac (aL aR (aL aR (bu (ac (fC (.str "|")) aj)) (dL ja (ac bZ aj))) (bu (ac (fC (.str "|")) aj))) aj)) aj)) aj)))
  (aM (bn (aL cK (bu (ac (fC .non) (ac b7 (ac (fC (.bl true)) (ac (dL ja (ac dh aj)) (ac (dL fI (ac dh aj)) (ac (B8 (.dk [])) (ac cx (ac bZ aj))))))))) (eW aD 1 (ac xD aj))) 7)
  (aM (kK (lj (ac dN aj)) (gN 8) xE)
  (bR (fC (.bl true))))))))))))
end
end K05
namespace K05
open PySem L2 VF VF22 VX
abbrev yR:List Str:=["thing"]
abbrev ET:List Str:=["words"]
abbrev EU:List Str:=["_law_flow_here","_law_many"]
abbrev GG:List Str:=["bead"]
abbrev IJ:List Str:=["_law_flow_here","_law_tokens_here","_law_marks","_law_words","_law_at","_law_word","_law_way","_law_mark","_law_places","_law_more","_law_nest","_law_ahead","_law_later"]
abbrev Ju:List Str:=["_law_script"]
abbrev Jv:List Str:=["_law_found","_law_due"]
abbrev Jw:List Str:=["_law_flow_here","_law_tokens_here"]
abbrev Jx:List Str:=["_law_lined","_law_text"]
abbrev KN:List Str:=["_law_flow_here","_law_names_here"]
abbrev EV:List Str:=["_law_k","_law_tokens_here"]
abbrev EW:List Str:=["_law_k","_law_word"]
abbrev IK:List Str:=["text","marks","spaced","mark"]
abbrev KO:List Str:=["_law_flow_here","_law_many","_law_cell","_law_digit"]
abbrev KP:List Str:=["_law_flow_here","_law_stem","_law_words"]
abbrev KQ:List Str:=["_law_flow_here","_law_many","_law_stem","_law_names_here","_law_k","_law_name_here","_law_spare"]
abbrev KR:List Str:=["_law_flow_here","_law_things","_law_left","_law_told"]
abbrev KS:List Str:=["_law_flow_here","_law_names_here","_law_rings","_law_strands","_law_piece","_law_bead"]
abbrev KU:List Str:=["_law_flow_here","_law_names_here","_law_rings"]
abbrev KW:List Str:=["_law_some","_law_tokens_here","_law_kind","_law_beads","_law_marks"]
abbrev KY:List Str:=["_law_flow_here","_law_tokens_here","_law_text","_law_word","_law_token","_law_gaps"]
abbrev KZ:List Str:=["_law_flow_here","_law_name_here","_law_things"]
abbrev K1:List Str:=["_law_flow_here","_law_tokens_here","_law_way","_law_at","_law_inner","_law_outer"]
abbrev K2:List Str:=["_law_lined","_law_text","_law_good","e"]
abbrev K3:List Str:=["_law_script","_law_flow_here","_law_names_here","_law_some","_law_line_here","_law_texts","_law_spoilt","_law_no_text","_law_k"]
def top (i:Nat):Stmt:=PySem.Challenge.pw_strandwright_k05_what_writes_none.main.body.getD i (.Pass ⟨0,0,0,0⟩)
abbrev oJ:Stmt:=top 3
abbrev nB:Stmt:=top 4
abbrev sQ:Stmt:=top 5
abbrev sR:Stmt:=top 6
abbrev pR:Stmt:=top 7
abbrev mI:Stmt:=top 20
abbrev mJ:Stmt:=top 21
abbrev kc:Stmt:=top 22
abbrev jj:Stmt:=top 23
abbrev jk:Stmt:=top 24
abbrev mK:Stmt:=top 25
abbrev nC:Stmt:=top 26
abbrev vX:Stmt:=top 28
abbrev vY:Stmt:=top 29
abbrev kG:Stmt:=top 30
abbrev vZ:Stmt:=top 31
abbrev sS:Stmt:=top 32
abbrev lQ:Stmt:=top 33
abbrev sT:Stmt:=top 34
abbrev CT:Stmt:=top 35
abbrev oK:Stmt:=top 36
abbrev pS:Stmt:=top 37
abbrev pT:Stmt:=top 38
abbrev pU:Stmt:=top 39
abbrev di:Stmt:=top 40
abbrev jl:Stmt:=top 41
abbrev v0:Stmt:=top 42
abbrev nF:Stmt:=top 43
abbrev IL:Stmt:=top 44
theorem v4:FnScope yR yR (ar oJ):=jb (by decide +kernel)
theorem sU:FnScope GG GG (ar nB):=jb (by decide +kernel)
theorem v5:FnScope GG GG (ar sQ):=jb (by decide +kernel)
theorem v6:FnScope yR yR (ar sR):=jb (by decide +kernel)
theorem sc_sbeadsin:FnScope ["thing","beads","part"] yR (ar pR):=jb (by decide +kernel)
theorem sc_swordsof:FnScope IK ["text","marks"] (ar mI):=jb (by decide +kernel)
theorem uJ:FnScope ET ET (ar mJ):=jb (by decide +kernel)
theorem sc_sreadstrand:FnScope ["words","beads"] ET (ar kc):=jb (by decide +kernel)
theorem sc_sstrandwords:FnScope ["words","groups","group","word"] ET (ar jj):=jb (by decide +kernel)
theorem sc_srefusetwice:FnScope ["thing","seen","bead","name"] yR (ar jk):=jb (by decide +kernel)
theorem sc_sreadset:FnScope ["text","some"] ["text"] (ar mK):=jb (by decide +kernel)
theorem sc_sreadline:FnScope ["text","words","line"] ["text"] (ar nC):=jb (by decide +kernel)
theorem yS:FnScope Ju Ju (ar vX):=jb (by decide +kernel)
theorem sc_sLpick:FnScope KO EU (ar vY):=jb (by decide +kernel)
theorem sV:FnScope EU EU (ar kG):=jb (by decide +kernel)
theorem sc_sLname:FnScope KP ["_law_flow_here","_law_stem"] (ar vZ):=jb (by decide +kernel)
theorem sc_sLnames:FnScope KQ EU (ar sS):=jb (by decide +kernel)
theorem sc_sLshuffled:FnScope KR ["_law_flow_here","_law_things"] (ar lQ):=jb (by decide +kernel)
theorem yT:FnScope KN KN (ar sT):=jb (by decide +kernel)
theorem sc_sLset:FnScope KS KU (ar CT):=jb (by decide +kernel)
theorem v7:FnScope Jv Jv (ar oK):=jb (by decide +kernel)
theorem sc_sLtokens:FnScope KW ["_law_some"] (ar pS):=jb (by decide +kernel)
theorem sc_sLspaced:FnScope KY Jw (ar pT):=jb (by decide +kernel)
theorem sc_sLnobead:FnScope KZ ["_law_flow_here","_law_name_here"] (ar pU):=jb (by decide +kernel)
theorem sc_sLspoiltset:FnScope IJ Jw (ar di):=jb (by decide +kernel)
theorem sc_sLspoiltline:FnScope K1 Jw (ar jl):=jb (by decide +kernel)
theorem yU:FnScope Jx Jx (ar v0):=jb (by decide +kernel)
theorem sc_sLrefused:FnScope K2 Jx (ar nF):=jb (by decide +kernel)
theorem sc_slaw:FnScope K3 Ju (ar IL):=jb (by decide +kernel)
structure Md (P:Program) (w:World) (K:PySem.W.Frag) (mg:Str->Option Value):Prop where
 n_ValueError:mg "ValueError"=none
 n_all:mg "all"=none
 n_bool:mg "bool"=none
 n_int:mg "int"=none
 n_isinstance:mg "isinstance"=none
 n_len:mg "len"=none
 n_list:mg "list"=none
 n_max:mg "max"=none
 n_min:mg "min"=none
 n_range:mg "range"=none
 n_str:mg "str"=none
 n_tuple:mg "tuple"=none
 c_LETTERS:∃t,mg "LETTERS"=some (.str "abcdefghijklmnopqrstuvwxyz" t)
 c_LONGEST_NAME:∃t,mg "LONGEST_NAME"=some (.int 6 t)
 c_KIND_OF:LH P w K mg "KIND_OF" [("[","open"),("(","ring")]
 c_CLOSE_OF:LH P w K mg "CLOSE_OF" [("[","]"),("(",")")]
abbrev n6:Stmt:=KB (top 10) 0
theorem EX:FnScope ["self"] ["self"] (ar n6):=jb (by decide +kernel)
structure Zs (K:PySem.W.Frag) (mg:Str->Option Value) (cB c_Twice c_Lacks c_NoDeed c_NoKind c_NoRow c_NotLet:Addr):Prop where
 m_Twice:mg "Twice"=some (.ref c_Twice)
 m_Lacks:mg "Lacks"=some (.ref c_Lacks)
 m_NoDeed:mg "NoDeed"=some (.ref c_NoDeed)
 m_NoKind:mg "NoKind"=some (.ref c_NoKind)
 m_NoRow:mg "NoRow"=some (.ref c_NoRow)
 m_NotLet:mg "NotLet"=some (.ref c_NotLet)
 j_BadText:PySem.W.kitOne K (.ref cB) (.ref cB)=some true
 j_VE:PySem.W.kitOne K (.ref cB) (.type "ValueError")=some true
 t_0:PySem.W.kitAny K (.ref cB) [.ref c_Twice,.ref c_Lacks]=some false
 t_1:PySem.W.kitAny K (.ref cB) [.ref c_NoDeed,.ref c_NoKind,.ref c_NoRow,.ref c_NotLet]=some false
end K05
namespace VF
open PySem L2
theorem sW {i j:Int} (h:CMul i j):mo (.int i) (.int j)=some (.int (i*j),false):=by
 have:wT (.int i) (.int j)=some (.int (i*j),false):=by
  show(if CMul i j then some (D.int (i*j),false) else none)=_;rw[Af h]
 unfold mo ng;rw[this]
theorem CU {i j:Int} (h:0<j):pf (.int i) (.int j)=some (.int (i % j),false):=by
 show(if 0<j then some (D.int (i % j),false) else none)=_;rw[Af h]
theorem IM {i j:Int} (h:vk i j):vA (.int i) (.int j)=some (.int (i / j),false):=by
 show(if vk i j then some (D.int (i / j),false) else none)=_;rw[Af h]
theorem cy {ds:List D} {i:Int} {d:D} (h:mf ds i=some d):cK (.lst ds) (.int i)=some (d,false):=by
 have:zT (.lst ds) (.int i)=some (d,false):=by
  show(mf ds i).bind (fun d=>some (d,false))=_;rw[h];rfl
 unfold cK ng;rw[this]
theorem ix_tup {ds:List D} {i:Int} {d:D} (h:mf ds i=some d):cK (.tup ds) (.int i)=some (d,false):=by
 have e1:zT (.tup ds) (.int i)=none:=rfl;have:D5 (.tup ds) (.int i)=some (d,false):=by
  show(mf ds i).bind (fun d=>some (d,false))=_;rw[h];rfl
 unfold cK ng;rw[e1,this]
theorem dR {f:FT} {st s:En} {b c:Bool} (h:f st=some (b,s)) (e:b=c):f st=some (c,s):=e ▸ h
theorem sX {mm:D->D->D->Option D} {fe fi:FE} {i:Nat} {st s1 s2 s3:En} {r rk:Rs} {dv dk z z':D} {t t0:Sl} {x0:D} (h1:fe st=some (r,s1)) (h2:esc r s1=some (dv,s2)) (h0:s2[i]?=some t0) (h00:t0.ow=some x0) (h3:fi s2=some (rk,s3)) (h4:cont s3 rk=some dk) (h5:s3[i]?=some t) (h6:t.ow=some z) (h7:mm z dk dv=some z') {s4:En} (h8:s3.set i (t.put z')=s4:=by rfl):qq mm fe i fi st=some (.nx s4):=by
 simp only[qq,h1,h2,h0,h00,h3,h4,h5,h6,h7,h8,Ya]
end VF
namespace K05
open PySem L2 VF
def Fl (ns:List Int) (i m sd c:Int):D:=.lst [.lst (ns.map D.int),.int i,.int m,.int sd,.int c]
def cC (φ:D):Prop:=∃ns i m sd c,φ=Fl ns i m sd c/\0<=i/\0<=m/\0<=sd/\0<=c
theorem EY (ns:List Int):lH [.fl (ns.map D.int)]=some (Fl ns 0 0 1 0,true):=rfl
theorem bK {φ : D} {n : Int} (hφ : cC φ) (h0 : 0 < n) (h1 : n ≤ 1000) : ∃ d φ', aD φ [.int n] = some ((.int d, false), φ') ∧ 0 ≤ d ∧ d < n ∧ cC φ' := by
  obtain ⟨ns, i, m, sd, c, rfl, hi, hm, hs, hc⟩ := hφ;have sp : ∃ A B, lJ = aM A B ∧
     (∃ o i' m' sd', A [.io (Fl ns i m sd c), .v (.int n), .e, .e] = some (.nx [.io (Fl ns i' m' sd' c), .v (.int n), o, .e]) ∧ 0 ≤ i' ∧ 0 ≤ m' ∧ 0 ≤ sd') ∧
     (∀ o i m sd, 0 ≤ i → 0 ≤ m → 0 ≤ sd → ∃ d φ' s3, B [.io (Fl ns i m sd c), .v (.int n), o, .e] = some (.rt (.d (.int d)) [.io φ', .v (.int n), o, s3]) ∧ 0 ≤ d ∧ d < n ∧ cC φ') := by
    refine ⟨_, _, rfl, ?_, ?_⟩
    · by_cases c1 : m = 0
      · subst c1
        by_cases c2 : i < ((ns.map D.int).length : Int)
        · obtain ⟨v, hv, hm', _⟩ := fF hi c2
          obtain ⟨z, _, rfl⟩ := List.mem_map.mp hm';have t2 : mi (aO (aL ju (aL cK (aW 0) (fC (.int 2))) (fC (.int 0)))) (aO (aL HN (aL cK (aW 0) (fC (.int 1))) (dL dQ (ac (aL cK (aW 0) (fC (.int 0))) aj)))) [.io (Fl ns i 0 sd c), .v (.int n), .e, .e] = some (true, [.io (Fl ns i 0 sd c), .v (.int n), .e, .e]) :=
            qT rfl (dR (b := decide (i < ((ns.map D.int).length : Int))) rfl (Ae c2))
          by_cases c3 : (10 : Int) ^ (18 : Int).toNat ≤ z
          · have p18 : (0 : Int) ≤ 10 ^ (18 : Int).toNat := by decide
            refine ⟨.v (.int z), i + 1, z, sd, ?_, by lia, by lia, hs⟩
            refine iW t2 ?_;refine af (cH (x := .int z) (aq rfl rfl rfl rfl (cy hv)) rfl) ?_;refine af (s := [.io (Fl ns (i + 1) 0 sd c), .v (.int n), .v (.int z), .e]) rfl ?_;refine iW (dR (b := decide ((10 : Int) ^ (18 : Int).toNat ≤ z)) (s := [.io (Fl ns (i + 1) 0 sd c), .v (.int n), .v (.int z), .e]) rfl (Ae c3)) ?_;rfl
          · refine ⟨.v (.int z), i + 1, 0, (sd * 40013 + z % 1000003 + 1) % 2147483647, ?_, by lia, by lia, AW _ (by decide)⟩
            refine iW t2 ?_;refine af (cH (x := .int z) (aq rfl rfl rfl rfl (cy hv)) rfl) ?_;refine af (s := [.io (Fl ns (i + 1) 0 sd c), .v (.int n), .v (.int z), .e]) rfl ?_;refine gE (dR (b := decide ((10 : Int) ^ (18 : Int).toNat ≤ z)) (s := [.io (Fl ns (i + 1) 0 sd c), .v (.int n), .v (.int z), .e]) rfl (Ag c3)) ?_;exact sX (aq (aq (aq (aq rfl rfl rfl rfl (sW (j := 40013) (.inr ⟨by decide, by decide⟩))) rfl rfl rfl rfl) rfl rfl rfl rfl) rfl rfl rfl rfl) rfl rfl rfl rfl rfl rfl rfl rfl
        · refine ⟨.e, i, 0, sd, ?_, hi, hm, hs⟩
          exact gE (qT (s := [.io (Fl ns i 0 sd c), .v (.int n), .e, .e]) rfl (dR (b := decide (i < ((ns.map D.int).length : Int))) rfl (Ag c2))) rfl
      · refine ⟨.e, i, m, sd, ?_, hi, hm, hs⟩
        have e : decide (V.int m = V.int 0) = false := Ag fun z => c1 (V.int.inj z);exact gE (Gh (dR (b := decide (V.int m = V.int 0)) (s := [.io (Fl ns i m sd c), .v (.int n), .e, .e]) rfl e)) rfl
    · intro o i m sd hi hm hs
      by_cases c1 : 0 < m
      · refine ⟨m % n, Fl ns i (m / n) sd c, .v (.int (m % n)), ?_, AW _ (by lia), BC _ h0, ⟨ns, i, m / n, sd, c, rfl, hi, Int.ediv_nonneg hm (by lia), hs, hc⟩⟩
        refine cW ?_;refine iW (dR (b := decide (0 < m)) (s := [.io (Fl ns i m sd c), .v (.int n), o, .e]) rfl (Ae c1)) ?_;refine af (s := [.io (Fl ns i m sd c), .v (.int n), o, .v (.int (m % n))]) (cH (aq rfl rfl rfl rfl (CU h0)) rfl) ?_;refine af (s := [.io (Fl ns i (m / n) sd c), .v (.int n), o, .v (.int (m % n))]) (sX (aq rfl rfl rfl rfl (IM ⟨h0, by lia⟩)) rfl rfl rfl rfl rfl rfl rfl rfl) ?_
        rfl
      · refine ⟨(((sd * 48271 + 12820163 + (c + 1)) % 2147483647 % 65521 + 1) * ((sd * 48271 + 12820163 + (c + 1)) % 2147483647 / 65521 + 7919) % 1000003 / 7) % n, Fl ns i m ((sd * 48271 + 12820163 + (c + 1)) % 2147483647) (c + 1), .e, ?_, ?_, ?_, ⟨ns, i, m, _, _, rfl, hi, hm, AW _ (by decide), by lia⟩⟩
        · refine af (gE (dR (b := decide (0 < m)) (s := [.io (Fl ns i m sd c), .v (.int n), o, .e]) rfl (Ag c1)) rfl) ?_
          refine af (s := [.io (Fl ns i m sd (c + 1)), .v (.int n), o, .e]) rfl ?_;refine af (s := [.io (Fl ns i m ((sd * 48271 + 12820163 + (c + 1)) % 2147483647) (c + 1)), .v (.int n), o, .e]) (sX (aq (aq (aq (aq rfl rfl rfl rfl (sW (j := 48271) (.inr ⟨by decide, by decide⟩))) rfl rfl rfl rfl) rfl rfl rfl rfl) rfl rfl rfl rfl) rfl rfl rfl rfl rfl rfl rfl rfl) ?_
          have a := AW ((sd * 48271 + 12820163 + (c + 1)) % 2147483647) (show (65521 : Int) ≠ 0 by decide)
          have b := BC ((sd * 48271 + 12820163 + (c + 1)) % 2147483647) (show (0 : Int) < 65521 by decide)
          exact bE (aq (aq (aq (aq rfl rfl rfl rfl (sW (.inl ⟨by lia, by lia⟩))) rfl rfl rfl rfl) rfl rfl rfl rfl) rfl rfl rfl (CU h0))
        · exact AW _ (by lia)
        · exact BC _ h0
  obtain ⟨A, B, eF, ⟨o, i', m', sd', eA, hi', hm', hs'⟩, hB⟩ := sp;obtain ⟨d, φ', s3, eB, h2, h3, h4⟩ := hB o i' m' sd' hi' hm' hs';refine ⟨d, φ', ?_, h2, h3, h4⟩;refine cu (o := .rt (.d (.int d)) [.io φ', .v (.int n), o, s3]) rfl ?_ rfl;rw [eF];exact af eA eB
end K05
namespace K05
open PySem L2 VF VL
theorem lR {φ:D} {k:Int} (hφ:cC φ) (h0:0<=k) (h1:k<=100):∃x φ',eM φ [.int k]=some ((.str x,false),φ')/\(x.length:Int)=k/\Lw x/\cC φ':=by
 have hE:(Str.ofString "").length=0:=by decide +kernel
 have cl:=qV (fg:=gN 0) (fc:=g8) (k:=1) (fe:=aL cK (fC (.str "abcdefghijklmnopqrstuvwxyz")) (eW aD 1 (ac (fC (.int 26)) aj)))
  (fun pre sb=>∃φ' ys,sb=[.e,.io φ']/\cC φ'/\pre=ys.map D.str/\∀y∈ys,∃c,y=(⟨#[c]⟩:Str)/\97<=c/\c<=122) (by
   rintro pre x sb ⟨φ',ys,rfl,hf,rfl,hy⟩;obtain⟨d,φ2,e,d0,d1,hf2⟩:=bK (n:=26) hf (by decide) (by decide)
   obtain⟨c,hc,hm,_⟩:=fF (xs:=letS.cps.toList) d0 (by rw[pJ,List.length_range'];exact d1)
   refine⟨[.v x,.io φ'],[.v x,.io φ'],.d (.str ⟨#[c]⟩),[.v x,.io φ2],.str ⟨#[c]⟩,[.v x,.io φ2],rfl,rfl,aq rfl (bJ rfl rfl rfl rfl rfl rfl e) rfl rfl (ix_str (by decide +kernel) hc),rfl,φ2,ys++[⟨#[c]⟩],rfl,hf2,by rw[Qd];rfl,fun y hy2=>?_⟩
   rcases Zc.mp hy2 with z|z
   ·exact hy y z
   ·have:y=⟨#[c]⟩:=by simpa using z
    rw[pJ,List.mem_range'_1]at hm
    exact⟨c,this,by lia⟩)
  (rng 0 k.toNat) [] [.e,.io φ] ⟨φ,[],rfl,hφ,rfl,fun y hy=>by cases hy⟩
 obtain⟨ds,sf,e1,e2,φ',ys,rfl,hf,e3,hy⟩:=cl;rw[Qh]at e3;subst e3;rw[iu,Xa]at e2;have hy':∀y∈ys,∃c,y=(⟨#[c]⟩:Str):=fun y h=>by obtain⟨c,e,_⟩:=hy y h;exact⟨c,e⟩
 refine⟨Txt.join (Str.ofString "") ys,φ',?_,by rw[join_ones hy'];lia,CG hy,hf⟩
 have hj:zY (.str "") [.lst (ys.map D.str)]=some (.str (Txt.join (Str.ofString "") ys),false):=by
  show(ni (ys.map D.str)).bind (fun ys=>if (ys.map (·.length)).sum+ys.length*(Str.ofString "").length<=16777216 then some (D.str (Txt.join (Str.ofString "") ys),false) else none)=_;rw[pq];show(if _ then _ else _)=_;rw[Af (by rw[CH hy',hE];lia)]
 refine cu (o:=.rt (.d (.str (Txt.join (Str.ofString "") ys))) [.io φ',.v (.int k)]) rfl ?_ rfl
 exact bE (xa rfl rfl rfl (ak (d8 (ky rfl rfl ⟨by lia,by lia⟩) (by
  show(true&&decide ((rng 0 k.toNat).length<=1000000))=true
  rw[iu,Ae (by lia)];rfl) e1) rfl) rfl rfl hj)
abbrev w1:List Str:=["to","turn","turns","ring","rings","odd","ours","row","rows","cuts","knots","cover"]
abbrev w2:List Str:=["change","joins","theirs","one","two","home","none","open","keep","tox","onex"]
abbrev wordsS:List Str:=w1++w2
def okN (x:Str):Bool:=decide (1<=x.length/\x.length<=6)&&x.cps.toList.all fun c=>decide (97<=c/\c<=122)
theorem IN {x:Str} (h:okN x=true):Nm x:=by
 unfold okN at h;rw[Qe,decide_eq_true_eq,Qf]at h;exact⟨h.1.1,h.1.2,fun c hc=>An (h.2 c hc)⟩
theorem CV:∀v∈wordsS,okN v=true:=Qf.mp (by decide +kernel)
theorem EZ {φ:D} {st:Str} (hφ:cC φ) (hst:st.length<=4) (lst:Lw st):∃x φ',lK φ [.str st]=some ((.str x,false),φ')/\Nm x/\cC φ':=by
 by_cases c0:st=""
 ·subst c0;obtain⟨d,φ1,e1,d0,d1,f1⟩:=bK (n:=7) hφ (by decide) (by decide)
  by_cases c1:d=0
  ·subst c1;obtain⟨d2,φ2,e2,d20,d21,f2⟩:=bK (n:=23) f1 (by decide) (by decide)
   obtain⟨v,hv,hm,_⟩:=fF (xs:=wordsS.map D.str) d20 (by rw[Xa];exact d21)
   obtain⟨x,hx,rfl⟩:=Qc.mp hm;refine⟨x,φ2,?_,IN (CV x hx),f2⟩;refine cu (o:=.rt (.d (.str x)) [.io φ2,.v (.str ""),.o (.lst (wordsS.map D.str))]) rfl ?_ rfl;refine af (s:=[.io φ,.v (.str ""),.e]) rfl ?_;refine cW ?_;refine iW (s:=[.io φ1,.v (.str ""),.e]) (aK (aq (bJ rfl rfl rfl rfl rfl rfl e1) rfl rfl rfl rfl) rfl) ?_;refine af (s:=[.io φ1,.v (.str ""),.o (.lst (w1.map D.str))]) rfl ?_;refine af (s:=[.io φ1,.v (.str ""),.o (.lst (wordsS.map D.str))]) rfl ?_;exact bE (aq rfl (bJ rfl rfl rfl rfl rfl rfl e2) rfl rfl (cy hv))
  ·obtain⟨d2,φ2,e2,d20,d21,f2⟩:=bK (n:=6) f1 (by decide) (by decide)
   obtain⟨x,φ3,e3,hx,lx,f3⟩:=lR (k:=1+d2) f2 (by lia) (by lia)
   refine⟨x,φ3,?_,⟨by lia,by lia,lx⟩,f3⟩
   refine cu (o:=.rt (.d (.str x)) [.io φ3,.v (.str ""),.e]) rfl ?_ rfl;refine af (s:=[.io φ,.v (.str ""),.e]) rfl ?_;have t:decide (V.int d=V.int 0)=false:=Ag fun z=>c1 (V.int.inj z);refine af (gE (s:=[.io φ1,.v (.str ""),.e]) (dR (b:=decide (V.int d=V.int 0)) (aK (aq (bJ rfl rfl rfl rfl rfl rfl e1) rfl rfl rfl rfl) rfl) t) rfl) ?_;exact bE (bJ rfl rfl (ak (aq rfl (bJ rfl rfl rfl rfl rfl rfl e2) rfl rfl rfl) rfl) rfl rfl rfl e3)
 ·obtain⟨d,φ1,e1,d0,d1,f1⟩:=bK (n:=2) hφ (by decide) (by decide)
  obtain⟨x,φ2,e2,hx,lx,f2⟩:=lR (k:=1+d) f1 (by lia) (by lia)
  refine⟨st++x,φ2,?_,⟨by rw[Ao];lia,by rw[Ao];lia,lst.app lx⟩,f2⟩
  refine cu (o:=.rt (.d (.str (st++x))) [.io φ2,.v (.str st),.e]) rfl ?_ rfl;refine cW ?_;have t:(!decide (V.str st=V.str ""))=true:=by rw[Ag (fun z=>c0 (V.str.inj z))];rfl
  refine iW (s:=[.io φ,.v (.str st),.e]) (dR (b:=!decide (V.str st=V.str "")) rfl t) ?_;exact bE (aq rfl (bJ rfl rfl (ak (aq rfl (bJ rfl rfl rfl rfl rfl rfl e1) rfl rfl rfl) rfl) rfl rfl rfl e2) rfl rfl (ku (by lia)))
end K05
namespace VF
open PySem L2
theorem dH {i:Nat} {s t:Sl} {st s1:En} (h:st[i]?=some t) (n:t.isIo=false) (e:st.set i s=s1:=by rfl):mj i s st=some s1:=by
 unfold mj;rw[h];show(if t.isIo=true then none else some (st.set i s))=_;rw[Ah (by rw[n];decide),e]
theorem gH {xs:List D} {y:D} (h:xs.length<1000000):dA (.lst xs) [y]=some (.non,.lst (xs++[y])):=by
 show(if xs.length<1000000 then some (D.non,D.lst (xs++[y])) else none)=_;rw[Af h]
theorem CW {xs:List D} {i:Int} (h0:0<=i) (h1:i<xs.length) (h2:xs.length<=1000000) (hk:i.toNat<xs.length):sw (.lst xs) [.int i]=some (xs[i.toNat],.lst (xs.eraseIdx i.toNat)):=by
 show(if -(2 ^ 63)<=i/\i<2 ^ 63 then(seqIndex? i xs.length).bind fun k=>(xs[k]?).bind fun y=>some (y,D.lst (xs.eraseIdx k)) else none)=_;rw[Af ⟨by lia,by lia⟩,PySem.seqIndex_of h0 h1]
 show(xs[i.toNat]?).bind (fun y=>some (y,D.lst (xs.eraseIdx i.toNat)))=_;rw[Qa hk];rfl
theorem sY {α:Type} {f:α->D} {g:D->α} (hg:∀a,g (f a)=a) {ys:List D} {xs:List α} (p:ys.Perm (xs.map f)):∃zs:List α,ys=zs.map f/\zs.Perm xs:=by
 have h1:∀y∈ys,∃z,y=f z:=fun y hy=>by
  obtain⟨z,_,rfl⟩:=Qc.mp (p.mem_iff.mp hy);exact⟨z,rfl⟩
 refine⟨ys.map g,?_,?_⟩
 ·rw[Vj];refine(BH ys).symm.trans (Vk fun y hy=>?_);obtain⟨z,rfl⟩:=h1 y hy;show f z=f (g (f z));rw[hg]
 ·have:=p.map g;rw[Vj]at this;refine this.trans (List.Perm.of_eq ?_);exact(Vk fun z _=>hg z).trans (BH xs)
end VF
namespace K05
open PySem L2 VF VL
theorem CY {φ:D} {n:Int} (hφ:cC φ) (h0:0<=n) (h1:n<=100):∃(xs:List Str) (φ':D),jY φ [.int n]=some ((.lst (xs.map D.str),true),φ')/\(xs.length:Int)=n/\(∀x∈xs,Nm x)/\xs.Nodup/\cC φ':=by
 obtain⟨d,φ1,e1,d0,d1,f1⟩:=bK (n:=3) hφ (by decide) (by decide)
 have sp:∃A B C R,jX=aM A (aM B (aM C R)) /\
   (∃st φ2,A [.io φ,.v (.int n),.e,.e,.e,.e,.e]=some (.nx [.io φ,.v (.int n),.v (.str ""),.e,.e,.e,.e])/\B [.io φ,.v (.int n),.v (.str ""),.e,.e,.e,.e]=some (.nx [.io φ2,.v (.int n),.v (.str st),.e,.e,.e,.e]) /\
    C [.io φ2,.v (.int n),.v (.str st),.e,.e,.e,.e]=some (.nx [.io φ2,.v (.int n),.v (.str st),.o (.lst []),.e,.e,.e])/\cC φ2/\st.length<=4/\Lw st) /\
   (∀st φ2,cC φ2->st.length<=4->Lw st->∃(xs:List Str) (φ':D) (o4 o5 o6:Sl),R [.io φ2,.v (.int n),.v (.str st),.o (.lst []),.e,.e,.e]=some (.rt (.s 3) [.io φ',.v (.int n),.v (.str st),.o (.lst (xs.map D.str)),o4,o5,o6])/\(xs.length:Int)=n/\(∀x∈xs,Nm x)/\xs.Nodup/\cC φ'):=by
  refine⟨_,_,_,_,rfl,?_,?_⟩
  ·by_cases c:d=0
   ·subst c;obtain⟨d2,φ2,e2,d20,d21,f2⟩:=bK (n:=4) f1 (by decide) (by decide)
    obtain⟨x,φ3,e3,hx,lx,f3⟩:=lR (k:=1+d2) f2 (by lia) (by lia)
    refine⟨x,φ3,rfl,?_,rfl,f3,by lia,lx⟩
    refine iW (s:=[.io φ1,.v (.int n),.v (.str ""),.e,.e,.e,.e]) (aK (aq (bJ rfl rfl rfl rfl rfl rfl e1) rfl rfl rfl rfl) rfl) ?_;exact cH (bJ rfl rfl (ak (aq rfl (bJ rfl rfl rfl rfl rfl rfl e2) rfl rfl rfl) rfl) rfl rfl rfl e3) rfl
   ·refine⟨"",φ1,rfl,?_,rfl,f1,by decide +kernel,CJ⟩
    have t:decide (V.int d=V.int 0)=false:=Ag fun z=>c (V.int.inj z);exact gE (s:=[.io φ1,.v (.int n),.v (.str ""),.e,.e,.e,.e]) (dR (b:=decide (V.int d=V.int 0)) (aK (aq (bJ rfl rfl rfl rfl rfl rfl e1) rfl rfl rfl rfl) rfl) t) rfl
  ·intro st φ2 f2 hst lst
   have lp:∀(fg:FG) (B:FS),fg=gN 4->(∀(φ':D) (xs:List Str) (k:D) (o5 o6:Sl),cC φ'->xs.length<=200->(∀x∈xs,Nm x)->xs.Nodup->xs.length<=110->o5.isIo=false->o6.isIo=false ->
     ∃φ2 x o6',B [.io φ',.v (.int n),.v (.str st),.o (.lst (xs.map D.str)),.v k,o5,o6]=some (.nx [.io φ2,.v (.int n),.v (.str st),.o (.lst ((xs++[x]).map D.str)),.v k,.v (.str x),.v o6'])/\cC φ2/\Nm x/\x∉xs) ->
     ∃(xs:List Str) (φ':D) (o4 o5 o6:Sl),aM (kK (lj (ac (aW 1) aj)) fg B) (bR (aW 3)) [.io φ2,.v (.int n),.v (.str st),.o (.lst []),.e,.e,.e]=some (.rt (.s 3) [.io φ',.v (.int n),.v (.str st),.o (.lst (xs.map D.str)),o4,o5,o6])/\(xs.length:Int)=n/\(∀x∈xs,Nm x)/\xs.Nodup/\cC φ':=by
    intro fg B hfg hB;subst hfg;obtain⟨sf,e,φ',xs,o4,o5,o6,rfl,hf,hl,hx,nd,_⟩:=jQ (fg:=gN 4) (B:=B) (rng 0 n.toNat) (fun gone s=>∃(φ':D) (xs:List Str) (o4 o5 o6:Sl),s=[.io φ',.v (.int n),.v (.str st),.o (.lst (xs.map D.str)),o4,o5,o6]/\cC φ'/\xs.length=gone.length/\(∀x∈xs,Nm x)/\xs.Nodup/\o4.isIo=false/\o5.isIo=false/\o6.isIo=false)
     (fun gone x rest s ha zz8=>by
      obtain⟨φ',xs,o4,o5,o6,hs,hf,hl,hx,nd,q4,q5,q6⟩:=zz8;subst hs;have hg:=congrArg List.length ha;rw[iu,Wa,Vd]at hg;obtain⟨φ3,y,o6',eB,f3,ny,hy⟩:=hB φ' xs x o5 o6 hf (by lia) hx nd (by lia) q5 q6
      refine⟨_,_,dH rfl q4,eB,φ3,xs++[y],.v x,.v (.str y),.v o6',rfl,f3,by simp[hl],fun z hz=>?_,?_,rfl,rfl,rfl⟩
      ·rcases Zc.mp hz with w|w
       ·exact hx z w
       ·have:z=y:=by simpa using w
        rw[this];exact ny
      ·rw[List.nodup_append]
       exact⟨nd,by simp,fun a ha b hb e=>by
        have:b=y:=by simpa using hb
        subst this;subst e;exact hy ha⟩) (rng 0 n.toNat) [] [.io φ2,.v (.int n),.v (.str st),.o (.lst []),.e,.e,.e] rfl ⟨φ2,[],.e,.e,.e,rfl,f2,rfl,fun x hx=>(by cases hx),List.nodup_nil,rfl,rfl,rfl⟩
    rw[iu]at hl;exact⟨xs,φ',o4,o5,o6,af (iP (ky rfl rfl ⟨by lia,by lia⟩) e) rfl,by lia,hx,nd,hf⟩
   refine lp _ _ rfl ?_;intro φ' xs k o5 o6 hf _ hx nd hl q5 q6;obtain⟨x,φ3,e3,nx,f3⟩:=EZ hf hst lst;obtain⟨sf,ew,s',y,rfl,ny,hy⟩:=vJ (f:=aO (aL yt (aW 5) (aW 3))) (B:=aM (bn (aL mo (aL cK (fC (.str "abcdefghijklmnopqrstuvwxyz")) (aL pf (aW 6) (fC (.int 26)))) (aL fB (fC (.int 1)) (aL vA (aW 6) (fC (.int 26))))) 5) (bn (aL fB (aW 6) (fC (.int 1))) 6))
    (fun m s=>∃(j:Nat) (x:Str),s=[.io φ3,.v (.int n),.v (.str st),.o (.lst (xs.map D.str)),.v k,.v (.str x),.v (.int j)]/\Nm x/\m+j=xs.length+2/\j<=xs.length+1/\(∀i,i+1<j->word i∈xs)/\(j=0∨x=word (j-1)))
    (fun s=>∃(j:Nat) (x:Str),s=[.io φ3,.v (.int n),.v (.str st),.o (.lst (xs.map D.str)),.v k,.v (.str x),.v (.int j)]/\Nm x/\x∉xs)
    (by
     rintro m s ⟨j,x,rfl,nx,hm,hj,hw,hxj⟩;by_cases c:x∈xs
     ·right;have hall:∀i,i<j->word i∈xs:=fun i hi=>by
       rcases hxj with z|z
       ·lia
       ·by_cases e:i+1<j
        ·exact hw i e
        ·have:i=j-1:=by lia
         rw[this,← z];exact c
      have hle:=yO hall;obtain⟨m',rfl⟩:∃m',m=m'+1:=⟨m-1,by lia⟩
      have d0:(0:Int)<=1+(j:Int) / 26:=Int.add_nonneg (by decide) (Int.ediv_nonneg (BB j) (by decide))
      have d1:1+(j:Int) / 26<=1000:=Int.le_trans (Int.add_le_add_left (Int.ediv_le_self 26 (BB j)) 1) (by lia)
      refine⟨_,[.io φ3,.v (.int n),.v (.str st),.o (.lst (xs.map D.str)),.v k,.v (.str (word j)),.v (.int ((j+1:Nat):Int))],m',dR (aK (aq rfl rfl rfl rfl uq) rfl) (Ae c),?_,AL _,j+1,word j,rfl,EL (by lia),by lia,Nat.succ_le_succ hle,fun i hi=>hall i (by lia),.inr rfl⟩
      refine af (s:=[.io φ3,.v (.int n),.v (.str st),.o (.lst (xs.map D.str)),.v k,.v (.str (word j)),.v (.int j)]) (cH (aq (aq rfl rfl rfl rfl (ix_str (by decide +kernel) (II j))) (aq rfl rfl rfl rfl rfl) rfl rfl (w9 ⟨d0,d1,(by show 1<=1000;decide)⟩)) rfl) ?_
      rfl
     ·left
      exact⟨_,dR (aK (aq rfl rfl rfl rfl uq) rfl) (Ag c),j,x,rfl,nx,c⟩)
    200 (xs.length+2) [.io φ3,.v (.int n),.v (.str st),.o (.lst (xs.map D.str)),.v k,.v (.str x),.v (.int 0)] (by lia) ⟨0,x,rfl,nx,rfl,Qk _,fun i hi=>absurd hi (by lia),.inl rfl⟩
   refine⟨φ3,y,.int s',?_,f3,ny,hy⟩;refine af (cH (bJ rfl rfl rfl rfl rfl rfl e3) (dH rfl q5)) ?_;refine af (cH (x:=.int 0) rfl (dH rfl q6)) ?_;refine af ew ?_;refine dB (mt rfl rfl rfl rfl rfl rfl rfl (gH (by rw[Xa];lia)) ?_)
   rw[Qd];rfl
 obtain⟨A,B,C,R,eF,⟨st,φ2,eA,eB,eC,f2,hst,lst⟩,hR⟩:=sp;obtain⟨xs,φ',o4,o5,o6,eR,hl,hx,nd,hf⟩:=hR st φ2 f2 hst lst;refine⟨xs,φ',?_,hl,hx,nd,hf⟩;refine cu (o:=.rt (.s 3) [.io φ',.v (.int n),.v (.str st),.o (.lst (xs.map D.str)),o4,o5,o6]) rfl ?_ rfl;rw[eF];exact af eA (af eB (af eC eR))
theorem E8 {φ:D} {xs:List D} (hφ:cC φ) (hx:xs.length<=200):∃(ys:List D) (φ':D),hY φ [.lst xs]=some ((.lst ys,true),φ')/\ys.Perm xs/\cC φ':=by
 obtain⟨sf,ew,ts,φ',rfl,pm,hf⟩:=vJ (f:=aO (aL tM (aW 2) (bu aj))) (B:=fz (fM qR dA 3 (ac (fM qR sw 2 (ac (eW aD 0 (ac (dL dQ (ac (aW 2) aj)) aj)) aj)) aj)))
  (fun m s=>∃(ls ts:List D) (φ':D),s=[.io φ',.v (.lst xs),.o (.lst ls),.o (.lst ts)]/\cC φ'/\(ts++ls).Perm xs/\m=ls.length)
  (fun s=>∃(ts:List D) (φ':D),s=[.io φ',.v (.lst xs),.o (.lst []),.o (.lst ts)]/\ts.Perm xs/\cC φ')
  (by
   rintro m s ⟨ls,ts,φ',rfl,hf,pm,rfl⟩;have hlen:ts.length+ls.length=xs.length:=by have:=pm.length_eq;rw[Wa]at this;exact this
   cases ls with
   | nil =>
    rw[Wc]at pm;exact .inl ⟨_,rfl,ts,φ',rfl,pm,hf⟩
   | cons y lr =>
    right;have hl0:(y::lr).length=lr.length+1:=rfl;obtain⟨d,φ2,e,d0,d1,f2⟩:=bK (n:=((y::lr).length:Int)) hf (by lia) (by lia)
    have hk:d.toNat<(y::lr).length:=by lia
    refine⟨_,[.io φ2,.v (.lst xs),.o (.lst ((y::lr).eraseIdx d.toNat)),.o (.lst (ts++[(y::lr)[d.toNat]]))],((y::lr).eraseIdx d.toNat).length,rfl,?_,?_,_,_,φ2,rfl,f2,?_,rfl⟩
    ·exact dB (mt rfl rfl rfl (ak (mt rfl rfl rfl (ak (bJ rfl rfl rfl rfl rfl rfl e) rfl) rfl rfl rfl (CW d0 d1 (by lia) hk)) rfl) rfl rfl rfl (gH (by lia)))
    ·rw[List.length_eraseIdx_of_lt hk];lia
    ·refine List.Perm.trans ?_ pm;rw[Wd]
     exact List.Perm.append_left ts (pK hk))
  300 xs.length [.io φ,.v (.lst xs),.o (.lst xs),.o (.lst [])] (by lia) ⟨xs,[],φ,rfl,hφ,List.Perm.refl _,rfl⟩
 refine⟨ts,φ',?_,pm,hf⟩;refine cu (o:=.rt (.s 3) [.io φ',.v (.lst xs),.o (.lst []),.o (.lst ts)]) rfl ?_ rfl;refine af (s:=[.io φ,.v (.lst xs),.o (.lst xs),.e]) rfl ?_;refine af (s:=[.io φ,.v (.lst xs),.o (.lst xs),.o (.lst [])]) rfl ?_;exact af ew rfl
end K05
namespace VF
open PySem L2
theorem uK (xs:List D):fI [.lst xs]=some (.tup xs,false):=rfl
theorem IO {xs ys:List D} (h:xs.length+ys.length<=1000000):sC (.lst xs) [.tup ys]=some (.non,.lst (xs++ys)):=by
 show(if xs.length+ys.length<=1000000 then some (D.non,D.lst (xs++ys)) else none)=_;rw[Af h]
end VF
namespace K05
open PySem L2 VF VL
abbrev bQ (p:Bool×Str):D:=.str (bd p)
abbrev bP:=Bool×List (Bool×Str)
def kd (r:Bool):Str:=if r then "ring" else "open"
def cU (s:bP):D:=.tup [.str (kd s.1),.tup (s.2.map bQ)]
theorem mL {p:Bool×Str} (h:Nm p.2):(bd p).length<=1000000:=by have:=(pL h).2;lia
theorem xF {φ:D} {xs:List Str} (hφ:cC φ) (hx:xs.length<=200) (nm:∀x∈xs,Nm x):∃(ps:List (Bool×Str)) (φ':D),ge φ [.lst (xs.map D.str)]=some ((.tup (ps.map bQ),false),φ')/\(ps.map (·.2)).Perm xs/\cC φ':=by
 obtain⟨ys,φ1,e1,pm,f1⟩:=E8 (xs:=xs.map D.str) hφ (by rw[Xa];exact hx)
 obtain⟨zs,rfl,pz⟩:=sY (g:=fun d=>match d with|.str z=>z|_=>Str.empty) (fun _=>rfl) pm
 have hzl:=pz.length_eq;have nz:∀z∈zs,Nm z:=fun z hz=>nm z (pz.mem_iff.mp hz);obtain⟨ds,sf,ec,φ2,ps,rfl,f2,e3,e4⟩:=qX (fg:=gN 0) (fc:=g8) (k:=1) (fe:=aL fB (aL mo (fC (.str "-")) (eW aD 1 (ac (fC (.int 2)) aj))) (aW 0)) (zs.map D.str)
  (fun gone pre sb=>∃(φ':D) (ps:List (Bool×Str)),sb=[.e,.io φ']/\cC φ'/\pre=ps.map bQ/\gone=(ps.map (·.2)).map D.str)
  (by
   rintro gone x rest pre sb ha ⟨φ',ps,rfl,hf,rfl,rfl⟩;obtain⟨d,φ2,e,d0,d1,f2⟩:=bK (n:=2) hf (by decide) (by decide)
   have hxm:x∈zs.map D.str:=by rw[ha];simp
   obtain⟨z,hz,rfl⟩:=Qc.mp hxm;have hm:=yP (d:=d) (n:=z) d0 d1;refine⟨[.v (.str z),.io φ'],[.v (.str z),.io φ'],.d (bQ (decide (d=1),z)),[.v (.str z),.io φ2],bQ (decide (d=1),z),[.v (.str z),.io φ2],rfl,rfl,?_,rfl,φ2,ps++[(decide (d=1),z)],rfl,f2,by rw[Qd];rfl,by rw[Qd,Qd];rfl⟩
   refine aq (aq rfl (bJ rfl rfl rfl rfl rfl rfl e) rfl rfl (w9 ⟨d0,by lia,by decide +kernel⟩)) rfl rfl rfl (ku ?_) ?_
   ·have:=(pL (p:=(decide (d=1),z)) (nz z hz)).2;rw[← hm,Ao]at this;show(Txt.mul minus d).length+z.length<=_;lia
   ·show Rs.d (D.str (Txt.mul minus d++z))=_
    rw[hm])
  (zs.map D.str) [] [] [.e,.io φ1] rfl ⟨φ1,[],rfl,f1,rfl,rfl⟩
 rw[Qh]at e3;subst e3;have e5:zs=ps.map (·.2):=by
  have:=congrArg (List.map (fun d:D=>match d with|.str z=>z|_=>Str.empty)) e4
  rw[Vj,Vj]at this;exact((BH zs).symm.trans this).trans (BH _)
 refine⟨ps,φ2,?_,by rw[← e5];exact pz,f2⟩
 refine cu (o:=.rt (.d (.tup (ps.map bQ))) [.io φ2,.v (.lst (xs.map D.str))]) rfl ?_ rfl;refine bE (cP (ak (d8 (kO (bJ rfl rfl rfl rfl rfl rfl e1) rfl) ?_ ec) rfl) rfl rfl);show(true&&decide ((zs.map D.str).length<=1000000))=true;rw[Xa,Ae (by lia)];rfl
theorem oM:∀(ss:List bP),(∀s∈ss,s.2≠[])->ss.length<=(ss.flatMap (·.2)).length
 | [],_=>Wb _
 | s::r,h=>by
  have ih:=oM r fun x hx=>h x (Yb _ hx);have hs:1<=s.2.length:=by
   cases e:s.2 with
   | nil=>exact absurd e (h s Va)
   | cons _ _=>simp
  rw[We,Wa,Vd];lia
theorem IP {φ:D} {xs:List Str} (hφ:cC φ) (hx:xs.length<=200) (nm:∀x∈xs,Nm x):∃(ss:List bP) (φ':D),nA φ [.lst (xs.map D.str),.bl true]=some ((.tup (ss.map cU),false),φ')/\(∀s∈ss,s.2≠[])/\((ss.flatMap (·.2)).map (·.2)).Perm xs/\cC φ':=by
 obtain⟨ps,φ1,e1,pm,f1⟩:=xF hφ hx nm;have hpl:ps.length=xs.length:=by have:=pm.length_eq;rw[Xa]at this;exact this
 have lp:∀(B:FS),(∀(φ':D) (ss:List bP) (piece:List (Bool×Str)) (b:Bool×Str),cC φ'->(∀s∈ss,s.2≠[])->ss.length<=300->piece.length<=300 ->
    ∃(φ2:D) (ss2:List bP) (piece2:List (Bool×Str)),B [.io φ',.v (.lst (xs.map D.str)),.v (.bl true),.o (.lst (ss.map cU)),.o (.lst (piece.map bQ)),.v (bQ b)]=some (.nx [.io φ2,.v (.lst (xs.map D.str)),.v (.bl true),.o (.lst (ss2.map cU)),.o (.lst (piece2.map bQ)),.v (bQ b)])/\cC φ2/\(∀s∈ss2,s.2≠[])/\ss2.flatMap (·.2)++piece2=ss.flatMap (·.2)++piece++[b]) ->
   ∃(φ':D) (ss:List bP) (piece:List (Bool×Str)) (o5:Sl),kK (lB (eW ge 0 (ac (aW 1) aj))) (gN 5) B [.io φ,.v (.lst (xs.map D.str)),.v (.bl true),.o (.lst []),.o (.lst []),.e]=some (.nx [.io φ',.v (.lst (xs.map D.str)),.v (.bl true),.o (.lst (ss.map cU)),.o (.lst (piece.map bQ)),o5])/\cC φ'/\(∀s∈ss,s.2≠[])/\ss.flatMap (·.2)++piece=ps:=by
  intro B hB;obtain⟨sf,e,φ',ss,piece,o5,gp,rfl,hf,hne,hg,hgp,hgp3,_⟩:=jQ (fg:=gN 5) (B:=B) (ps.map bQ) (fun gone s=>∃(φ':D) (ss:List bP) (piece:List (Bool×Str)) (o5:Sl) (gp:List (Bool×Str)),s=[.io φ',.v (.lst (xs.map D.str)),.v (.bl true),.o (.lst (ss.map cU)),.o (.lst (piece.map bQ)),o5]/\cC φ'/\(∀s∈ss,s.2≠[])/\ss.flatMap (·.2)++piece=gp/\(∃r,gp++r=ps)/\gone=gp.map bQ/\o5.isIo=false)
   (by
    rintro gone x rest s ha ⟨φ',ss,piece,o5,gp,rfl,hf,hne,hg,⟨r,hr⟩,rfl,q5⟩;cases r with
    | nil =>
     rw[Wc]at hr;subst hr;have:=congrArg List.length ha;simp at this
    | cons b r =>
     have hb:bQ b=x:=by
      rw[← hr,Qd]at ha;have:=List.append_cancel_left ha;exact(List.cons.inj this).1
     have hlen:=congrArg List.length hr;rw[Wa,Vd]at hlen;have hl2:=congrArg List.length hg;rw[Wa]at hl2;have hl3:=oM ss hne;obtain⟨φ2,ss2,piece2,eB,f2,hne2,hfl⟩:=hB φ' ss piece b hf hne (by lia) (by lia)
     subst hb
     exact⟨_,_,dH rfl q5,eB,φ2,ss2,piece2,.v (bQ b),gp++[b],rfl,f2,hne2,by rw[hfl,hg],⟨r,by rw[Wd];exact hr⟩,by rw[Qd];rfl,rfl⟩)
   (ps.map bQ) [] [.io φ1,.v (.lst (xs.map D.str)),.v (.bl true),.o (.lst []),.o (.lst []),.e] rfl ⟨φ1,[],[],.e,[],rfl,f1,fun s hs=>(by cases hs),rfl,⟨ps,rfl⟩,rfl,rfl⟩
  obtain⟨⟨r,hr⟩,hgp2⟩:(∃r,gp++r=ps)/\ps.map bQ=gp.map bQ:=⟨hgp,hgp3⟩;have hlen:=congrArg List.length hgp2;rw[Xa,Xa]at hlen;have hl2:=congrArg List.length hr;rw[Wa]at hl2;have:r=[]:=Yk (by lia)
  subst this;rw[Wc]at hr;exact⟨φ',ss,piece,o5,iP (xb (bJ rfl rfl rfl rfl rfl rfl e1) rfl) e,hf,hne,by rw[hg,hr]⟩
 have sp:∃B R,nu=aM (bn (bu aj) 3) (aM (bn (bu aj) 4) (aM (kK (lB (eW ge 0 (ac (aW 1) aj))) (gN 5) B) R)) /\
   (∀(φ':D) (ss:List bP) (piece:List (Bool×Str)) (b:Bool×Str),cC φ'->(∀s∈ss,s.2≠[])->ss.length<=300->piece.length<=300 ->
    ∃(φ2:D) (ss2:List bP) (piece2:List (Bool×Str)),B [.io φ',.v (.lst (xs.map D.str)),.v (.bl true),.o (.lst (ss.map cU)),.o (.lst (piece.map bQ)),.v (bQ b)]=some (.nx [.io φ2,.v (.lst (xs.map D.str)),.v (.bl true),.o (.lst (ss2.map cU)),.o (.lst (piece2.map bQ)),.v (bQ b)])/\cC φ2/\(∀s∈ss2,s.2≠[])/\ss2.flatMap (·.2)++piece2=ss.flatMap (·.2)++piece++[b]) /\
   (∀(φ':D) (ss:List bP) (piece:List (Bool×Str)) (o5:Sl),ss.length<=300->(∀s∈ss,s.2≠[])->∃(ss2:List bP) (s':En),R [.io φ',.v (.lst (xs.map D.str)),.v (.bl true),.o (.lst (ss.map cU)),.o (.lst (piece.map bQ)),o5]=some (.rt (.d (.tup (ss2.map cU))) (.io φ'::s'))/\(∀s∈ss2,s.2≠[])/\ss2.flatMap (·.2)=ss.flatMap (·.2)++piece):=by
  refine⟨_,_,rfl,?_,?_⟩
  ·intro φ' ss piece b hf hne hs hp;have ap:fz (fM qR dA 4 (ac (aW 5) aj)) [.io φ',.v (.lst (xs.map D.str)),.v (.bl true),.o (.lst (ss.map cU)),.o (.lst (piece.map bQ)),.v (bQ b)]=some (.nx [.io φ',.v (.lst (xs.map D.str)),.v (.bl true),.o (.lst (ss.map cU)),.o (.lst ((piece++[b]).map bQ)),.v (bQ b)]) :=
    dB (mt rfl rfl rfl rfl rfl rfl rfl (gH (by rw[Xa];lia)) (by rw[Qd];rfl))
   have nw:∀(r:Bool),∀s∈ss++[(r,piece++[b])],s.2≠[]:=fun r s hs=>by
    rcases Zc.mp hs with z|z
    ·exact hne s z
    ·have:s=(r,piece++[b]):=by simpa using z
     rw[this];simp
   have fl:∀(r:Bool),(ss++[(r,piece++[b])]).flatMap (·.2)++[]=ss.flatMap (·.2)++piece++[b]:=fun r=>by
    rw[Xi];simp
   have ms:∀r,(ss++[(r,piece++[b])]).map cU=ss.map cU++[cU (r,piece++[b])]:=fun r=>by rw[Qd];rfl
   have lss:(ss.map cU).length<1000000:=by rw[Xa];lia
   obtain⟨d,φ2,e2,d0,d1,f2⟩:=bK (n:=3) hf (by decide) (by decide)
   by_cases c:d=0
   ·subst c;refine⟨φ2,ss++[(false,piece++[b])],[],af ap ?_,f2,nw false,fl false⟩;refine iW (s:=[.io φ2,.v (.lst (xs.map D.str)),.v (.bl true),.o (.lst (ss.map cU)),.o (.lst ((piece++[b]).map bQ)),.v (bQ b)]) (aK (aq (bJ rfl rfl rfl rfl rfl rfl e2) rfl rfl rfl rfl) rfl) ?_;refine af (dB (mt rfl rfl rfl rfl rfl rfl rfl (gH lss) (st3:=[.io φ2,.v (.lst (xs.map D.str)),.v (.bl true),.o (.lst ((ss++[(false,piece++[b])]).map cU)),.o (.lst ((piece++[b]).map bQ)),.v (bQ b)]) (by rw[ms];rfl))) ?_
    rfl
   ·have t:decide (V.int d=V.int 0)=false:=Ag fun z=>c (V.int.inj z);obtain⟨d2,φ3,e3,d20,d21,f3⟩:=bK (n:=3) f2 (by decide) (by decide)
    have tst:∀s,aO (aL ju (eW aD 0 (ac (fC (.int 3)) aj)) (fC (.int 0))) (.io φ2::s)=some (decide (V.int d2=V.int 0),.io φ3::s):=fun s=>aK (aq (bJ rfl rfl rfl rfl rfl rfl e3) rfl rfl rfl rfl) rfl;by_cases c2:d2=0
    ·subst c2;refine⟨φ3,ss++[(true,piece++[b])],[],af ap ?_,f3,nw true,fl true⟩;refine gE (s:=[.io φ2,.v (.lst (xs.map D.str)),.v (.bl true),.o (.lst (ss.map cU)),.o (.lst ((piece++[b]).map bQ)),.v (bQ b)]) (dR (aK (aq (bJ rfl rfl rfl rfl rfl rfl e2) rfl rfl rfl rfl) rfl) t) ?_;refine iW (s:=[.io φ3,.v (.lst (xs.map D.str)),.v (.bl true),.o (.lst (ss.map cU)),.o (.lst ((piece++[b]).map bQ)),.v (bQ b)]) (qT rfl (tst _)) ?_;refine af (dB (mt rfl rfl rfl rfl rfl rfl rfl (gH lss) (st3:=[.io φ3,.v (.lst (xs.map D.str)),.v (.bl true),.o (.lst ((ss++[(true,piece++[b])]).map cU)),.o (.lst ((piece++[b]).map bQ)),.v (bQ b)]) (by rw[ms];rfl))) ?_
     rfl
    ·have t2:decide (V.int d2=V.int 0)=false:=Ag fun z=>c2 (V.int.inj z);refine⟨φ3,ss,piece++[b],af ap ?_,f3,hne,by rw[Wd]⟩
     refine gE (s:=[.io φ2,.v (.lst (xs.map D.str)),.v (.bl true),.o (.lst (ss.map cU)),.o (.lst ((piece++[b]).map bQ)),.v (bQ b)]) (dR (aK (aq (bJ rfl rfl rfl rfl rfl rfl e2) rfl rfl rfl rfl) rfl) t) ?_;exact gE (qT rfl (dR (tst _) t2)) rfl
  ·intro φ' ss piece o5 hs hne;cases piece with
   | nil =>
    exact⟨ss,_,af (gE rfl rfl) (bE (cP rfl rfl rfl)),hne,by rw[Wc]⟩
   | cons p pr =>
    refine⟨ss++[(false,p::pr)],[.v (.lst (xs.map D.str)),.v (.bl true),.o (.lst ((ss++[(false,p::pr)]).map cU)),.o (.lst ((p::pr).map bQ)),o5],?_,fun s hs=>?_,by rw[Xi];simp⟩
    ·refine af (iW rfl (dB (mt rfl rfl rfl rfl rfl rfl rfl (gH (by rw[Xa];lia)) (st3:=[.io φ',.v (.lst (xs.map D.str)),.v (.bl true),.o (.lst ((ss++[(false,p::pr)]).map cU)),.o (.lst ((p::pr).map bQ)),o5]) (by rw[show(ss++[(false,p::pr)]).map cU=ss.map cU++[cU (false,p::pr)] from by rw[Qd];rfl];rfl)))) ?_
     exact bE (cP rfl rfl rfl)
    ·rcases Zc.mp hs with z|z
     ·exact hne s z
     ·have:s=(false,p::pr):=by simpa using z
      rw[this];simp
 obtain⟨B,R,eF,hB,hR⟩:=sp;obtain⟨φ',ss,piece,o5,eL,hf,hne,hps⟩:=lp B hB;have hl2:=congrArg List.length hps;rw[Wa]at hl2;have hl3:=oM ss hne;obtain⟨ss2,s',eR,hne2,hfl⟩:=hR φ' ss piece o5 (by lia) hne
 refine⟨ss2,φ',?_,hne2,by rw[hfl,hps];exact pm,hf⟩
 refine cu (o:=.rt (.d (.tup (ss2.map cU))) (.io φ'::s')) rfl ?_ rfl;rw[eF];exact af rfl (af rfl (af eL eR))
end K05
namespace VF
open PySem L2
theorem E9 {n:Nat} {x:D} (h:x∈rng 0 n):∃i:Nat,i<n/\x=.int i:=by
 obtain⟨i,hi⟩:=Xl h;obtain⟨h1,h2⟩:=zK hi;exact⟨i,h1,by rw[h2,Int.zero_add]⟩
theorem Fa {α:Type} (xs:List α) (d:D):xs.map (fun _=>d)=List.replicate xs.length d:=by
 induction xs with
 | nil=>rfl
 | cons x r ih=>rw[Ze,ih];rfl
end VF
namespace K05
open PySem L2 VF VL
theorem yV {n:Nat} {u:D} (h:Dp (n+1) u):cG (n5 (eX n)) 2 2 [u,u]=some (.bl true,false):=by
 have seqs:∀(ds:List D),ds.length<=1000000->(∀d∈ds,Dp n d)->∀(u:D),(∀i d,mf ds i=some d->cK u (.int i)=some (d,false)) ->
   gJ (gN 0) g8 (eV (eX n) (ac (aL cK (aW 1) (aW 0)) (ac (aL cK (aW 2) (aW 0)) aj))) 1 (rng 0 ((ds.length:Int)).toNat) [.e,.v u,.v u]=some (List.replicate ds.length (D.bl true),[.e,.v u,.v u]):=fun ds hl hd u hu=>by
  have e:=qU (fg:=gN 0) (fc:=g8) (k:=1) (fe:=eV (eX n) (ac (aL cK (aW 1) (aW 0)) (ac (aL cK (aW 2) (aW 0)) aj))) (fun _=>D.bl true) (rng 0 ((ds.length:Int)).toNat) [.e,.v u,.v u] (fun x hx=>by
   obtain⟨i,hi,rfl⟩:=E9 hx;have hi':i<ds.length:=by lia
   have ha:mf ds (i:Int)=some ds[i]:=rN (Qa hi');refine⟨[.v (.int i),.v u,.v u],[.v (.int i),.v u,.v u],.d (.bl true),[.v (.int i),.v u,.v u],[.v (.int i),.v u,.v u],rfl,rfl,?_,rfl,rfl⟩
   exact cr (ak (aq rfl rfl rfl rfl (hu _ _ ha)) (ak (aq rfl rfl rfl rfl (hu _ _ ha)) rfl)) rfl (lC (hd _ (AM hi'))) rfl)
  rw[e,Fa,iu];have:((ds.length:Int)).toNat=ds.length:=by lia
  rw[this]
 cases h with
 | bl _ b=>cases b<;>rfl
 | int _ i =>
  refine bY (o:=.rt (.d (.bl true)) [.v (.int i),.v (.int i)]) rfl ?_ rfl;refine af (s:=[.v (.int i),.v (.int i)]) rfl (af (s:=[.v (.int i),.v (.int i)]) rfl (cW (iW (s:=[.v (.int i),.v (.int i)]) rfl ?_)));refine bE (jP (s:=[.v (.int i),.v (.int i)]) rfl rfl (aq rfl rfl rfl rfl (z:=(.bl (decide (V.int i=V.int i)),false)) rfl ?_));rw[Ae rfl];rfl
 | non _=>rfl
 | str _ x =>
  refine bY (o:=.rt (.d (.bl true)) [.v (.str x),.v (.str x)]) rfl ?_ rfl;refine af (s:=[.v (.str x),.v (.str x)]) rfl (af (s:=[.v (.str x),.v (.str x)]) rfl (af (s:=[.v (.str x),.v (.str x)]) rfl (cW (iW (s:=[.v (.str x),.v (.str x)]) rfl ?_))));refine bE (jP (s:=[.v (.str x),.v (.str x)]) rfl rfl (aq rfl rfl rfl rfl (z:=(.bl (decide (V.str x=V.str x)),false)) rfl ?_));rw[Ae rfl];rfl
 | @tup _ ds hl hd =>
  refine bY (o:=.rt (.d (.bl true)) [.v (.tup ds),.v (.tup ds)]) rfl ?_ rfl;refine af (s:=[.v (.tup ds),.v (.tup ds)]) rfl (af (s:=[.v (.tup ds),.v (.tup ds)]) rfl (af (s:=[.v (.tup ds),.v (.tup ds)]) rfl (af (s:=[.v (.tup ds),.v (.tup ds)]) rfl (af (s:=[.v (.tup ds),.v (.tup ds)]) rfl ?_))));refine bE (jP (s:=[.v (.tup ds),.v (.tup ds)]) (r:=.d (.bl (decide (V.int ds.length=V.int ds.length)))) rfl (by rw[Ae rfl];rfl) ?_)
  refine cP (ak (d8 (ky (j:=(ds.length:Int)) rfl rfl ⟨by lia,by lia⟩) (by
   show(true&&decide ((rng 0 ((ds.length:Int)).toNat).length<=1000000))=true
   rw[iu,Ae (by lia)];rfl) (seqs ds hl hd (.tup ds) fun i d h=>VF.ix_tup h)) rfl) rfl (uo _)
 | @lst _ ds hl hd =>
  refine bY (o:=.rt (.d (.bl true)) [.v (.lst ds),.v (.lst ds)]) rfl ?_ rfl;refine af (s:=[.v (.lst ds),.v (.lst ds)]) rfl (af (s:=[.v (.lst ds),.v (.lst ds)]) rfl (af (s:=[.v (.lst ds),.v (.lst ds)]) rfl (af (s:=[.v (.lst ds),.v (.lst ds)]) rfl (af (s:=[.v (.lst ds),.v (.lst ds)]) rfl ?_))));refine bE (jP (s:=[.v (.lst ds),.v (.lst ds)]) (r:=.d (.bl (decide (V.int ds.length=V.int ds.length)))) rfl (by rw[Ae rfl];rfl) ?_)
  refine cP (ak (d8 (ky (j:=(ds.length:Int)) rfl rfl ⟨by lia,by lia⟩) (by
   show(true&&decide ((rng 0 ((ds.length:Int)).toNat).length<=1000000))=true
   rw[iu,Ae (by lia)];rfl) (seqs ds hl hd (.lst ds) fun i d h=>cy h)) rfl) rfl (uo _)
end K05
namespace VF
open PySem L2
theorem rj {α:Type} (f:α->Bool):∀xs:List α,mq (xs.map fun x=>D.bl (f x))=some (xs.map f)
 | []=>rfl
 | x::r=>by
  show(mq (r.map fun x=>D.bl (f x))).bind _=_;rw[rj f r];rfl
theorem CZ {α:Type} (f:α->Bool) (xs:List α):vE [.lst (xs.map fun x=>D.bl (f x))]=some (.bl (xs.all f),false):=by
 show(mq _).bind _=_;rw[rj];show some (D.bl ((xs.map f).all id),false)=_;rw[List.all_map];rfl
end VF
namespace K05
open PySem L2 VF VL VF22
noncomputable section
def IQ (c:Nat):Bool:=!(Builtin.Str.occurrences ("abcdefghijklmnopqrstuvwxyz":Str) ⟨#[c]⟩ 0 ("abcdefghijklmnopqrstuvwxyz":Str).length 1).isEmpty
theorem Fb:∀c:Nat,c<123->97<=c->IQ c=true:=by decide +kernel
def GH (x:Str):Bool:=(decide (1<=x.length)&&decide (x.length<=6))&&x.cps.toList.all IQ
theorem IR {x:Str} (h:Nm x):GH x=true:=by
 obtain⟨h1,h2,h3⟩:=h;unfold GH;rw[Ae h1,Ae h2];simp only[Bool.and_self,Bool.true_and];rw[Qf];intro c hc;have:=h3 c hc;exact Fb c (by lia) this.1
theorem len_str {x:Str} (h:x.length<=1000000):dQ [.str x]=some (.int (x.length:Int),false):=by
 first
  | rfl
  | (unfold dQ Jq;simp[zV,D.seq,zW,h])
theorem C2 {x:Str} (h:x.length<=1000000):nq [.str x]=some (.bl (GH x),false):=by
 have hc:cY 1 [] (lB (aW 0)) (gN 0) g8 (aL yt (aW 0) (fC (.str "abcdefghijklmnopqrstuvwxyz"))) [.v (.str x)]=some (.f (.lst (x.cps.toList.map fun c=>D.bl (IQ c))),[.v (.str x)]):=by
  refine d8 (s1:=[.v (.str x)]) (ds:=pd x) (s2:=[.e]) rfl (by
   have:(pd x).length=x.length:=by unfold pd;rw[Xa,Wh];rfl
   rw[this,Ae h];rfl) ?_
  exact lE (fun c=>D.str ⟨#[c]⟩) (fun c=>D.bl (IQ c)) [.e] x.cps.toList fun c _=>⟨[.v (.str ⟨#[c]⟩)],[.v (.str ⟨#[c]⟩)],.d (.bl (IQ c)),[.v (.str ⟨#[c]⟩)],[.v (.str ⟨#[c]⟩)],rfl,rfl,aq rfl rfl rfl rfl rfl,rfl,rfl⟩
 have ch:aO (rZ HH HH (fC (.int 1)) (dL dQ (ac (aW 0) aj)) (fC (.int 6))) [.v (.str x)]=some (decide (1<=x.length)&&decide (x.length<=6),[.v (.str x)]):=by
  have l1:dL dQ (ac (aW 0) aj) [.v (.str x)]=some (.d (.int (x.length:Int)),[.v (.str x)]):=cP rfl rfl (len_str h);have b1:HH (.int 1) (.int (x.length:Int))=some (.bl (decide (1<=x.length)),false):=by
   show some (D.bl (decide ((1:Int)<=(x.length:Int))),false)=_;congr 3;rw[AK];lia
  have b2:HH (.int (x.length:Int)) (.int 6)=some (.bl (decide (x.length<=6)),false):=by
   show some (D.bl (decide ((x.length:Int)<=6)),false)=_;congr 3;rw[AK];lia
  refine aK (r:=.d (.bl (decide (1<=x.length)&&decide (x.length<=6)))) ?_ rfl;unfold rZ;simp only[fC,l1,Ya,cont,b1];cases decide (1<=x.length) with
  | false=>rfl
  | true =>
   simp only[b2,Ya];rfl
 refine bY (o:=.rt (.d (.bl (GH x))) [.v (.str x)]) rfl ?_ rfl;unfold GH;cases e:(decide (1<=x.length)&&decide (x.length<=6)) with
 | false =>
  rw[e]at ch;exact cW (iW (s:=[.v (.str x)]) (lD (s:=[.v (.str x)]) rfl (fL ch)) rfl)
 | true =>
  rw[e]at ch;refine af (gE (s:=[.v (.str x)]) (lD (s:=[.v (.str x)]) rfl (fL ch)) rfl) ?_;exact bE (cP (ak hc rfl) rfl (CZ IQ x.cps.toList))
theorem rl {t:Bool} {n:Str} (h:Nm n):gz [bQ (t,n)]=some (.bl t,false):=by
 have e:gz [bQ (t,n)]=some (.bl (Txt.startswith (bd (t,n)) minus),false):=rfl;rw[e,yQ h]
theorem rm {t:Bool} {n:Str} (h:Nm n):i3 [bQ (t,n)]=some (.str n,false):=by
 refine bY (o:=.rt (.d (.str n)) [.v (bQ (t,n))]) rfl ?_ rfl;cases t with
 | true =>
  refine bE (Gi (s:=[.v (bQ (true,n))]) (aK (cr rfl rfl (rl h) rfl) rfl) (cQ rfl rfl rfl rfl (z9 (mL h)) ?_));show Rs.d (D.str (Txt.slice (minus++n) (some 1) none))=_;rw[CL]
 | false=>exact bE (Gj (s:=[.v (bQ (false,n))]) (aK (cr rfl rfl (rl h) rfl) rfl) rfl)
theorem v8 {ps:List (Bool×Str)} (h:ps.length<=300):hU [.tup (ps.map bQ)]=some (.lst (ps.map bQ),true):=by
 have sp:∃B,jd=aM (bn (bu aj) 1) (aM (kK (lB (aW 0)) (gN 2) B) (bR (aW 1)))/\∀(t:D) (xs:List D) (b:Bool×Str),xs.length<=300->B [.v t,.o (.lst xs),.v (bQ b)]=some (.nx [.v t,.o (.lst (xs++[bQ b])),.v (bQ b)]):=by
  refine⟨_,rfl,fun t xs b hx=>?_⟩;exact iW (s:=[.v t,.o (.lst xs),.v (bQ b)]) rfl (dB (mt rfl rfl rfl rfl rfl rfl rfl (gH (by lia))))
 obtain⟨B,eF,hB⟩:=sp;obtain⟨sf,e,o2,rfl,_⟩:=jQ (fg:=gN 2) (B:=B) (ps.map bQ) (fun gone s=>∃o2:Sl,s=[.v (.tup (ps.map bQ)),.o (.lst gone),o2]/\o2.isIo=false)
  (by
   rintro gone x rest s ha ⟨o2,rfl,q⟩;have hxm:x∈ps.map bQ:=by rw[ha];simp
   obtain⟨b,_,rfl⟩:=Qc.mp hxm;have hg:=congrArg List.length ha;rw[Xa,Wa]at hg
   exact⟨_,_,dH rfl q,hB _ gone b (by lia),.v (bQ b),rfl,rfl⟩)
  (ps.map bQ) [] [.v (.tup (ps.map bQ)),.o (.lst []),.e] rfl ⟨.e,rfl,rfl⟩
 refine bY (o:=.rt (.s 1) [.v (.tup (ps.map bQ)),.o (.lst (ps.map bQ)),o2]) rfl ?_ rfl;rw[eF];exact af rfl (af (iP (xb rfl rfl) e) rfl)
theorem yW {ss:List bP} (h:(ss.flatMap (·.2)).length<=300) (hs:ss.length<=300):hU [.tup (ss.map cU)]=some (.lst ((ss.flatMap (·.2)).map bQ),true):=by
 have sp:∃B,jd=aM (bn (bu aj) 1) (aM (kK (lB (aW 0)) (gN 2) B) (bR (aW 1)))/\∀(t:D) (xs:List D) (s:bP),xs.length+s.2.length<=1000->B [.v t,.o (.lst xs),.v (cU s)]=some (.nx [.v t,.o (.lst (xs++s.2.map bQ)),.v (cU s)]):=by
  refine⟨_,rfl,fun t xs s hx=>?_⟩;exact gE (s:=[.v t,.o (.lst xs),.v (cU s)]) rfl (dB (mt rfl rfl rfl rfl rfl rfl rfl (IO (by rw[Xa];lia))))
 obtain⟨B,eF,hB⟩:=sp;obtain⟨sf,e,o2,gs,rfl,hgs,_⟩:=jQ (fg:=gN 2) (B:=B) (ss.map cU) (fun gone s=>∃(o2:Sl) (gs:List bP),s=[.v (.tup (ss.map cU)),.o (.lst ((gs.flatMap (·.2)).map bQ)),o2]/\(∃r,gs++r=ss)/\gone.length=gs.length/\o2.isIo=false)
  (by
   rintro gone x rest s ha ⟨o2,gs,rfl,⟨r,hr⟩,hl,q⟩;have hg:=congrArg List.length ha;rw[Xa,Wa,Vd]at hg;cases r with
   | nil =>
    rw[Wc]at hr;subst hr;lia
   | cons b r =>
    have hx:x=cU b:=by
     have h1:=congrArg (fun l=>l[gone.length]?) ha;simp only[Zg]at h1;rw[← hr,Wf (by lia),hl,BG,Wf (by lia)]at h1
     rw[hl,BG]at h1;simpa using h1.symm
    subst hx;have hfl:(gs.flatMap (·.2)).length+b.2.length<=300:=by
     have:=congrArg (fun l=>(List.flatMap (fun x:bP=>x.2) l).length) hr;simp only[Xi,We,Wa]at this;lia
    refine⟨_,_,dH rfl q,hB _ _ b (by rw[Xa];lia),.v (cU b),gs++[b],?_,⟨r,by rw[Wd];exact hr⟩,by simp[hl],rfl⟩
    rw[Xi,Qd]
    simp)
  (ss.map cU) [] [.v (.tup (ss.map cU)),.o (.lst []),.e] rfl ⟨.e,[],rfl,⟨ss,rfl⟩,rfl,rfl⟩
 obtain⟨⟨r,hr⟩,hl⟩:(∃r,gs++r=ss)/\(ss.map cU).length=gs.length:=by
  obtain⟨h1,h2⟩:=(show(∃r,gs++r=ss)/\(ss.map cU).length=gs.length from⟨hgs,by simp_all⟩)
  exact⟨h1,h2⟩
 have hl2:=congrArg List.length hr;rw[Wa]at hl2;rw[Xa]at hl;have:r=[]:=Yk (by lia)
 subst this;rw[Wc]at hr;subst hr;refine bY (o:=.rt (.s 1) [.v (.tup (gs.map cU)),.o (.lst ((gs.flatMap (·.2)).map bQ)),o2]) rfl ?_ rfl;rw[eF];exact af rfl (af (iP (xb rfl rfl) e) rfl)
end
end K05
namespace K05
open PySem L2 VF VF22 VT VX
theorem eS (x:Str):x.length=x.cps.toList.length:=by simp[Str.length]
theorem K4:("\n":Str)=⟨#[10]⟩:=by rfl
theorem K5:(" ":Str)=⟨#[32]⟩:=by rfl
def tx (l:List Nat):Str:=⟨l.toArray⟩
theorem v9 (x:Str):tx x.cps.toList=x:=by cases x;rfl
theorem sZ {f:Nat->List Nat} (n:Nat) (h:∀k,(f k).length<=n):∀l:List Nat,(l.flatMap f).length<=n*l.length
 | []=>by simp
 | k::r=>by
  rw[We,Wa,Vd,Nat.mul_succ];have:=sZ n h r;have:=h k;lia
theorem IS {x ms:Str} (h1:32∉ms.cps.toList) (h2:10∉ms.cps.toList) (hn:ms.cps.toList.Nodup) (hl:ms.cps.toList.length<=4) (hx:x.cps.toList.length<=10000) :
  eY [.str x,.str ms]=none/\dY [.str x,.str ms]=some (.lst ((wt ms.cps.toList [] x.cps.toList).map fun l=>D.str (tx l)),true):=by
 have e1:(Txt.replace x "\n" " ").cps.toList=x.cps.toList.flatMap (rp 10 [32]):=by rw[K4,pG];rfl
 have l1:(Txt.replace x "\n" " ").cps.toList.length<=10000:=by
  rw[e1];exact Yc (sZ 1 (fun k=>by unfold rp;split<;>simp) _) (by lia)
 have p4:3 ^ ms.cps.toList.length<=81:=Yc (Nat.pow_le_pow_right (by decide) hl) (by decide)
 have l2:3 ^ ms.cps.toList.length*(Txt.replace x "\n" " ").cps.toList.length<=1048576:=Yc (Nat.mul_le_mul p4 l1) (by decide)
 have rk:=uD ms.cps.toList (Txt.replace x "\n" " ") l2;have e2:=pH ms.cps.toList (Txt.replace x "\n" " ") h1 hn;rw[e1,KL h1 h2]at e2;generalize hy:dC " " " " ms.cps.toList (Txt.replace x "\n" " ")=y at e2;have l3:y.length<=100000:=by
  rw[eS,e2];exact Yc (sZ 3 (fun k=>by unfold ft;by_cases a:k=10<;>by_cases b:k∈ms.cps.toList<;>simp[a,b]) _) (by lia)
 have l4:(Txt.split y " ").length<=1000000:=by
  unfold Txt.split;split
  ·simp
  ·split
   ·simp
   ·rw[length_partsBetween];have:=StrLaws.occ_length_le y " " 0 y.length (y.length+1);lia
 have hs:vP (.str y) [.str " "]=some (.lst ((Txt.split y " ").map D.str),true):=Af ⟨rfl,l3⟩;have hw:((Txt.split y " ").filter fun p=>!p.cps.toList.isEmpty).map D.str=(wt ms.cps.toList [] x.cps.toList).map fun l=>D.str (tx l):=by
  have e:=CC y;rw[e2]at e;show _=(wd [] (x.cps.toList.flatMap (ft ms.cps.toList))).map _;rw[← e,K5,List.filter_map,Vj];refine Vk fun p _=>?_;show D.str p=D.str (tx p.cps.toList);rw[v9]
 suffices main:je [.v (.str x),.v (.str ms),.e,.e]=some (.o (.rt (.f (.lst ((wt ms.cps.toList [] x.cps.toList).map fun l=>D.str (tx l)))) [.v (.str x),.v (.str ms),.v (.str y),.e])) from
  ⟨my main,bY rfl (pE main) rfl⟩
 refine cR (pD (fL (c:=true) rfl) rfl) ?_;refine cR (s:=[.v (.str x),.v (.str ms),.v (.str (Txt.replace x "\n" " ")),.e]) (jc (cH (s:=[.v (.str x),.v (.str ms),.e,.e]) (x:=.str (Txt.replace x "\n" " ")) ?_ rfl)) ?_
 ·show(if x.length<=1048576/\Str.length " "<=14 then _ else _)=_;rw[Af ⟨by rw[eS];lia,by decide +kernel⟩]
 refine cR (s:=[.v (.str x),.v (.str ms),.v (.str y),.e]) (jc ?_) ?_
 ·show(if kR " " " " ms.cps.toList (Txt.replace x "\n" " ")=true then some (Ot.nx [.v (.str x),.v (.str ms),.v (.str (dC " " " " ms.cps.toList (Txt.replace x "\n" " "))),.e]) else none)=_;rw[Af rk,hy]
 refine jc (bE (d8 (kO (xa rfl rfl rfl (ak rfl rfl) rfl rfl hs) rfl) (by rw[Xa];exact Qe _ _ |>.mpr ⟨rfl,Ae l4⟩) (s2:=[.e]) ?_))
 rw[← hw];refine dW (fg:=gN 0) (fc:=mE) (fe:=mF) (k:=1) D.str D.str (fun p=>!p.cps.toList.isEmpty) [.e] (Txt.split y " ") fun p _=>⟨[.v (.str p)],[.v (.str p)],rfl,?_,fun _=>rfl,fun _=>⟨.d (.str p),[.v (.str p)],[.v (.str p)],rfl,rfl,rfl⟩⟩;refine dR (aK (r:=.d (.bl (!decide (V.str p=V.str "")))) (aq rfl rfl rfl rfl rfl) rfl) ?_;show(!decide (V.str p=V.str ""))=!p.cps.toList.isEmpty;congr 1;rw[Vg,decide_eq_true_eq,List.isEmpty_iff];constructor
 ·intro e;cases e;rfl
 ·intro e;have:p="":=by rw[← v9 p,e];rfl
  rw[this]
theorem GI {d:D} {ms:Str} (h:cc [d,.ty "str"]=some (.bl false,false)):eY [d,.str ms]=some ((("BadText":Str),("":Str),(none:Option Str)):Rx) :=
 gn rfl (gF (nW (s:=[.v d,.v (.str ms),.e,.e]) (fL (c:=false) (aK (cP rfl rfl h) rfl)) rfl))
end K05
namespace K05
open PySem L2 VF VL
theorem xG (c:Nat):minus.cps.contains c=true↔c=45:=by
 rw[Array.contains_iff_mem,← Array.mem_toList_iff,dX];simp
theorem Fc {c:Nat} (h:97<=c/\c<=122):minus.cps.contains c=false:=by
 cases e:minus.cps.contains c with
 | false=>rfl
 | true=>have:=(xG c).mp e;lia
theorem oN {l:List Nat} (h:∀c∈l,97<=c/\c<=122):l.takeWhile (fun c=>minus.cps.contains c)=[]:=by
 cases l with
 | nil=>rfl
 | cons c r=>rw[List.takeWhile_cons,Fc (h c Va)];rfl
theorem C3 {p:Bool×Str} (h:Nm p.2):Txt.stripChars (bd p) minus=p.2:=by
 obtain⟨t,n⟩:=p;have hl:∀c∈n.cps.toList,97<=c/\c<=122:=h.2.2;have hr:∀c∈n.cps.toList.reverse,97<=c/\c<=122:=fun c hc=>hl c (List.mem_reverse.mp hc);unfold Txt.stripChars;rw[PySem.W.stripBy_eq];refine sN ?_;unfold PySem.W.stripped;dsimp only;rw[Af rfl,Af rfl,StrLaws.strSub_toList];have g:(fun c=>minus.cps.contains c)=minus.cps.contains:=rfl;cases t with
 | false =>
  have e:(bd (false,n)).cps.toList=n.cps.toList:=rfl;rw[e,← g,oN hl,AV,List.drop_zero,oN hr,AV];show List.take (n.length-0-0) n.cps.toList=n.cps.toList;exact Vm (by show n.cps.toList.length<=n.cps.size-0-0;rw[Wh];lia)
 | true =>
  have e:(bd (true,n)).cps.toList=45::n.cps.toList:=by
   show(minus++n).cps.toList=_;rw[Av,Vh,dX];rfl
  have tk:(45::n.cps.toList).takeWhile (fun c=>minus.cps.contains c)=[45]:=by
   rw[List.takeWhile_cons,(xG 45).mpr rfl,Af rfl,oN hl]
  have len:(bd (true,n)).length=n.cps.toList.length+1:=by
   show(bd (true,n)).cps.size=_;rw[← Wh,e,Vd]
  rw[e,← g,tk];show List.take ((bd (true,n)).length-(List.takeWhile _ (List.drop 1 (45::n.cps.toList)).reverse).length-1) (List.drop 1 (45::n.cps.toList))=n.cps.toList;rw[List.drop_succ_cons,List.drop_zero,oN hr,AV,len];exact Vm (by lia)
theorem C4 {p:Bool×Str} (h:Nm p.2):vO (bQ p) [.str minus]=some (.str p.2,false):=by
 show(if (bd p).length<=1000000 then some (D.str (Txt.stripChars (bd p) minus),false) else none)=_;rw[Af (mL h),C3 h]
def Dy (x:Str):Str:=if Txt.startswith x minus then Txt.slice x (some 1) none else x
theorem pV {x:Str} (h:x.length<=1000000):i3 [.str x]=some (.str (Dy x),false):=by
 have e:gz [.str x]=some (.bl (Txt.startswith x minus),false):=rfl;refine bY (o:=.rt (.d (.str (Dy x))) [.v (.str x)]) rfl ?_ rfl;unfold Dy;cases c:Txt.startswith x minus with
 | true =>
  rw[c]at e;exact bE (Gi (s:=[.v (.str x)]) (aK (cr rfl rfl e rfl) rfl) (cQ rfl rfl rfl rfl (z9 h)))
 | false =>
  rw[c]at e;exact bE (Gj (s:=[.v (.str x)]) (aK (cr rfl rfl e rfl) rfl) rfl)
end K05
namespace VF22
open PySem L2 VF
theorem s9 {st s:En} {r:Rs} {a:Str} {fe:FE} {rows:List (Str×Str)} {neg b:Bool} (h:fe st=some (r,s)) (h1:cont s r=some (.str a)) (h2:(if neg then !(fQ rows a).isSome else(fQ rows a).isSome)=b):xv neg rows fe st=some (.d (.bl b),s):=by
 simp only[xv,h,h1,Ya,h2]
theorem tf {st s:En} {r:Rs} {a c:Str} {fe:FE} {rows:List (Str×Str)} (h:fe st=some (r,s)) (h1:cont s r=some (.str a)) (h2:fQ rows a=some c):CA rows fe st=some (.d (.str c),s):=by
 simp only[CA,h,h1,Ya,h2]
end VF22
namespace K05
open PySem L2 VF VL VF22 VX
noncomputable section
def gL (x:Str):Bool:=GH (Dy x)
def Ft (x:Str):Prop:=x.length<=1000000/\(Dy x).length<=1000000
theorem C5 {x:Str} (h:Ft x):nr [.str x]=some (.bl (gL x),false) :=
 bY (o:=.rt (.d (.bl (GH (Dy x)))) [.v (.str x)]) rfl (bE (jP (s:=[.v (.str x)]) (cP rfl rfl rfl) rfl (cr (ak (cr rfl rfl (pV h.1) rfl) rfl) rfl (C2 h.2) rfl))) rfl
theorem GJ {p:Bool×Str} (h:Nm p.2):Dy (bd p)=p.2:=by
 have e1:=rm (t:=p.1) h;have e2:=pV (mL h);have e3:bQ (p.1,p.2)=.str (bd p):=rfl;rw[e3,e2]at e1;injection e1 with e1;injection e1 with e1;injection e1
theorem nG {p:Bool×Str} (h:Nm p.2):gL (bd p)=true:=by unfold gL;rw[GJ h,IR h]
theorem K6 {p:Bool×Str} (h:Nm p.2):Ft (bd p):=⟨mL h,by rw[GJ h];have:=h.2.1;lia⟩
def qw:Rx:=("BadText","",none)
theorem xH {ws:List Str} (h:∀x∈ws,Ft x) (hl:ws.length<=1000000):jg [.v (.lst (ws.map D.str))]=if ws.all gL then some (.o (.rt (.d (.tup (ws.map D.str))) [.v (.lst (ws.map D.str))])) else some (.x qw):=by
 have hc:cY 1 [] (lB (aW 0)) (gN 0) g8 jf [.v (.lst (ws.map D.str))]=some (.f (.lst (ws.map fun x=>D.bl (gL x))),[.v (.lst (ws.map D.str))]):=by
  refine d8 (s1:=[.v (.lst (ws.map D.str))]) (ds:=ws.map D.str) (s2:=[.e]) rfl (by rw[Xa,Ae hl];rfl) ?_
  exact lE D.str (fun x=>D.bl (gL x)) [.e] ws fun x hx=>⟨[.v (.str x)],[.v (.str x)],.d (.bl (gL x)),[.v (.str x)],[.v (.str x)],rfl,rfl,cr rfl rfl (C5 (h x hx)) rfl,rfl,rfl⟩
 have ht:aO (dL vE (ac (cY 1 [] (lB (aW 0)) (gN 0) g8 jf) aj)) [.v (.lst (ws.map D.str))]=some (ws.all gL,[.v (.lst (ws.map D.str))]):=aK (cP (ak hc rfl) rfl (CZ gL ws)) rfl;cases e:ws.all gL with
 | true =>
  rw[e]at ht;exact cR (pD (fL ht) rfl) (jc (bE (cP rfl rfl (uK _))))
 | false =>
  rw[e]at ht;exact gF (nW (fL ht) rfl)
theorem xI {ws:List Str} (h:∀x∈ws,Ft x) (hl:ws.length<=1000000) (e:ws.all gL=false):gb [.lst (ws.map D.str)]=some qw:=by
 have:=xH h hl;rw[e]at this;exact gn rfl this
theorem lS {ws:List Str} (h:∀x∈ws,Ft x) (hl:ws.length<=1000000) (e:ws.all gL=true):gb [.lst (ws.map D.str)]=none/\hX [.lst (ws.map D.str)]=some (.tup (ws.map D.str),false):=by
 have:=xH h hl;rw[e]at this;exact⟨my this,bY rfl (pE this) rfl⟩
def gu (r:Bool):Str:=if r then "(" else "["
def cls (r:Bool):Str:=if r then ")" else "]"
def mid (w:List Str):List Str:=w.tail.dropLast
theorem oO (w:List Str) (hw:w≠[]):D6 (.lst (w.map D.str)) (some 1) (some (-1))=some (.lst ((mid w).map D.str),true):=by
 show some (D.lst (cutD (w.map D.str) (some 1) (some (-1))),true)=_;congr 3;obtain⟨n,hn⟩:∃n,w.length=n+1:=⟨w.length-1,by have:=Ql.mpr hw;lia⟩
 have e1:HT.sIx (n+1) 0 (some 1)=1:=by simp[HT.sIx]
 have e2:HT.sIx (n+1) (n+1) (some (-1))=n:=by simp[HT.sIx];lia
 unfold cutD mid;rw[Xa,hn,e1,e2,← A7,← Bv,List.dropLast_eq_take,Bc,hn,List.drop_one];rfl
theorem mM {w:List Str} {a:Str} (h:w.head?=some a):cK (.lst (w.map D.str)) (.int 0)=some (.str a,false):=by
 cases w with
 | nil=>cases h
 | cons b r=>cases h;exact cy (by simp[mf,yg])
theorem oP {w:List Str} {a:Str} (h:w.getLast?=some a):cK (.lst (w.map D.str)) (.int (-1))=some (.str a,false):=by
 obtain⟨r,rfl⟩:=List.getLast?_eq_some_iff.mp h;refine cy ?_;have h1:yg (r.length+1) (-1)=some r.length:=by
  unfold yg;simp;lia
 unfold mf;rw[Xa,Wa,Xj,h1];show((r++[a]).map D.str)[r.length]?=_;rw[Qd,Wf (by rw[Xa];exact Wb _),Xa,BG]
 rfl
theorem Fe {a:Str} (h:a≠"["/\a≠"("):fQ [("[","open"),("(","ring")] a=none:=by
 simp[fQ,Am h.1,Am h.2]
theorem nJ (r:Bool):fQ [("[","open"),("(","ring")] (gu r)=some (kd r):=by cases r<;>decide +kernel
theorem lU (r:Bool):fQ [("[","]"),("(",")")] (gu r)=some (cls r):=by cases r<;>decide +kernel
theorem jm (a b:Str):tM (.str a) (.str b)=some (.bl (!decide (a=b)),false):=by
 show some (D.bl (!decide (V.str a=V.str b)),false)=_;congr 4;rw[AK];exact⟨fun h=>by injection h,fun h=>by rw[h]⟩
def C6 (w:List Str):Prop:=w≠[]/\((∃x∈mid w,gL x=false)∨(∃a,w.head?=some a/\a≠"["/\a≠"(")∨(∃r b,w.head?=some (gu r)/\w.getLast?=some b/\b≠cls r)∨mid w=[])
theorem C7 {a:Str}:(a≠"["/\a≠"(")∨∃r,a=gu r:=by
 by_cases h1:a="["
 ·exact .inr ⟨false,h1⟩
 ·by_cases h2:a="("
  ·exact .inr ⟨true,h2⟩
  ·exact .inl ⟨h1,h2⟩
theorem tj {w:List Str} {x:Str} (h:x∈mid w):x∈w:=List.mem_of_mem_tail (List.dropLast_subset _ h)
theorem uL {w:List Str} (h:∀x∈w,Ft x) (hl:w.length<=1000000) (b:C6 w):cf [.lst (w.map D.str)]=some qw:=by
 obtain⟨hw,b⟩:=b;have hm:∀x∈mid w,Ft x:=fun x hx=>h x (tj hx);have hml:(mid w).length<=1000000:=by unfold mid;rw[Bp,Bc];lia
 have sl:=oO w hw;cases e:(mid w).all gL with
 | false =>
  exact gn rfl (gF (mz (s1:=[.v (.lst (w.map D.str)),.e]) (ak (cQ rfl rfl rfl rfl sl rfl) rfl) rfl (xI hm hml e)))
 | true =>
  obtain⟨g1,g2⟩:=lS hm hml e;refine gn rfl (cR (s:=[.v (.lst (w.map D.str)),.v (.tup ((mid w).map D.str))]) (kD (s1:=[.v (.lst (w.map D.str)),.e]) (ak (cQ rfl rfl rfl rfl sl rfl) rfl) rfl g1 (cH (s:=[.v (.lst (w.map D.str)),.e]) (cE (ak (cQ rfl rfl rfl rfl sl rfl) rfl) rfl g2) rfl)) ?_);obtain⟨a,r,rfl⟩:=Yi hw;obtain⟨l,hlast⟩:∃l,(a::r).getLast?=some l:=⟨(a::r).getLast hw,Xh hw⟩;have e0:∀o:Sl,aL cK (aW 0) (fC (.int 0)) [.v (.lst ((a::r).map D.str)),o]=some (.d (.str a),[.v (.lst ((a::r).map D.str)),o]):=fun o=>aq rfl rfl rfl rfl (mM rfl);have e1:∀o:Sl,aL cK (aW 0) (Dt qr (fC (.int 1))) [.v (.lst ((a::r).map D.str)),o]=some (.d (.str l),[.v (.lst ((a::r).map D.str)),o]):=fun o=>aq rfl rfl rfl rfl (oP hlast);refine gF (nW (s:=[.v (.lst ((a::r).map D.str)),.v (.tup ((mid (a::r)).map D.str))]) ?_ rfl);rcases C7 (a:=a) with hn|⟨k,rfl⟩
  ·exact Ed (aK (s9 (b:=true) (e0 _) rfl (by rw[Fe hn];rfl)) rfl)
  ·refine lD (aK (s9 (b:=false) (e0 _) rfl (by rw[nJ];rfl)) rfl) ?_
   by_cases c:l=cls k
   ·refine lD (dR (aK (aq (e1 _) (tf (e0 _) rfl (lU k)) rfl rfl (jm _ _)) rfl) (by rw[Ae c];rfl)) ?_
    have hz:mid (gu k::r)=[]:=by
     rcases b with⟨x,hx,ex⟩|⟨y,hy,h1,h2⟩|⟨k',y,hk,hy,h1⟩|hz
     ·rw[Qf]at e;rw[e x hx]at ex;cases ex
     ·cases hy;cases k
      ·exact absurd rfl h1
      ·exact absurd rfl h2
     ·rw[hlast]at hy;cases hy;have:gu k=gu k':=by injection hk
      have hk':k=k':=by revert this;cases k<;>cases k'<;>decide +kernel
      subst hk';exact absurd c h1
     ·exact hz
    rw[hz];rfl
   ·exact Ed (dR (aK (aq (e1 _) (tf (e0 _) rfl (lU k)) rfl rfl (jm _ _)) rfl) (by rw[Ag c];rfl))
def tw (s:bP):List Str:=gu s.1::(s.2.map bd++[cls s.1])
theorem pW (s:bP):mid (tw s)=s.2.map bd:=by
 unfold mid tw;rw[Bo,Bq]
theorem pX (ps:List (Bool×Str)):(ps.map bd).map D.str=ps.map bQ:=by rw[Vj];rfl
theorem uM {w:List Str} {k:Bool} (h:∀x∈w,Ft x) (hl:w.length<=1000000) (h1:w.head?=some (gu k)) (h2:w.getLast?=some (cls k)) (h3:(mid w).all gL=true) (h4:mid w≠[]) :
  cf [.lst (w.map D.str)]=none/\ci [.lst (w.map D.str)]=some (.tup [.str (kd k),.tup ((mid w).map D.str)],false):=by
 have hw:w≠[]:=fun z=>by rw[z]at h1;cases h1
 have sl:=oO w hw;have a1:=mM h1;have a2:=oP h2;obtain⟨g1,g2⟩:=lS (ws:=mid w) (fun x hx=>h x (tj hx)) (by unfold mid;rw[Bp,Bc];lia) h3
 generalize hL:w.map D.str=L at sl a1 a2;generalize hM:(mid w).map D.str=M at sl g1 g2;have e0:∀o:Sl,aL cK (aW 0) (fC (.int 0)) [.v (.lst L),o]=some (.d (.str (gu k)),[.v (.lst L),o]):=fun o=>aq rfl rfl rfl rfl a1;have e1:∀o:Sl,aL cK (aW 0) (Dt qr (fC (.int 1))) [.v (.lst L),o]=some (.d (.str (cls k)),[.v (.lst L),o]):=fun o=>aq rfl rfl rfl rfl a2;have main:gq [.v (.lst L),.e]=some (.o (.rt (.d (.tup [.str (kd k),.tup M])) [.v (.lst L),.v (.tup M)])):=by
  refine cR (s:=[.v (.lst L),.v (.tup M)]) (kD (s1:=[.v (.lst L),.e]) (ak (cQ rfl rfl rfl rfl sl rfl) rfl) rfl g1 (cH (s:=[.v (.lst L),.e]) (cE (ak (cQ rfl rfl rfl rfl sl rfl) rfl) rfl g2) rfl)) ?_;refine cR (pD (s:=[.v (.lst L),.v (.tup M)]) (lD (aK (s9 (b:=false) (e0 _) rfl (by rw[nJ];rfl)) rfl) (lD (dR (aK (aq (e1 _) (tf (e0 _) rfl (lU k)) rfl rfl (jm _ _)) rfl) (by rw[Ae rfl];rfl)) ?_)) rfl) ?_
  ·refine dR (b:=decide (V.int (M.length:Int)=V.int 0)) (aK (aq (cP rfl rfl rfl) rfl rfl rfl rfl) rfl) (Ag fun z=>?_);have z':(M.length:Int)=0:=by injection z
   rw[← hM,Xa]at z';exact h4 (Yk (by lia))
  ·exact jc (bE (px (ak (tf (e0 _) rfl (nJ k)) (ak rfl rfl)) rfl (by show 2<=1000000;decide)))
 exact⟨my main,bY rfl (pE main) rfl⟩
theorem yX {s:bP} (h:∀p∈s.2,Nm p.2) (hn:s.2≠[]) (hl:s.2.length<=1000) (hf:∀x∈tw s,Ft x):cf [.lst ((tw s).map D.str)]=none/\ci [.lst ((tw s).map D.str)]=some (cU s,false):=by
 have:=uM (w:=tw s) (k:=s.1) hf (by unfold tw;simp;lia) rfl (by unfold tw;rw[Zl,Qj];rfl) (by
  rw[pW,Qf];intro x hx;obtain⟨p,hp,rfl⟩:=Qc.mp hx
  exact nG (h p hp)) (by rw[pW];simpa using hn)
 rw[pW,pX]at this;exact this
theorem K7 (x a b:Str):yt (.str x) (.tup [.str a,.str b])=some (.bl (decide (x=a)||decide (x=b)),false):=by
 have e1:sv false (.str x) (.tup [.str a,.str b])=none:=rfl;have e2:ph false (.str x) (.tup [.str a,.str b])=some (.bl (decide (x=a)||decide (x=b)),false):=by
  show some (D.bl (vc (.str x) [V.str a,V.str b]),false)=_;congr 3;show((a == x)||((b == x)||false))=_;have q:∀a:Str,(a == x)=decide (x=a):=fun a=>by
   by_cases e:a=x
   ·subst e;simp
   ·have e':¬ x=a:=fun z=>e z.symm;simp[e,e']
  rw[Bool.or_false,q,q]
 unfold yt ng;rw[e1];exact e2
theorem C8 (xs:List D):tM (.lst xs) (.lst [])=some (.bl (!xs.isEmpty),false):=rfl
theorem Ff {W:D} {G g:List D} {x:Str} (hx:x≠"]"/\x≠")") (hg:g.length<=10000) :
  d9 [.v W,.o (.lst G),.o (.lst g),.v (.str x)]=some (.nx [.v W,.o (.lst G),.o (.lst (g++[.str x])),.v (.str x)]):=by
 refine af (s:=[.v W,.o (.lst G),.o (.lst (g++[.str x])),.v (.str x)]) (dB (mt rfl rfl rfl rfl rfl rfl rfl (gH (by lia)))) ?_
 refine gE (dR (aK (aq rfl (px rfl rfl (by show 2<=1000000;decide)) rfl rfl (K7 _ _ _)) rfl) ?_) rfl
 rw[Ag hx.1,Ag hx.2];rfl
theorem C9 {W:D} {G g:List D} {x:Str} (hx:x="]"∨x=")") (hg:g.length<=10000) (hG:G.length<=10000) :
  d9 [.v W,.o (.lst G),.o (.lst g),.v (.str x)]=some (.nx [.v W,.o (.lst (G++[.lst (g++[.str x])])),.o (.lst []),.v (.str x)]):=by
 refine af (s:=[.v W,.o (.lst G),.o (.lst (g++[.str x])),.v (.str x)]) (dB (mt rfl rfl rfl rfl rfl rfl rfl (gH (by lia)))) ?_
 refine iW (s:=[.v W,.o (.lst G),.o (.lst (g++[.str x])),.v (.str x)]) (dR (aK (aq rfl (px rfl rfl (by show 2<=1000000;decide)) rfl rfl (K7 _ _ _)) rfl) ?_) ?_
 ·rcases hx with rfl|rfl<;>decide +kernel
 ·exact af (s:=[.v W,.o (.lst (G++[.lst (g++[.str x])])),.v (.lst (g++[.str x])),.v (.str x)]) (dB (mt rfl rfl rfl rfl rfl rfl rfl (gH (by lia)))) rfl
def gr:List Str->List Str->List (List Str)
 | g,[]=>if g=[] then [] else [g]
 | g,w::r=>if w="]"∨w=")" then(g++[w])::gr [] r else gr (g++[w]) r
def gD (g:List Str):D:=.lst (g.map D.str)
theorem tm {W:D}:∀(ws:List Str) (G:List D) (g:List Str) (o:Sl),o.isIo=false->G.length+g.length+ws.length<=9000 ->
  ∃(G':List D) (g':List Str) (o':Sl),iw (gN 3) d9 (ws.map D.str) [.v W,.o (.lst G),.o (.lst (g.map D.str)),o]=some (.nx [.v W,.o (.lst G'),.o (.lst (g'.map D.str)),o'])/\G'++(if g'=[] then [] else [gD g'])=G++(gr g ws).map gD/\G'.length<=9000
 | [],G,g,o,_,hl=>⟨G,g,o,rfl,by unfold gr;split<;>simp,by lia⟩
 | w::r,G,g,o,q,hl=>by
  rw[Vd]at hl;have e1:gN 3 (.str w) [.v W,.o (.lst G),.o (.lst (g.map D.str)),o]=some [.v W,.o (.lst G),.o (.lst (g.map D.str)),.v (.str w)]:=dH rfl q;by_cases hc:w="]"∨w=")"
  ·have e2:=C9 (W:=W) (G:=G) (g:=g.map D.str) hc (by rw[Xa];lia) (by lia)
   obtain⟨G',g',o',e3,e4,e5⟩:=tm (W:=W) r (G++[gD (g++[w])]) [] (.v (.str w)) rfl (by simp;lia)
   refine⟨G',g',o',?_,?_,e5⟩
   ·rw[Ze];simp only[iw,e1,Ya];rw[e2];unfold gD at e3;rw[Qd]at e3;exact e3
   ·rw[e4];have:gr g (w::r)=(g++[w])::gr [] r:=Af hc;rw[this,Ze,Wd];rfl
  ·have e2:=Ff (W:=W) (G:=G) (g:=g.map D.str) (x:=w) ⟨fun h=>hc (.inl h),fun h=>hc (.inr h)⟩ (by rw[Xa];lia)
   obtain⟨G',g',o',e3,e4,e5⟩:=tm (W:=W) r G (g++[w]) (.v (.str w)) rfl (by simp;lia)
   refine⟨G',g',o',?_,?_,e5⟩
   ·rw[Ze];simp only[iw,e1,Ya];rw[e2];rw[Qd]at e3;exact e3
   ·rw[e4,show gr g (w::r)=gr (g++[w]) r from Ah hc]
theorem IT {ws:List Str} (hl:ws.length<=9000):fR [.lst (ws.map D.str)]=some (.lst ((gr [] ws).map gD),true):=by
 obtain⟨G',g',o',e,e2,e3⟩:=tm (W:=.lst (ws.map D.str)) ws [] [] .e rfl (by simpa using hl)
 rw[Qh]at e2;rw[← e2];by_cases c:g'=[]
 ·subst c;rw[Af rfl,Wc];refine bY (o:=.rt (.s 1) [.v (.lst (ws.map D.str)),.o (.lst G'),.o (.lst []),o']) rfl ?_ rfl;exact af rfl (af rfl (af (iP (kO rfl rfl) e) (af (gE (aK (aq rfl rfl rfl rfl (C8 _)) rfl) rfl) rfl)))
 ·rw[Ah c];refine bY (o:=.rt (.s 1) [.v (.lst (ws.map D.str)),.o (.lst (G'++[gD g'])),.v (gD g'),o']) rfl ?_ rfl;refine af rfl (af rfl (af (iP (kO rfl rfl) e) (af (s:=[.v (.lst (ws.map D.str)),.o (.lst (G'++[gD g'])),.v (gD g'),o']) (iW (s:=[.v (.lst (ws.map D.str)),.o (.lst G'),.o (.lst (g'.map D.str)),o']) (dR (aK (aq rfl rfl rfl rfl (C8 _)) rfl) ?_) (dB (mt rfl rfl rfl rfl rfl rfl rfl (gH (by lia))))) rfl)))
  cases g' with
  | nil=>exact absurd rfl c
  | cons a b=>rfl
def sn (ps:List (Bool×Str)):List (Key×D):=ps.map fun p=>(Sum.inr p.2,D.bl true)
theorem Fg {ps:List (Bool×Str)} {n:Str} (h:n∉ps.map (·.2)):jR (sn ps) (Sum.inr n)=none:=by
 unfold jR sn;rw[Option.map_eq_none_iff,List.find?_eq_none];intro x hx;obtain⟨p,hp,rfl⟩:=Qc.mp hx;simp only[decide_eq_true_eq];intro e;exact h (Qc.mpr ⟨p,hp,Sum.inr.inj e⟩)
theorem IU {ps:List (Bool×Str)} {p:Bool×Str} (h:p.2∉ps.map (·.2)):vL (sn ps) (Sum.inr p.2) (.bl true)=sn (ps++[p]):=by
 unfold vL;rw[Ah]
 ·unfold sn;rw[Qd];rfl
 ·rw[List.any_eq_true];rintro⟨x,hx,e⟩;unfold sn at hx;obtain⟨q,hq,rfl⟩:=Qc.mp hx;exact h (Qc.mpr ⟨q,hq,Sum.inr.inj (An e)⟩)
theorem uN {t:D} {ps:List (Bool×Str)} (hb:hU [t]=some (.lst (ps.map bQ),true)) (hn:∀p∈ps,Nm p.2) (hl:ps.length<=300) (h:(ps.map (·.2)).Nodup):fS [t]=some (.non,false):=by
 have step:∀(gone:List (Bool×Str)) (p:Bool×Str) (o3:Sl),o3.isIo=false->Nm p.2->gone.length<=300->p.2∉gone.map (·.2)->gc [.v t,.o (.dk (sn gone)),.v (bQ p),o3]=some (.nx [.v t,.o (.dk (sn (gone++[p]))),.v (bQ p),.v (.str p.2)]):=fun gone p o3 q hp hg hm=>by
  refine af (s:=[.v t,.o (.dk (sn gone)),.v (bQ p),.v (.str p.2)]) (cH (s:=[.v t,.o (.dk (sn gone)),.v (bQ p),o3]) (x:=.str p.2) (cr rfl rfl (rm (t:=p.1) hp) rfl) (dH rfl q)) ?_;refine af (gE (s:=[.v t,.o (.dk (sn gone)),.v (bQ p),.v (.str p.2)]) (aK (r:=.d (.bl false)) (aq (z:=(.bl false,false)) rfl rfl rfl rfl ?_) rfl) rfl) ?_
  ·show(some (jR (sn gone) (Sum.inr p.2))).bind _=_;rw[Fg hm];rfl
  ·refine sX (z':=.dk (sn (gone++[p]))) rfl rfl rfl rfl rfl rfl rfl rfl ?_;show(if (sn gone).length<100000 then some (D.dk (vL (sn gone) (Sum.inr p.2) (.bl true))) else none)=_;rw[Af (by unfold sn;rw[Xa];lia),IU hm]
 obtain⟨sf,e,o2,o3,rfl,_,_⟩:=kA (fg:=gN 2) (B:=gc) bQ ps (fun gone s=>∃(o2 o3:Sl),s=[.v t,.o (.dk (sn gone)),o2,o3]/\o2.isIo=false/\o3.isIo=false)
  (by
   rintro gone x rest s ha ⟨o2,o3,rfl,q2,q3⟩;have hx:x∈ps:=by rw[ha];simp
   have hg:=congrArg List.length ha;rw[Wa]at hg;have nd:=h;rw[ha,Qd,Ze]at nd;have hm:x.2∉gone.map (·.2):=fun m=>(List.nodup_append.mp nd).2.2 _ m _ (Va ..) rfl
   exact⟨_,_,dH rfl q2,step gone x o3 q3 (hn x hx) (by lia) hm,.v (bQ x),.v (.str x.2),rfl,rfl,rfl⟩)
  ps [] [.v t,.o (.dk (sn [])),.e,.e] rfl ⟨.e,.e,rfl,rfl,rfl⟩
 refine bY (o:=.nx [.v t,.o (.dk (sn ps)),o2,o3]) rfl ?_ rfl;exact af (s:=[.v t,.o (.dk (sn [])),.e,.e]) (hJ rfl rfl) (iP (kO (cE rfl rfl hb) rfl) e)
end
end K05
namespace VX
open PySem L2 VF
theorem IV {R:List D->Option Rx} {fa:FA} {F:FY} {st s1 s2:En} {rs:List Rs} {ds:List D} {v:Rx} (h1:fa st=some (rs,s1)) (h2:cq rs s1=some (ds,s2)) (h3:R ds=some v):yN R fa F st=some (.x v):=by
 simp only[yN,h1,h2,h3,Ya]
theorem Db {R:List D->Option Rx} {fa:FA} {F:FY} {st s1 s2:En} {rs:List Rs} {ds:List D} {a:Option Oy} (h1:fa st=some (rs,s1)) (h2:cq rs s1=some (ds,s2)) (h3:R ds=none) (h4:F st=a):yN R fa F st=a:=by
 simp only[yN,h1,h2,h3,Ya];exact h4
theorem xJ {α:Type} {R:List D->Option Rx} {g:List D->Option Rz} {fa:FA} {fg:FG} {k:Nat} {v:Rx} (f:α->D) (sb:En):∀(xs:List α),(∀x∈xs,∃s1 s2 rs s3 ds s4,fg (f x) sb=some s1/\g8 s1=some (true,s2)/\fa s2=some (rs,s3)/\cq rs s3=some (ds,s4)/\(R ds=some v∨(R ds=none/\∃z s5 d s6,dJ g fa s2=some (z,s5)/\esc z s5=some (d,s6)/\m9 k s6=sb)))->(∃x∈xs,∃s1 s2 rs s3 ds s4,fg (f x) sb=some s1/\g8 s1=some (true,s2)/\fa s2=some (rs,s3)/\cq rs s3=some (ds,s4)/\R ds=some v)->y8 fg g8 R g fa k (xs.map f) sb=some v
 | [],_,⟨x,hx,_⟩=>by cases hx
 | x::xs,H,hb=>by
  obtain⟨s1,s2,rs,s3,ds,s4,e1,e2,e3,e4,e5⟩:=H x (Va ..);rw[Ze];rcases e5 with e5|⟨e5,z,s5,d,s6,e6,e7,e8⟩
  ·simp only[y8,e1,e2,e3,e4,e5,Ya,if_true]
  ·have ih:=xJ (v:=v) (g:=g) (k:=k) f sb xs (fun y hy=>H y (Yb _ hy)) (by
    obtain⟨y,hy,t1,t2,ts,t3,es,t4,a1,a2,a3,a4,a5⟩:=hb;rcases Vc.mp hy with rfl|hy
    ·rw[e1]at a1;cases a1;rw[e2]at a2;cases a2;rw[e3]at a3;cases a3;rw[e4]at a4;cases a4;rw[e5]at a5;cases a5
    ·exact⟨y,hy,t1,t2,ts,t3,es,t4,a1,a2,a3,a4,a5⟩)
   simp only[y8,e1,e2,e3,e4,e5,e6,e7,e8,Ya,if_true];exact ih
end VX
namespace K05
open PySem L2 VF VL VF22 VX
noncomputable section
theorem wa:∀(ws g:List Str),(gr g ws).length<=ws.length+1
 | [],g=>by unfold gr;split<;>simp
 | w::r,g=>by
  by_cases hc:w="]"∨w=")"
  ·rw[show gr g (w::r)=(g++[w])::gr [] r from Af hc,Vd,Vd];have:=wa r [];lia
  ·rw[show gr g (w::r)=gr (g++[w]) r from Ah hc,Vd];have:=wa r (g++[w]);lia
theorem mN:∀(ws g:List Str),(gr g ws).flatten=g++ws
 | [],g=>by
  unfold gr;split
  ·next h=>rw[h];rfl
  ·simp
 | w::r,g=>by
  by_cases hc:w="]"∨w=")"
  ·rw[show gr g (w::r)=(g++[w])::gr [] r from Af hc,List.flatten_cons,mN r []];simp
  ·rw[show gr g (w::r)=gr (g++[w]) r from Ah hc,mN r (g++[w])];simp
theorem xK:∀(ws g:List Str),∀x∈gr g ws,x≠[]
 | [],g=>by
  unfold gr;split
  ·intro x hx;cases hx
  ·next h=>intro x hx;obtain rfl:=Za.mp hx;exact h
 | w::r,g=>by
  by_cases hc:w="]"∨w=")"
  ·rw[show gr g (w::r)=(g++[w])::gr [] r from Af hc];intro x hx;rcases Vc.mp hx with rfl|hx
   ·simp
   ·exact xK r [] x hx
  ·rw[show gr g (w::r)=gr (g++[w]) r from Ah hc];exact xK r (g++[w])
theorem K8 {w:List Str} (hw:w≠[]):C6 w∨∃k,w.head?=some (gu k)/\w.getLast?=some (cls k)/\(mid w).all gL=true/\mid w≠[]:=by
 obtain⟨a,r,rfl⟩:=Yi hw;by_cases h0:mid (a::r)=[]
 ·exact .inl ⟨hw,.inr (.inr (.inr h0))⟩
 cases e:(mid (a::r)).all gL with
 | false =>
  obtain⟨x,hx,hk⟩:=List.all_eq_false.mp e;exact .inl ⟨hw,.inl ⟨x,hx,by simpa using hk⟩⟩
 | true =>
  rcases C7 (a:=a) with hn|⟨k,rfl⟩
  ·exact .inl ⟨hw,.inr (.inl ⟨a,rfl,hn⟩)⟩
  ·by_cases c:(gu k::r).getLast hw=cls k
   ·exact .inr ⟨k,rfl,by rw[Xh hw,c],rfl,h0⟩
   ·exact .inl ⟨hw,.inr (.inr (.inl ⟨k,_,rfl,Xh hw,c⟩))⟩
abbrev L0:FI:=lB (dJ fR (ac (dJ dY (ac (aW 0) (ac (fC (.str "[]()")) aj))) aj))
structure Wds (x m:Str) (ws:List Str):Prop where
 r:eY [.str x,.str m]=none
 g:dY [.str x,.str m]=some (.lst (ws.map D.str),true)
 l:ws.length<=9000
 f:∀y∈ws,Ft y
theorem Dc {x:Str} {ws:List Str} (h:Wds x "[]()" ws):L0 [.v (.str x),.e]=some ((gr [] ws).map gD,[.v (.str x),.e]) :=
 kO (cE (ak (cE rfl rfl h.g) rfl) rfl (IT h.l)) rfl
theorem wc {ws:List Str} (hl:ws.length<=9000):(i9 [] 2&&decide (((gr [] ws).map gD).length<=1000000))=true:=by
 have:=wa ws [];rw[Xa,Ae (by lia:(gr [] ws).length<=1000000)];rfl
theorem Dd {ws g:List Str} (h:g∈gr [] ws) {y:Str} (hy:y∈g):y∈ws:=by
 have:=mN ws [];rw[Qh]at this;rw[← this];exact List.mem_flatten.mpr ⟨g,h,hy⟩
theorem K9 {ws g:List Str} (h:g∈gr [] ws):g.length<=ws.length:=by
 have:=congrArg List.length (mN ws []);rw[Qh]at this;obtain⟨a,b,e⟩:=Bz h;rw[e]at this;simp at this;lia
theorem IW {x:Str} {ws:List Str} (h:Wds x "[]()" ws) (hb:∃g∈gr [] ws,C6 g):dZ [.str x]=some qw:=by
 refine gn rfl (gF (Db (s1:=[.v (.str x),.e]) rfl rfl h.r (EF (rb (Dc h) (wc h.l) ?_))));show y8 (gN 0) g8 cf ci (ac (aW 0) aj) 1 _ [.e]=_;have bd:∀g∈gr [] ws,(∀y∈g,Ft y)/\g.length<=1000000:=fun g hg=>⟨fun y hy=>h.f y (Dd hg hy),by have:=K9 hg;have:=h.l;lia⟩
 refine xJ gD [.e] (gr [] ws) (fun g hg=>⟨[.v (gD g)],[.v (gD g)],_,[.v (gD g)],[gD g],[.v (gD g)],rfl,rfl,rfl,rfl,?_⟩) ?_
 ·obtain⟨b1,b2⟩:=bd g hg;rcases K8 (xK ws [] g hg) with b|⟨k,h1,h2,h3,h4⟩
  ·exact .inl (uL b1 b2 b)
  ·obtain⟨r1,r2⟩:=uM b1 b2 h1 h2 h3 h4;exact .inr ⟨r1,_,[.v (gD g)],_,[.v (gD g)],cE rfl rfl r2,rfl,rfl⟩
 ·obtain⟨g,hg,b⟩:=hb;obtain⟨b1,b2⟩:=bd g hg;exact⟨g,hg,[.v (gD g)],[.v (gD g)],_,[.v (gD g)],[gD g],[.v (gD g)],rfl,rfl,rfl,rfl,uL b1 b2 b⟩
structure GT (ss:List bP):Prop where
 nm:∀s∈ss,∀p∈s.2,Nm p.2
 ne:∀s∈ss,s.2≠[]
 nd:((ss.flatMap (·.2)).map (·.2)).Nodup
 l1:(ss.flatMap (·.2)).length<=300
 l2:ss.length<=300
theorem GT.len {ss:List bP} (h:GT ss):∀s∈ss,s.2.length<=1000:=fun s hs=>by
 have h1:s.2.length<=(ss.flatMap (·.2)).length:=by
  obtain⟨a,b,rfl⟩:=Bz hs;rw[Xi,We,Wa,Wa];lia
 have:=h.l1;lia
theorem Fi {x:Str} {ws:List Str} {ss:List bP} (hw:Wds x "[]()" ws) (e:gr [] ws=ss.map tw) (h:GT ss):dZ [.str x]=none/\ji [.str x]=some (.tup (ss.map cU),false):=by
 have ed:(gr [] ws).map gD=ss.map (fun s=>gD (tw s)):=by rw[e,Vj];rfl
 have hn:∀p∈ss.flatMap (·.2),Nm p.2:=fun p hp=>by
  obtain⟨s,hs,hp⟩:=List.mem_flatMap.mp hp;exact h.nm s hs p hp
 have rg:∀s∈ss,cf [gD (tw s)]=none/\ci [gD (tw s)]=some (cU s,false):=fun s hs=>yX (h.nm s hs) (h.ne s hs) (h.len s hs) fun y hy=>hw.f y (Dd (g:=tw s) (by rw[e];exact Qc.mpr ⟨s,hs,rfl⟩) hy)
 have hc:cY 1 [] L0 (gN 0) g8 (dJ ci (ac (aW 0) aj)) [.v (.str x),.e]=some (.f (.lst (ss.map cU)),[.v (.str x),.e]):=by
  refine d8 (Dc hw) (wc hw.l) (s2:=[.e]) ?_;rw[ed];refine lE (fun s=>gD (tw s)) cU [.e] ss fun s hs=>?_;exact⟨[.v (gD (tw s))],[.v (gD (tw s))],.d (cU s),[.v (gD (tw s))],[.v (gD (tw s))],rfl,rfl,cE rfl rfl (rg s hs).2,rfl,rfl⟩
 have h1:mw 1 [] L0 (gN 0) g8 cf ci (ac (aW 0) aj) (fun fe=>bn (dL fI (ac fe aj)) 1) [.v (.str x),.e]=some (.o (.nx [.v (.str x),.v (.tup (ss.map cU))])):=by
  refine ED (rb (Dc hw) (wc hw.l) ?_) (cH (s:=[.v (.str x),.e]) (cP (ak hc rfl) rfl (uK _)) rfl);have:=Gz (fg:=gN 0) (k:=1) (R:=cf) (g:=ci) (fa:=ac (aW 0) aj) (fun s=>gD (tw s)) cU [.e] ss [] fun s hs=>⟨[.v (gD (tw s))],[.v (gD (tw s))],_,[.v (gD (tw s))],[gD (tw s)],[.v (gD (tw s))],.d (cU s),[.v (gD (tw s))],[.v (gD (tw s))],rfl,rfl,rfl,rfl,(rg s hs).1,cE rfl rfl (rg s hs).2,rfl,rfl⟩;rw[Wc]at this;rw[ed];exact this
 have t2:=uN (yW h.l1 h.l2) hn h.l1 h.nd;have:jh [.v (.str x),.e]=some (.o (.rt (.d (.tup (ss.map cU))) [.v (.str x),.v (.tup (ss.map cU))])) :=
  cR (Db (s1:=[.v (.str x),.e]) rfl rfl hw.r h1) (cR (s:=[.v (.str x),.v (.tup (ss.map cU))]) (jc (dB (cE rfl rfl t2))) (jc rfl))
 exact⟨my this,bY rfl (pE this) rfl⟩
def IX (ws:List Str):Prop:=ws.length<2∨(∃a,ws.head?=some a/\a≠"|")∨(∃a,ws.getLast?=some a/\a≠"|")∨∃y∈mid ws,gL y=false
theorem xL {x:Str} {ws:List Str} (h:Wds x "|" ws):iB eY dY (ac (aW 0) (ac (fC (.str "|")) aj)) (fun fe=>bn fe 1) [.v (.str x),.e,.e]=some (.o (.nx [.v (.str x),.o (.lst (ws.map D.str)),.e])):=kD (s1:=[.v (.str x),.e,.e]) rfl rfl h.r (hJ (s:=[.v (.str x),.e,.e]) (cE rfl rfl h.g) rfl)
theorem L1 {d:D} (h:cc [d,.ty "str"]=some (.bl false,false)):d6 [d]=some qw:=gn rfl (gF (mz (s1:=[.v d,.e,.e]) rfl rfl (GI h)))
theorem L3 {x:Str} {ws:List Str} {o:Sl}:aO (aL HN (dL dQ (ac (aW 1) aj)) (fC (.int 2))) [.v (.str x),.o (.lst (ws.map D.str)),o]=some (decide ((ws.length:Int)<2),[.v (.str x),.o (.lst (ws.map D.str)),o]):=by
 refine aK (aq (cP rfl rfl rfl) rfl rfl rfl rfl) ?_;show some (decide (((ws.map D.str).length:Int)<2))=_;rw[Xa]
theorem De {x:Str} {ws:List Str} (hw:Wds x "|" ws) (b:IX ws):d6 [.str x]=some qw:=by
 have hl:=hw.l;have hf:=hw.f;refine gn rfl (cR (xL hw) ?_);clear hw;by_cases c2:ws.length<2
 ·exact gF (nW (s:=[.v (.str x),.o (.lst (ws.map D.str)),.e]) (Ed (dR L3 (Ae (by lia)))) rfl)
 have t1:=dR (L3 (x:=x) (ws:=ws) (o:=.e)) (c:=false) (Ag (by lia))
 obtain⟨a,r,rfl⟩:∃a r,ws=a::r:=by
  cases ws with
  | nil=>simp at c2
  | cons a r=>exact⟨a,r,rfl⟩
 obtain⟨l,hlast⟩:∃l,(a::r).getLast?=some l:=⟨(a::r).getLast (by simp),Xh _⟩
 have e0:aO (aL tM (aL cK (aW 1) (fC (.int 0))) (fC (.str "|"))) [.v (.str x),.o (.lst ((a::r).map D.str)),.e]=some (!decide (a="|"),[.v (.str x),.o (.lst ((a::r).map D.str)),.e]):=aK (aq (aq rfl rfl rfl rfl (mM rfl)) rfl rfl rfl (jm _ _)) rfl;have e1:aO (aL tM (aL cK (aW 1) (Dt qr (fC (.int 1)))) (fC (.str "|"))) [.v (.str x),.o (.lst ((a::r).map D.str)),.e]=some (!decide (l="|"),[.v (.str x),.o (.lst ((a::r).map D.str)),.e]):=aK (aq (aq rfl rfl rfl rfl (oP hlast)) rfl rfl rfl (jm _ _)) rfl;by_cases ca:a="|"
 ·rw[Ae ca]at e0;by_cases cl:l="|"
  ·rw[Ae cl]at e1;have hx:∃y∈mid (a::r),gL y=false:=by
    rcases b with b|⟨y,hy,h1⟩|⟨y,hy,h1⟩|b
    ·exact absurd b c2
    ·cases hy;exact absurd ca h1
    ·rw[hlast]at hy;cases hy;exact absurd cl h1
    ·exact b
   refine cR (pD (s:=[.v (.str x),.o (.lst ((a::r).map D.str)),.e]) (lD t1 (lD e0 e1)) rfl) (gF (mz (s1:=[.v (.str x),.o (.lst ((a::r).map D.str)),.e]) (ak (cQ rfl rfl rfl rfl (oO (a::r) (by simp)) rfl) rfl) rfl (xI (fun y hy=>hf y (tj hy)) (by unfold mid;rw[Bp,Bc];lia) ?_)))
   obtain⟨y,hy,hk⟩:=hx;rw[List.all_eq_false];exact⟨y,hy,by rw[hk];decide⟩
  ·rw[Ag cl]at e1;exact gF (nW (lD t1 (lD e0 e1)) rfl)
 ·rw[Ag ca]at e0;exact gF (nW (lD t1 (Ed e0)) rfl)
def bar:Str:="|"
def lw (ps:List (Bool×Str)):List Str:=bar::(ps.map bd++[bar])
theorem Fj {x:Str} {ps:List (Bool×Str)} (hw:Wds x "|" (lw ps)) (hl:ps.length<=300) (hn:∀p∈ps,Nm p.2) (nd:(ps.map (·.2)).Nodup):d6 [.str x]=none/\iE [.str x]=some (.tup (ps.map bQ),false):=by
 have hm:mid (lw ps)=ps.map bd:=by unfold mid lw;rw[Bo,Bq]
 have sl:=oO (lw ps) (by unfold lw;simp)
 rw[hm,pX]at sl;have hla:(lw ps).getLast?=some "|":=by unfold lw;rw[Zl,Qj];rfl
 have a0:=mM (w:=lw ps) (a:="|") rfl;have a1:=oP hla;have t1:=L3 (x:=x) (ws:=lw ps) (o:=.e);rw[Ag (by unfold lw;simp;lia)]at t1
 obtain⟨g1,g2⟩:=lS (ws:=ps.map bd) (fun y hy=>by
  obtain⟨p,hp,rfl⟩:=Qc.mp hy;exact K6 (hn p hp)) (by rw[Xa];lia) (by
  rw[Qf];intro y hy;obtain⟨p,hp,rfl⟩:=Qc.mp hy
  exact nG (hn p hp))
 rw[pX]at g1 g2;have h0:=xL hw;generalize hL:(lw ps).map D.str=L at sl a0 a1 t1 h0;have h2:Ck (lh (aO (aL HN (dL dQ (ac (aW 1) aj)) (fC (.int 2)))) (lh (aO (aL tM (aL cK (aW 1) (fC (.int 0))) (fC (.str "|")))) (aO (aL tM (aL cK (aW 1) (Dt qr (fC (.int 1)))) (fC (.str "|")))))) (kB "BadText") (tO bM) [.v (.str x),.o (.lst L),.e]=some (.o (.nx [.v (.str x),.o (.lst L),.e])):=by
  refine pD (lD t1 (lD (dR (aK (aq (aq rfl rfl rfl rfl a0) rfl rfl rfl (jm _ _)) rfl) ?_) (dR (aK (aq (aq rfl rfl rfl rfl a1) rfl rfl rfl (jm _ _)) rfl) ?_))) rfl
  ·rw[Ae rfl];rfl
  ·rw[Ae rfl];rfl
 have h3:iB gb hX (ac (gl D6 (aW 1) (bC (fC (.int 1))) (bC (Dt qr (fC (.int 1))))) aj) (fun fe=>bn fe 2) [.v (.str x),.o (.lst L),.e]=some (.o (.nx [.v (.str x),.o (.lst L),.v (.tup (ps.map bQ))])) :=
  kD (s1:=[.v (.str x),.o (.lst L),.e]) (ak (cQ rfl rfl rfl rfl sl rfl) rfl) rfl g1 (cH (s:=[.v (.str x),.o (.lst L),.e]) (cE (ak (cQ rfl rfl rfl rfl sl rfl) rfl) rfl g2) rfl)
 have t2:=uN (v8 hl) hn hl nd;have:iD [.v (.str x),.e,.e]=some (.o (.rt (.d (.tup (ps.map bQ))) [.v (.str x),.o (.lst L),.v (.tup (ps.map bQ))])) :=
  cR h0 (cR h2 (cR h3 (cR (s:=[.v (.str x),.o (.lst L),.v (.tup (ps.map bQ))]) (jc (dB (cE rfl rfl t2))) (jc rfl))))
 exact⟨my this,bY rfl (pE this) rfl⟩
end
end K05
namespace VT
open PySem PySem.Spec PyProof.Rows L2 VF
def Fk (ms x:List Nat) (done:List (List Nat)) (w:Bool):Prop:=∃pre acc,(∀rest,wt ms [] (x++rest)=pre++wt ms acc rest)/\pre++em acc=done/\(w=false->acc=[])
theorem Fm (ms:List Nat):Fk ms [] [] false:=⟨[],[],fun _=>rfl,rfl,fun _=>rfl⟩
theorem tq {ms x g:List Nat} {done:List (List Nat)} {w:Bool} (h:Fk ms x done w) (hb:32∉ms) (hg:∀k∈g,y9 k) (hn:g=[]->w=false):Fk ms (x++g) done false:=by
 obtain⟨pre,acc,h1,h2,h3⟩:=h;by_cases e:g=[]
 ·subst e;rw[Wc];exact⟨pre,acc,h1,h2,fun _=>h3 (hn rfl)⟩
 ·refine⟨done,[],fun rest=>?_,by rw[sM,Wc],fun _=>rfl⟩
  rw[Wd,h1,EJ hb hg e,← Wd,h2]
theorem uO {ms x:List Nat} {c:Nat} {done:List (List Nat)} {w:Bool} (h:Fk ms x done w) (hb:32∉ms) (hb2:10∉ms) (hc:c∈ms):Fk ms (x++[c]) (done++[[c]]) false:=by
 obtain⟨pre,acc,h1,h2,h3⟩:=h;refine⟨done++[[c]],[],fun rest=>?_,by rw[sM,Wc],fun _=>rfl⟩
 rw[Wd,h1];show pre++wt ms acc (c::rest)=_;rw[EK hc hb hb2,← Wd,h2,Wd];rfl
theorem Df {ms x u:List Nat} {done:List (List Nat)} (h:Fk ms x done false) (hu:∀k∈u,CF ms k) (hn:u≠[]):Fk ms (x++u) (done++[u]) true:=by
 obtain⟨pre,acc,h1,h2,h3⟩:=h;obtain rfl:=h3 rfl;rw[sM,Wc]at h2;subst h2;refine⟨pre,u,fun rest=>?_,by rw[em,Ah hn],fun z=>nomatch z⟩
 rw[Wd,h1,xB hu,Qh]
theorem xM {ms x:List Nat} {done:List (List Nat)} {w:Bool} (h:Fk ms x done w):wt ms [] x=done:=by
 obtain⟨pre,acc,h1,h2,h3⟩:=h;have:=h1 [];rw[Wc]at this;rw[this,IH,h2]
end VT
namespace VF
open PySem L2
theorem yY {x:Str} {xs:List Str}:iM (.str x) (.lst (xs.map D.str))=some (.bl (!decide (x∈xs)),false):=by
 have h:=uq (x:=x) (xs:=xs);have e1:sv false (.str x) (.lst (xs.map D.str))=none:=rfl;have e2:sv true (.str x) (.lst (xs.map D.str))=none:=rfl;have f1:ph false (.str x) (.lst (xs.map D.str))=(jO (xs.map D.str)).bind (fun ws=>some (D.bl (vc (.str x) ws),false)):=rfl;have f2:ph true (.str x) (.lst (xs.map D.str))=(jO (xs.map D.str)).bind (fun ws=>some (D.bl (!vc (.str x) ws),false)):=rfl;unfold yt ng at h;rw[e1]at h;unfold iM ng;rw[e2];have h':ph false (.str x) (.lst (xs.map D.str))=some (.bl (decide (x∈xs)),false):=h;show ph true (.str x) (.lst (xs.map D.str))=_;rw[f1,kx]at h';rw[f2,kx];have h2:(some (D.bl (vc (.str x) (xs.map V.str)),false):Option (D×Bool))=some (.bl (decide (x∈xs)),false):=h';injection h2 with h2;injection h2 with h2;injection h2 with h2;show some (D.bl (!vc (.str x) (xs.map V.str)),false)=_;rw[h2]
end VF
namespace K05
open PySem L2 VF VL VF22 VX VT
noncomputable section
abbrev mS:List Nat:=[91,93,40,41]
theorem La:("[]()":Str).cps.toList=mS:=by decide +kernel
theorem we:("|":Str).cps.toList=[124]:=by decide +kernel
theorem fT (a b:Str):(a++b).cps.toList=a.cps.toList++b.cps.toList:=by rw[Av,Vh]
abbrev marksS:List Str:=["[","]","(",")","|"]
abbrev gapA:List Str:=[""," ","\n","  "," \n","\n     "]
abbrev gapB:List Str:=[" ","\n","  ","\n "," ","     "]
abbrev gapC:List Str:=[""," ","\n"," \n"]
theorem IY:∀x∈gapA,x.cps.toList.length<=6/\∀k∈x.cps.toList,y9 k:=by unfold y9;decide +kernel
theorem IZ:∀x∈gapB,x.cps.toList.length<=6/\(∀k∈x.cps.toList,y9 k)/\x.cps.toList≠[]:=by unfold y9;decide +kernel
theorem Ja:∀x∈gapC,x.cps.toList.length<=6/\∀k∈x.cps.toList,y9 k:=by unfold y9;decide +kernel
def Fo (ms:List Nat) (t:Str):Bool:=ms.any fun c=>decide (t.cps.toList=[c])
def GK (ms:List Nat) (t:Str):Prop:=t.cps.toList≠[]/\∀k∈t.cps.toList,CF ms k
theorem Fp {φ L:D} {x t:Str} {w:Bool} {o5:Sl} (hφ:cC φ) (l1:t.cps.toList.length<=9) (hx:x.cps.toList.length<=900000) (q5:o5.isIo=false) :
  ∃(φ':D) (g:Str) (o5':Sl),ia [.io φ,.v L,.v (.str x),.v (.bl w),.v (.str t),o5]=some (.nx [.io φ',.v L,.v (.str (x++g++t)),.v (.bl (!decide (t∈marksS))),.v (.str t),o5'])/\cC φ'/\o5'.isIo=false/\g.cps.toList.length<=6/\(∀k∈g.cps.toList,y9 k)/\(g.cps.toList=[]->w=true->t∈marksS):=by
 obtain⟨d,φ1,e1,d0,d1,f1⟩:=bK (n:=6) hφ (by decide) (by decide)
 have e0:bn (bu (ix gapA)) 5 [.io φ,.v L,.v (.str x),.v (.bl w),.v (.str t),o5]=some (.nx [.io φ,.v L,.v (.str x),.v (.bl w),.v (.str t),.o (.lst (gapA.map D.str))]):=hJ rfl (dH rfl q5);have nt:∀(a b:Sl) (y:Str) (o:Sl),aL iM (aW 4) (bu (ix marksS)) [a,b,.v (.str y),.v (.bl w),.v (.str t),o]=some (.d (.bl (!decide (t∈marksS))),[a,b,.v (.str y),.v (.bl w),.v (.str t),o]):=fun a b y o =>
  aq (d1:=.str t) (d2:=.lst (marksS.map D.str)) (z:=(.bl (!decide (t∈marksS)),false)) rfl rfl rfl rfl (yY (xs:=marksS))
 have fin:∀(gs:List Str) (g:Str),mf (gs.map D.str) d=some (.str g)->g.cps.toList.length<=6->aM (bn (aL fB (aL fB (aW 2) (aL cK (aW 5) (eW aD 0 (ac (fC (.int 6)) aj)))) (aW 4)) 2) (bn (aL iM (aW 4) (bu (ix ["[","]","(",")","|"]))) 3)
   [.io φ,.v L,.v (.str x),.v (.bl w),.v (.str t),.o (.lst (gs.map D.str))]=some (.nx [.io φ1,.v L,.v (.str (x++g++t)),.v (.bl (!decide (t∈marksS))),.v (.str t),.o (.lst (gs.map D.str))]):=fun gs g hg lg=>by
  have b1:x.length+g.length<=1000000:=by rw[eS,eS];lia
  have b2:(x++g).length+t.length<=1000000:=by rw[Ao,eS,eS,eS];lia
  refine af (s:=[.io φ1,.v L,.v (.str (x++g++t)),.v (.bl w),.v (.str t),.o (.lst (gs.map D.str))]) (cH (s:=[.io φ1,.v L,.v (.str x),.v (.bl w),.v (.str t),.o (.lst (gs.map D.str))]) (x:=.str (x++g++t)) ?_ rfl) (cH (nt _ _ _ _) rfl);exact aq (aq rfl (aq rfl (bJ rfl rfl rfl rfl rfl rfl e1) rfl rfl (cy hg)) rfl rfl (ku b1)) rfl rfl rfl (ku b2)
 by_cases c:w=true/\t∉marksS
 ·obtain⟨g,hg,hm,_⟩:=fF (xs:=gapB.map D.str) d0 d1;obtain⟨g,hm2,rfl⟩:=Qc.mp hm;obtain⟨b1,b2,b3⟩:=IZ g hm2;refine⟨φ1,g,.o (.lst (gapB.map D.str)),?_,f1,rfl,b1,b2,fun z=>absurd z b3⟩;refine af e0 (af (s:=[.io φ,.v L,.v (.str x),.v (.bl w),.v (.str t),.o (.lst (gapB.map D.str))]) (iW (qT (s:=[.io φ,.v L,.v (.str x),.v (.bl w),.v (.str t),.o (.lst (gapA.map D.str))]) ?_ (aK (nt _ _ _ _) ?_)) rfl) (fin gapB g hg b1))
  ·rw[c.1];rfl
  ·rw[Ag c.2];rfl
 ·obtain⟨g,hg,hm,_⟩:=fF (xs:=gapA.map D.str) d0 d1;obtain⟨g,hm2,rfl⟩:=Qc.mp hm;obtain⟨b1,b2⟩:=IY g hm2;refine⟨φ1,g,.o (.lst (gapA.map D.str)),?_,f1,rfl,b1,b2,fun _ hw=>A4 fun hb=>c ⟨hw,hb⟩⟩;refine af e0 (af (gE (s:=[.io φ,.v L,.v (.str x),.v (.bl w),.v (.str t),.o (.lst (gapA.map D.str))]) ?_ rfl) (fin gapA g hg b1));cases w with
  | false=>exact Gh rfl
  | true =>
   refine qT (s:=[.io φ,.v L,.v (.str x),.v (.bl true),.v (.str t),.o (.lst (gapA.map D.str))]) rfl (dR (aK (nt _ _ _ _) rfl) ?_);rw[Ae (A4 fun hb=>c ⟨rfl,hb⟩)];rfl
inductive Bu:List Str->Str->Bool->Prop
 | nil:Bu [] "" false
 | snoc {ts:List Str} {x g t:Str} {lw:Bool}:Bu ts x lw->(∀k∈g.cps.toList,y9 k)->g.cps.toList.length<=6->(g.cps.toList=[]->lw=true->t∈marksS)->t.cps.toList.length<=9->Bu (ts++[t]) (x++g++t) (!decide (t∈marksS))
theorem Bu.len {ts:List Str} {x:Str} {lw:Bool} (h:Bu ts x lw):x.cps.toList.length<=15*ts.length:=by
 induction h with
 | nil=>show 0<=_;lia
 | snoc h1 h2 h3 h4 h5 ih =>
  rw[fT,fT,Wa,Wa,Wa,Xj];lia
theorem Bu.chr {ts:List Str} {x:Str} {lw:Bool} (h:Bu ts x lw):∀t∈ts,∀c∈t.cps.toList,c∈x.cps.toList:=by
 induction h with
 | nil=>intro t ht;cases ht
 | snoc h1 h2 h3 h4 h5 ih =>
  intro u hu c hc;rw[fT,fT];rcases Zc.mp hu with hu|hu
  ·exact Zd _ (Zd _ (ih u hu c hc))
  ·obtain rfl:=Za.mp hu;exact Xc _ hc
theorem Bu.rdy {ms:List Nat} (hb:32∉ms) (hb2:10∉ms) {ts:List Str} {x:Str} {lw:Bool} (h:Bu ts x lw):(∀t∈ts,(Fo ms t=true∨GK ms t)/\(Fo ms t=false->t∉marksS))->∃pw,Fk ms x.cps.toList (ts.map fun t=>t.cps.toList) pw/\(pw=true->lw=true):=by
 induction h with
 | nil=>intro _;exact⟨false,Fm ms,fun z=>z⟩
 | @snoc ts x g t lw h1 h2 h3 h4 h5 ih =>
  intro ht;obtain⟨pw,r,hp⟩:=ih fun u hu=>ht u (Zd _ hu);obtain⟨k1,k2⟩:=ht t (by simp)
  rw[fT,fT,Qd];cases hm:Fo ms t with
  | true =>
   refine⟨false,?_,fun z=>by cases z⟩
   obtain⟨c,hc,hct⟩:=List.any_eq_true.mp hm;rw[List.map_singleton,An hct];by_cases eg:g.cps.toList=[]
   ·rw[eg,Wc];exact uO r hb hb2 hc
   ·exact uO (tq r hb h2 fun z=>absurd z eg) hb hb2 hc
  | false =>
   have nm:=k2 hm;have k:GK ms t:=by
    rcases k1 with k1|k1
    ·rw[hm]at k1;cases k1
    ·exact k1
   refine⟨true,Df (tq r hb h2 fun z=>?_) k.2 k.1,fun _=>by rw[Ag nm];rfl⟩
   cases hpw:pw with
   | false=>rfl
   | true=>exact absurd (h4 z (hp hpw)) nm
structure Txs (ts:List Str) (x:Str):Prop where
 len:x.cps.toList.length<=15*ts.length+6
 chr:∀t∈ts,∀c∈t.cps.toList,c∈x.cps.toList
 wds:∀ms:List Nat,32∉ms->10∉ms->(∀t∈ts,(Fo ms t=true∨GK ms t)/\(Fo ms t=false->t∉marksS))->wt ms [] x.cps.toList=ts.map fun t=>t.cps.toList
theorem kH {φ:D} {ts:List Str} (hφ:cC φ) (h9:∀t∈ts,t.cps.toList.length<=9) (hl:ts.length<=600) :
  ∃(x:Str) (φ':D),ef φ [.lst (ts.map D.str)]=some ((.str x,false),φ')/\cC φ'/\Txs ts x:=by
 obtain⟨sf,e,φ1,x,w,o4,o5,rfl,f1,r,q4,q5⟩:=kA (fg:=gN 4) (B:=ia) D.str ts
  (fun gone s=>∃(φ1:D) (x:Str) (w:Bool) (o4 o5:Sl),s=[.io φ1,.v (.lst (ts.map D.str)),.v (.str x),.v (.bl w),o4,o5]/\cC φ1/\Bu gone x w/\o4.isIo=false/\o5.isIo=false)
  (by
   rintro gone t rest s ha ⟨φ1,x,w,o4,o5,rfl,f1,r,q4,q5⟩;have hg:=congrArg List.length ha;rw[Wa,Vd]at hg;have lx:=r.len;have ht:=h9 t (by rw[ha];simp)
   obtain⟨φ2,g,o5',e2,f2,q5',l2,b2,n2⟩:=Fp (L:=.lst (ts.map D.str)) (x:=x) (t:=t) (w:=w) (o5:=o5) f1 ht (by lia) q5
   exact⟨_,_,dH rfl q4,e2,φ2,x++g++t,_,.v (.str t),o5',rfl,f2,.snoc r b2 l2 n2 ht,rfl,q5'⟩)
  ts [] [.io φ,.v (.lst (ts.map D.str)),.v (.str ""),.v (.bl false),.e,.e] rfl ⟨φ,"",false,.e,.e,rfl,hφ,.nil,rfl,rfl⟩
 obtain⟨d,φ2,e1,d0,d1,f2⟩:=bK (n:=4) f1 (by decide) (by decide)
 obtain⟨g,hg,hm,_⟩:=fF (xs:=gapC.map D.str) d0 d1;obtain⟨g,hm2,rfl⟩:=Qc.mp hm;obtain⟨b1,b2⟩:=Ja g hm2;have lx:=r.len;refine⟨x++g,φ2,?_,f2,⟨by rw[fT,Wa];lia,fun t ht c hc=>by rw[fT];exact Zd _ (r.chr t ht c hc),fun ms h1 h2 h3=>?_⟩⟩
 ·refine cu (o:=.rt (.d (.str (x++g))) [.io φ2,.v (.lst (ts.map D.str)),.v (.str x),.v (.bl w),o4,o5]) rfl ?_ rfl;exact af rfl (af rfl (af (iP (kO rfl rfl) e) (bE (aq rfl (aq (d1:=.lst (gapC.map D.str)) rfl (bJ rfl rfl rfl rfl rfl rfl e1) rfl rfl (cy hg)) rfl rfl (ku (by rw[eS,eS];lia))))))
 ·obtain⟨pw,r2,_⟩:=r.rdy h1 h2 h3;rw[fT];by_cases e:g.cps.toList=[]
  ·rw[e,Wc];exact xM r2
  ·exact xM (tq r2 h1 b2 fun z=>absurd z e)
theorem wf:∀(l acc:List Nat),(wd acc l).length<=l.length+1
 | [],acc=>by unfold wd em;split<;>simp
 | k::r,acc=>by
  unfold wd;split
  ·have:=wf r [];rw[Wa,Vd];have:(em acc).length<=1:=by unfold em;split<;>simp
   lia
  ·have:=wf r (acc++[k]);rw[Vd];lia
theorem tv:∀(l acc:List Nat),∀w∈wd acc l,w.length<=acc.length+l.length
 | [],acc=>by
  intro w hw;unfold wd em at hw;split at hw
  ·cases hw
  ·obtain rfl:=Za.mp hw;lia
 | k::r,acc=>by
  intro w hw;unfold wd at hw;split at hw
  ·rcases Zc.mp hw with hw|hw
   ·unfold em at hw;split at hw
    ·cases hw
    ·obtain rfl:=Za.mp hw;lia
   ·have:=tv r [] w hw;rw[Vd];simp at this;lia
  ·have:=tv r (acc++[k]) w hw;rw[Wa,Xj]at this;rw[Vd];lia
theorem wg {c:Nat} (h:c≠32):∀(l acc:List Nat),(c∈acc∨c∈l)->∃w∈wd acc l,c∈w
 | [],acc,hc=>by
  rcases hc with hc|hc
  ·unfold wd em;rw[Ah (fun z=>by rw[z]at hc;cases hc)]
   exact⟨acc,Za.mpr rfl,hc⟩
  ·cases hc
 | k::r,acc,hc=>by
  unfold wd;split
  ·next hk =>
   rcases hc with hc|hc
   ·refine⟨acc,Zd _ ?_,hc⟩;unfold em;rw[Ah (fun z=>by rw[z]at hc;cases hc)]
    exact Za.mpr rfl
   ·rcases Vc.mp hc with e|hc
    ·exact absurd (e.trans hk) h
    ·obtain⟨w,hw,hcw⟩:=wg h r [] (.inr hc);exact⟨w,Xc _ hw,hcw⟩
  ·refine wg h r (acc++[k]) ?_;rcases hc with hc|hc
   ·exact .inl (Zd _ hc)
   ·rcases Vc.mp hc with e|hc
    ·exact .inl (by rw[e];simp)
    ·exact .inr hc
theorem Lb (ms:List Nat) (k:Nat):(VT.ft ms k).length<=3:=by
 unfold VT.ft;split
 ·simp
 ·split<;>simp
theorem Jb (l:List Nat):(tx l).length=l.length:=by rw[eS];rfl
theorem Lc {y:Str} (h:y.length<=1000000):Ft y:=⟨h,by
 unfold Dy;split
 ·exact Yc (Bf _ _ _) h
 ·exact h⟩
def wj (m x:Str):List Str:=(wt m.cps.toList [] x.cps.toList).map tx
def rq (b:Bool):Str:=if b then "|" else "[]()"
theorem Dg (b:Bool):32∉(rq b).cps.toList/\10∉(rq b).cps.toList/\(rq b).cps.toList.Nodup/\(rq b).cps.toList.length<=4:=by cases b<;>decide +kernel
theorem kI {b:Bool} {x:Str} (hx:x.cps.toList.length<=2900):Wds x (rq b) (wj (rq b) x):=by
 obtain⟨h1,h2,h3,h4⟩:=Dg b;obtain⟨r,g⟩:=IS h1 h2 h3 h4 (x:=x) (by lia)
 have fl:(x.cps.toList.flatMap (VT.ft (rq b).cps.toList)).length<=3*x.cps.toList.length:=sZ 3 (Lb _) _;refine⟨r,?_,?_,fun y hy=>?_⟩
 ·rw[g];unfold wj;rw[Vj];rfl
 ·unfold wj;rw[Xa];have:=wf (x.cps.toList.flatMap (VT.ft (rq b).cps.toList)) [];unfold wt;lia
 ·unfold wj at hy;obtain⟨l,hl,rfl⟩:=Qc.mp hy;have:=tv (x.cps.toList.flatMap (VT.ft (rq b).cps.toList)) [] l hl;refine Lc ?_;rw[Jb];simp only[AV,AY]at this;lia
theorem uP {b:Bool} {x:Str} {c:Nat} (hc:c∈x.cps.toList) (hw:CF (rq b).cps.toList c):∃y∈wj (rq b) x,c∈y.cps.toList:=by
 have:c∈x.cps.toList.flatMap (VT.ft (rq b).cps.toList):=List.mem_flatMap.mpr ⟨c,hc,by unfold VT.ft;rw[Ah hw.2.1,Ah hw.2.2];simp⟩
 obtain⟨w,h1,h2⟩:=wg hw.1 _ [] (.inr this);exact⟨tx w,Qc.mpr ⟨w,h1,rfl⟩,h2⟩
theorem oR {b:Bool} {ts:List Str} {x:Str} (h:Txs ts x) (ht:∀t∈ts,(Fo (rq b).cps.toList t=true∨GK (rq b).cps.toList t)/\(Fo (rq b).cps.toList t=false->t∉marksS)):wj (rq b) x=ts:=by
 obtain⟨h1,h2,_,_⟩:=Dg b;unfold wj;rw[h.wds _ h1 h2 ht,Vj]
 conv=>rhs;rw[← List.map_id ts]
 refine Vk fun t _=>?_;exact v9 t
theorem Jc:∀c∈[124,91,93,40,41],IQ c=false:=by decide +kernel
theorem yZ {x:Str} (h:Txt.startswith x minus=true):∃r:List Nat,x=minus++tx r:=by
 have e1:minus.length=1:=by decide +kernel
 unfold Txt.startswith at h;rw[StrLaws.subAt_eq,dX,e1,Qe]at h;have h2:((x.cps.toList.drop 0).take 1 == [45])=true:=h.2;cases hl:x.cps.toList with
 | nil=>rw[hl]at h2;cases h2
 | cons a r =>
  rw[hl]at h2;have:a=45:=by simpa using h2
  refine⟨r,sN ?_⟩;rw[hl,fT,dX,this];rfl
theorem Dh {y:Str} {c:Nat} (hc:c∈y.cps.toList) (h:c∈[124,91,93,40,41]):gL y=false:=by
 have hn:=Jc c h;have h45:c≠45:=fun z=>by rw[z]at h;revert h;decide
 have key:c∈(Dy y).cps.toList:=by
  unfold Dy;split
  ·next hs =>
   obtain⟨r,rfl⟩:=yZ hs;rw[CL];rw[fT,dX]at hc;rcases Zc.mp hc with hc|hc
   ·exact absurd (Za.mp hc) h45
   ·exact hc
  ·exact hc
 unfold gL GH;rw[Bool.and_eq_false_iff];right;rw[List.all_eq_false];exact⟨c,key,by rw[hn];decide⟩
end
end K05
namespace VF
open PySem L2
theorem xO {fa:FE} {st s:En} {r:Rs} {b:Bool} (h:fa st=some (r,s)) (h2:F6 s r=some b):ua fa st=some (.d (.bl (!b)),s):=by
 simp only[ua,h,h2,Ya]
end VF
namespace K05
open PySem L2 VF VL VF22 VX VT
noncomputable section
abbrev St:=Option (Option (Bool×Bool))
def ke:St->Str->St
 | none,_=>none
 | some none,t=>if t=gu false then some (some (false,false)) else if t=gu true then some (some (true,false)) else none
 | some (some (r,ne)),t=>if gL t then some (some (r,true)) else if t=cls r/\ne=true then some none else none
def run (s:St) (ws:List Str):St:=ws.foldl ke s
theorem cV (ws:List Str):run none ws=none:=by
 unfold run;induction ws with
 | nil=>rfl
 | cons a r ih=>exact ih
theorem bU (s:St) (a b:List Str):run s (a++b)=run (run s a) b:=List.foldl_append
theorem cD (s:St) (a:Str) (b:List Str):run s (a::b)=run (ke s a) b:=rfl
theorem xP:gL "["=false/\gL "]"=false/\gL "("=false/\gL ")"=false:=by decide +kernel
theorem lV (r:Bool):gL (gu r)=false:=by cases r<;>first|exact xP.1|exact xP.2.2.1
theorem tz (r:Bool):gL (cls r)=false:=by cases r<;>first|exact xP.2.1|exact xP.2.2.2
theorem jn (r:Bool):ke (some none) (gu r)=some (some (r,false)):=by cases r<;>simp only[ke]<;>decide +kernel
theorem kJ:∀(bs:List Str) (r ne:Bool),(∀x∈bs,gL x=true)->bs≠[]->run (some (some (r,ne))) bs=some (some (r,true))
 | [],_,_,_,h=>absurd rfl h
 | [b],r,ne,h,_=>by
  show ke (some (some (r,ne))) b=_;simp only[ke,h b (Za.mpr rfl),if_true]
 | b::c::bs,r,ne,h,_=>by
  rw[cD,show ke (some (some (r,ne))) b=some (some (r,true)) by simp only[ke,h b (Va ..),if_true]]
  exact kJ (c::bs) r true (fun x hx=>h x (Yb _ hx)) (by simp)
theorem oS (r:Bool):ke (some (some (r,true))) (cls r)=some none:=by simp only[ke,tz r];simp
theorem uQ {w:List Str} {k:Bool} (h1:w.head?=some (gu k)) (h2:w.getLast?=some (cls k)) (h3:(mid w).all gL=true) (h4:mid w≠[]):run (some none) w=some none:=by
 obtain⟨m,rfl⟩:∃m,w=gu k::(m++[cls k]):=by
  cases w with
  | nil=>cases h1
  | cons a r =>
   cases h1;have hr:r≠[]:=fun z=>by
    rw[z]at h4;exact h4 rfl
   refine⟨r.dropLast,?_⟩;have hl:r.getLast hr=cls k:=by
    rw[Zl,Xh hr]at h2;simpa using h2
   rw[← hl,Vn hr]
 have hm:mid (gu k::(m++[cls k]))=m:=by unfold mid;rw[Bo,Bq]
 rw[hm]at h3 h4;rw[cD,jn,bU,kJ m k false (fun x hx=>Qf.mp h3 x hx) h4];exact oS k
theorem Di:∀(gs:List (List Str)),(∀g∈gs,g≠[])->(¬ ∃g∈gs,C6 g)->run (some none) gs.flatten=some none
 | [],_,_=>rfl
 | g::gs,hn,hb=>by
  have h1:¬ C6 g:=fun b=>hb ⟨g,Va ..,b⟩;rw[List.flatten_cons,bU];rcases K8 (hn g (Va ..)) with b|⟨k,a1,a2,a3,a4⟩
  ·exact absurd b h1
  ·rw[uQ a1 a2 a3 a4];exact Di gs (fun x hx=>hn x (Yb _ hx)) fun⟨x,hx,b⟩=>hb ⟨x,Yb _ hx,b⟩
theorem Dj {x:Str} {ws:List Str} (h:Wds x "[]()" ws) (hr:run (some none) ws≠some none):dZ [.str x]=some qw:=by
 refine IW h (A4 fun hb=>hr ?_);have:=Di (gr [] ws) (xK ws []) hb;rw[mN ws [],Qh]at this;exact this
theorem Fq {t:Str} (h1:gL t=false) (h2:∀r,t≠gu r/\t≠cls r) (s:St):ke s t=none:=by
 rcases s with _|_|⟨r,ne⟩
 ·rfl
 ·simp only[ke,(h2 false).1,(h2 true).1,if_false]
 ·simp only[ke,h1,(h2 r).2];simp
theorem Dk {ws:List Str} {t:Str} (ht:t∈ws) (h1:gL t=false) (h2:∀r,t≠gu r/\t≠cls r) (s:St):run s ws=none:=by
 obtain⟨a,b,rfl⟩:=Bz ht;rw[bU,cD,Fq h1 h2,cV]
theorem Jd {ws:List Str} {t:Str} (ht:t∈ws):ws.head?=some t∨ws.getLast?=some t∨t∈mid ws:=by
 cases ws with
 | nil=>cases ht
 | cons a r =>
  rcases Vc.mp ht with rfl|ht
  ·exact .inl rfl
  ·right;have hr:r≠[]:=fun z=>by rw[z]at ht;cases ht
   rw[← Vn hr]at ht;rcases Zc.mp ht with ht|ht
   ·right;exact ht
   ·left;rw[Za.mp ht,Zl,Xh hr];rfl
theorem xQ {ws:List Str} {t:Str} (ht:t∈ws) (h1:gL t=false) (h2:t≠"|"):IX ws:=by
 rcases Jd ht with h|h|h
 ·exact .inr (.inl ⟨t,h,h2⟩)
 ·exact .inr (.inr (.inl ⟨t,h,h2⟩))
 ·exact .inr (.inr (.inr ⟨t,h,h1⟩))
theorem Je:gL bar=false:=by decide +kernel
theorem GL (r:Bool):∀c∈(gu r).cps.toList++(cls r).cps.toList,c≠124:=by cases r<;>decide +kernel
theorem xR:bar.cps.toList=[124]:=by decide +kernel
def za (b:Bool) (d:D):Prop:=(if b then d6 [d] else dZ [d])=some qw
theorem oU {x:Str} (hx:x.cps.toList.length<=2900):(124∈x.cps.toList->za false (.str x))/\(∀c∈[91,93,40,41],c∈x.cps.toList->za true (.str x)):=by
 constructor
 ·intro hc;obtain⟨y,hy,hcy⟩:=uP (b:=false) hc (by show CF ("[]()":Str).cps.toList 124;unfold CF;decide +kernel)
  refine Dj (kI (b:=false) hx) ?_;rw[Dk hy (Dh hcy (by decide)) (fun r=>⟨fun z=>?_,fun z=>?_⟩)]
  ·simp
  ·rw[z]at hcy;exact GL r _ (Zd _ hcy) rfl
  ·rw[z]at hcy;exact GL r _ (Xc _ hcy) rfl
 ·intro c h4 hc;have hne:c≠124:=fun z=>by rw[z]at h4;revert h4;decide
  obtain⟨y,hy,hcy⟩:=uP (b:=true) hc (by
   show CF ("|":Str).cps.toList c;rw[we]
   refine⟨fun z=>?_,fun z=>?_,fun z=>hne (Za.mp z)⟩<;>rw[z]at h4<;>revert h4<;>decide)
  refine De (kI (b:=true) hx) (xQ hy (Dh hcy (Yb _ h4)) fun z=>?_);rw[z,we]at hcy;exact hne (Za.mp hcy)
theorem GM {b:Bool} {d:D} (h:cc [d,.ty "str"]=some (.bl false,false)):za b d:=by
 cases b with
 | true=>exact L1 h
 | false=>exact show dZ [d]=some qw from gn rfl (gF (IV (s1:=[.v d,.e]) rfl rfl (GI h)))
theorem Jf {b:Bool} {d:D} (h:za b d):lO [.bl b,d]=some qw:=by
 cases b with
 | true=>exact gn rfl (gF (nW (s:=[.v (.bl true),.v d]) rfl (mz (s1:=[.v (.bl true),.v d]) rfl rfl h)))
 | false=>exact gn rfl (cR (pD (s:=[.v (.bl false),.v d]) rfl rfl) (mz (s1:=[.v (.bl false),.v d]) rfl rfl h))
theorem Dl {b:Bool} {x:Str} {d:D} (h:(if b then d6 [.str x] else dZ [.str x])=none) (h2:(if b then iE [.str x] else ji [.str x])=some (d,false)):fw [.bl b,.str x]=some (d,false):=by
 cases b with
 | true =>
  have e:ie [.v (.bl true),.v (.str x)]=some (.o (.rt (.d d) [.v (.bl true),.v (.str x)])):=EC (nW (s:=[.v (.bl true),.v (.str x)]) rfl (kD (s1:=[.v (.bl true),.v (.str x)]) rfl rfl h (bE (cE rfl rfl h2))));exact bY rfl (pE e) rfl
 | false =>
  have e:ie [.v (.bl false),.v (.str x)]=some (.o (.rt (.d d) [.v (.bl false),.v (.str x)])):=cR (pD (s:=[.v (.bl false),.v (.str x)]) rfl rfl) (kD (s1:=[.v (.bl false),.v (.str x)]) rfl rfl h (bE (cE rfl rfl h2)));exact bY rfl (pE e) rfl
theorem lW {b:Bool} {d:D} (h:za b d):eO [.bl b,d]=some (.bl true,false):=by
 refine bY (o:=.rt (.d (.bl true)) [.v (.bl b),.v d,.v (.bl true),.e]) rfl ?_ rfl;refine af (s:=[.v (.bl b),.v d,.v (.bl false),.e]) rfl ?_;have t:∀(c:Bool) (o:Sl),qt [("BadText",c)] (aW 3) [.v (.bl b),.v d,o,.v (.xc "BadText" "" none)]=some (.d (.bl c),[.v (.bl b),.v d,o,.v (.xc "BadText" "" none)]):=fun c o=>IE rfl rfl (Wn);refine af (ID (s1:=[.v (.bl b),.v d,.v (.bl false),.e]) (s3:=[.v (.bl b),.v d,.v (.bl true),.v (.xc "BadText" "" none)]) rfl rfl (Jf h) rfl (Za.mpr rfl) ?_ rfl) rfl;show aM _ _ [.v (.bl b),.v d,.v (.bl false),.v (.xc "BadText" "" none)]=_;refine af (s:=[.v (.bl b),.v d,.v (.bl true),.v (.xc "BadText" "" none)]) (cH (s:=[.v (.bl b),.v d,.v (.bl false),.v (.xc "BadText" "" none)]) (x:=.bl true) (jP (t true _) rfl (jP (t true _) rfl (xO (t false _) rfl))) rfl) ?_;exact cH (s:=[.v (.bl b),.v d,.v (.bl true),.v (.xc "BadText" "" none)]) (x:=.bl true) (jP (r:=.d (.bl true)) (s:=[.v (.bl b),.v d,.v (.bl true),.v (.xc "BadText" "" none)]) rfl rfl (xO (t false _) rfl)) rfl
end
end K05
namespace VF
open PySem L2
theorem fU {fa:FA} {st s1 s2:En} {rs:List Rs} {ds:List D} (h1:fa st=some (rs,s1)) (h2:cq rs s1=some (ds,s2)) (h3:ds.length<=1000000):bu fa st=some (.f (.lst ds),s2):=by
 simp only[bu,h1,h2,Ya];rw[Af h3]
end VF
namespace K05
open PySem L2 VF VL VF22 VX VT
noncomputable section
def tk (s:bP):List D:=.str (gu s.1)::(s.2.map bQ++[.str (cls s.1)])
theorem Jg (s:bP):(tk s).length=s.2.length+2:=by simp[tk]
theorem xS (ss:List bP):(ss.flatMap tk).length=(ss.flatMap (·.2)).length+2*ss.length:=by
 induction ss with
 | nil=>rfl
 | cons s r ih=>rw[We,We,Wa,Wa,ih,Jg,Vd];lia
def Jy (r:Bool):List D:=[.str (gu r),.str (cls r)]
theorem uR {W:D} {T:List D} {s:bP} {o4:Sl} (q:o4.isIo=false) (hl:T.length+s.2.length<=900000) :
  ∃o4':Sl,o4'.isIo=false/\hZ [.v W,.o (.lst T),.v (.str (kd s.1)),.v (.tup (s.2.map bQ)),o4]=some (.nx [.v W,.o (.lst (T++tk s)),.v (.str (kd s.1)),.v (.tup (s.2.map bQ)),o4']):=by
 have ek:∀r:Bool,decide (V.str (kd r)=V.str "ring")=r:=by
  intro r;cases r
  ·exact Ag fun z=>absurd (V.str.inj z) (by decide +kernel)
  ·exact Ae rfl
 refine⟨.o (.lst (Jy s.1)),rfl,?_⟩;refine af (s:=[.v W,.o (.lst T),.v (.str (kd s.1)),.v (.tup (s.2.map bQ)),.o (.lst (Jy false))]) (hJ (s:=[.v W,.o (.lst T),.v (.str (kd s.1)),.v (.tup (s.2.map bQ)),o4]) rfl (dH rfl q)) ?_;have h2:gP (aO (aL ju (aW 2) (fC (.str "ring")))) (bn (bu (ac (fC (.str "(")) (ac (fC (.str ")")) aj))) 4) bM [.v W,.o (.lst T),.v (.str (kd s.1)),.v (.tup (s.2.map bQ)),.o (.lst (Jy false))]=some (.nx [.v W,.o (.lst T),.v (.str (kd s.1)),.v (.tup (s.2.map bQ)),.o (.lst (Jy s.1))]):=by
  have e:=ek s.1;cases hr:s.1 with
  | true =>
   rw[hr]at e;exact iW (dR (b:=decide (V.str (kd true)=V.str "ring")) (aK (aq rfl rfl rfl rfl rfl) rfl) e) rfl
  | false =>
   rw[hr]at e;exact gE (dR (b:=decide (V.str (kd false)=V.str "ring")) (aK (aq rfl rfl rfl rfl rfl) rfl) e) rfl
 refine af h2 ?_;have s1:bV (.lst (Jy s.1)) none (some 1)=some (.lst [.str (gu s.1)],true):=rfl;have s2:bV (.lst (Jy s.1)) (some 1) none=some (.lst [.str (cls s.1)],true):=rfl;have l1:(s.2.map bQ).length=s.2.length:=Xa ..;have a1:=fN (a:=T) (b:=[.str (gu s.1)]) (by show T.length+1<=_;lia)
 have a2:=fN (a:=T++[.str (gu s.1)]) (b:=s.2.map bQ) (by rw[Wa,l1];show T.length+1+_<=_;lia)
 have a3:=fN (a:=T++[.str (gu s.1)]++s.2.map bQ) (b:=[.str (cls s.1)]) (by rw[Wa,Wa,l1];show T.length+1+_+1<=_;lia)
 have et:T++[.str (gu s.1)]++s.2.map bQ++[.str (cls s.1)]=T++tk s:=by unfold tk;simp
 rw[et]at a3;exact hJ (aq (aq (aq rfl (cQ rfl rfl rfl rfl s1 rfl) rfl rfl a1) (cP rfl rfl rfl) rfl rfl a2) (cQ rfl rfl rfl rfl s2 rfl) rfl rfl a3) rfl
theorem My {i j:Nat} {a b:D} {st s1 s2:En} (h1:mj i (.v a) st=some s1) (h2:mj j (.v b) s1=some s2):VF.gT 2 (DV (gN i) (DV (gN j) JW)) (.tup [a,b]) st=some s2:=by
 show(if 2=2 then DV (gN i) (DV (gN j) JW) [a,b] st else none)=_;rw[Af rfl];show(mj i (.v a) st).bind _=_;rw[h1];show(mj j (.v b) s1).bind _=_;rw[h2];rfl
theorem y2 {ss:List bP} (hl:(ss.flatMap (·.2)).length+2*ss.length<=10000):gU [.tup (ss.map cU)]=some (.lst (ss.flatMap tk),true):=by
 obtain⟨sf,e,o2,o3,o4,rfl,q2,q3,q4⟩:=kA (fg:=gT 2 (DV (gN 2) (DV (gN 3) JW))) (B:=hZ) cU ss
  (fun gone s=>∃(o2 o3 o4:Sl),s=[.v (.tup (ss.map cU)),.o (.lst (gone.flatMap tk)),o2,o3,o4]/\o2.isIo=false/\o3.isIo=false/\o4.isIo=false)
  (by
   rintro gone s rest st ha ⟨o2,o3,o4,rfl,q2,q3,q4⟩;have hb:(gone.flatMap tk).length+s.2.length<=900000:=by
    rw[xS];rw[ha,Xi,We,Wa,Wa,Wa]at hl;lia
   obtain⟨o4',q4',e2⟩:=uR (W:=.tup (ss.map cU)) (T:=gone.flatMap tk) (s:=s) q4 hb;refine⟨[.v (.tup (ss.map cU)),.o (.lst (gone.flatMap tk)),.v (.str (kd s.1)),.v (.tup (s.2.map bQ)),o4],_,?_,e2,.v (.str (kd s.1)),.v (.tup (s.2.map bQ)),o4',?_,rfl,rfl,q4'⟩
   ·exact My (dH rfl q2) (dH rfl q3)
   ·rw[Xi];simp)
  ss [] [.v (.tup (ss.map cU)),.o (.lst []),.e,.e,.e] rfl ⟨.e,.e,.e,rfl,rfl,rfl,rfl⟩
 refine bY (o:=.rt (.s 1) [.v (.tup (ss.map cU)),.o (.lst (ss.flatMap tk)),o2,o3,o4]) rfl ?_ rfl;exact af rfl (af (iP (xb rfl rfl) e) rfl)
theorem uS {p:Bool×Str} (h:Nm p.2):∀k∈(bd p).cps.toList,k=45∨(97<=k/\k<=122):=by
 obtain⟨t,n⟩:=p;intro k hk;cases t with
 | false=>exact .inr (h.2.2 k hk)
 | true =>
  have e:(bd (true,n)).cps.toList=45::n.cps.toList:=by
   show(minus++n).cps.toList=_;rw[Av,Vh];rfl
  rw[e]at hk;rcases Vc.mp hk with e|hk
  ·exact .inl e
  ·exact .inr (h.2.2 k hk)
theorem Ld {p:Bool×Str} (h:Nm p.2):(bd p).cps.toList≠[]:=fun e=>by
 have:=(pL h).1;rw[eS,e]at this;exact absurd this (by simp)
theorem tD {p:Bool×Str} (h:Nm p.2):bd p∉marksS:=fun hm=>by
 have hs:=uS h;have:∀x∈marksS,∃k∈x.cps.toList,¬ (k=45∨(97<=k/\k<=122)):=by decide +kernel
 obtain⟨k,hk,hno⟩:=this _ hm;exact hno (hs k hk)
theorem Le {p:Bool×Str} (h:Nm p.2):¬ (bd p="]"∨bd p=")"):=fun e=>tD h (by rcases e with e|e<;>rw[e]<;>decide +kernel)
theorem Fr {p:Bool×Str} (h:Nm p.2):(bd p).cps.toList.length<=9:=by have:=(pL h).2;rw[eS]at this;lia
theorem Lf {b:Bool} {p:Bool×Str} (h:Nm p.2):GK (rq b).cps.toList (bd p):=by
 refine⟨Ld h,fun k hk=>?_⟩;have:=uS h k hk;cases b
 ·show CF ("[]()":Str).cps.toList k;rw[La];refine⟨by lia,by lia,?_⟩
  simp only[Vc,Zi,AQ];lia
 ·show CF ("|":Str).cps.toList k;rw[we];refine⟨by lia,by lia,?_⟩
  simp only[Vc,Zi,AQ];lia
def y4 (ss:List bP):List Str:=ss.flatMap tw
theorem GN (ss:List bP):ss.flatMap tk=(y4 ss).map D.str:=by
 unfold y4;rw[List.map_flatMap];refine jT fun s _=>?_;unfold tk tw;rw[Ze,Qd,pX];rfl
def Tk (b:Bool) (t:Str):Prop:=((Fo (rq b).cps.toList t=true∨GK (rq b).cps.toList t)/\(Fo (rq b).cps.toList t=false->t∉marksS))/\t.cps.toList.length<=9
theorem xT {b:Bool} {p:Bool×Str} (h:Nm p.2):Tk b (bd p):=⟨⟨.inr (Lf h),fun _=>tD h⟩,Fr h⟩
instance (ms:List Nat) (k:Nat):Decidable (CF ms k):=by unfold CF;infer_instance
instance (ms:List Nat) (t:Str):Decidable (GK ms t):=by unfold GK;infer_instance
instance (b:Bool) (t:Str):Decidable (Tk b t):=by unfold Tk;infer_instance
abbrev mks:List Str:=["[","]","(",")"]
theorem gh:∀t∈mks,Tk false t:=by decide +kernel
theorem iF (r:Bool):gu r∈mks:=by cases r<;>decide +kernel
theorem oW (r:Bool):cls r∈mks:=by cases r<;>decide +kernel
theorem iR {m:Str} (h:m∈mks):∃r,m=gu r∨m=cls r:=by
 simp only[Vc,Zi,AQ]at h;rcases h with h|h|h|h
 ·exact⟨false,.inl h⟩
 ·exact⟨false,.inr h⟩
 ·exact⟨true,.inl h⟩
 ·exact⟨true,.inr h⟩
theorem gi (r q:Bool):gu r≠cls q:=by cases r<;>cases q<;>decide +kernel
theorem xU {r q:Bool} (h:cls r=cls q):r=q:=by revert h;cases r<;>cases q<;>decide +kernel
structure Wk (W:List Str):Prop where
 tok:∀t∈W,t∈mks∨∃p:Bool×Str,Nm p.2/\t=bd p
 run:run (some none) W=some none
theorem Lg {ss:List bP} (h:∀s∈ss,∀p∈s.2,Nm p.2) (ne:∀s∈ss,s.2≠[]):Wk (y4 ss):=by
 refine⟨fun t ht=>?_,?_⟩
 ·unfold y4 at ht;obtain⟨s,hs,ht⟩:=List.mem_flatMap.mp ht;unfold tw at ht;rcases Vc.mp ht with rfl|ht
  ·exact .inl (iF _)
  ·rcases Zc.mp ht with ht|ht
   ·obtain⟨p,hp,rfl⟩:=Qc.mp ht;exact .inr ⟨p,h s hs p hp,rfl⟩
   ·obtain rfl:=Za.mp ht;exact .inl (oW _)
 ·induction ss with
  | nil=>rfl
  | cons s r ih =>
   have e:y4 (s::r)=tw s++y4 r:=by unfold y4;rw[We]
   rw[e,bU,uQ (k:=s.1) rfl (by unfold tw;rw[Zl,Qj];rfl) (by
    rw[pW,Qf];intro x hx;obtain⟨p,hp,rfl⟩:=Qc.mp hx
    exact nG (h s (Va ..) p hp)) (by rw[pW];simpa using ne s (Va ..))]
   exact ih (fun x hx=>h x (Yb _ hx)) fun x hx=>ne x (Yb _ hx)
theorem Wk.tk {W:List Str} (h:Wk W):∀t∈W,Tk false t:=fun t ht=>by
 rcases h.tok t ht with h1|⟨p,hp,rfl⟩
 ·exact gh t h1
 ·exact xT hp
theorem jo {s:St} {W:List Str} (h:run s W=some none):s≠none:=fun z=>by rw[z,cV]at h;cases h
theorem nK {s:St} {r:Bool} {Q:List Str} (h:run s (gu r::Q)=some none):s=some none/\run (some (some (r,false))) Q=some none:=by
 rw[cD]at h;rcases s with _|_|⟨q,ne⟩
 ·exact absurd rfl (jo h)
 ·exact⟨rfl,by rw[jn]at h;exact h⟩
 ·have:ke (some (some (q,ne))) (gu r)=none:=by simp only[ke,lV r,gi r q];simp
  rw[this]at h;exact absurd rfl (jo h)
theorem kf {s:St} {r:Bool} {Q:List Str} (h:run s (cls r::Q)=some none):s=some (some (r,true))/\run (some none) Q=some none:=by
 rw[cD]at h;rcases s with _|_|⟨q,ne⟩
 ·exact absurd rfl (jo h)
 ·have:ke (some none) (cls r)=none:=by simp only[ke,Am (gi false r),Am (gi true r)];simp
  rw[this]at h;exact absurd rfl (jo h)
 ·by_cases c:cls r=cls q/\ne=true
  ·obtain⟨c1,c2⟩:=c;have:=xU c1;subst this;subst c2;exact⟨rfl,by rw[oS]at h;exact h⟩
  ·have:ke (some (some (q,ne))) (cls r)=none:=by simp only[ke,tz r,c];simp
   rw[this]at h;exact absurd rfl (jo h)
theorem xV {s:St} {t:Str} {Q:List Str} (ht:gL t=true) (h:run s (t::Q)=some none):∃r ne,s=some (some (r,ne))/\run (some (some (r,true))) Q=some none:=by
 rw[cD]at h;rcases s with _|_|⟨q,ne⟩
 ·exact absurd rfl (jo h)
 ·have h1:t≠gu false:=fun z=>by rw[z,lV]at ht;cases ht
  have h2:t≠gu true:=fun z=>by rw[z,lV]at ht;cases ht
  have:ke (some none) t=none:=by simp only[ke,h1,h2];simp
  rw[this]at h;exact absurd rfl (jo h)
 ·refine⟨q,ne,rfl,?_⟩;have:ke (some (some (q,ne))) t=some (some (q,true)):=by simp only[ke,ht,if_true]
  rw[this]at h;exact h
theorem pY {Q:List Str} (tok:∀t∈Q,t∈mks∨gL t=true) (h:run (some none) Q=some none):Q=[]∨∃r Q',Q=gu r::Q':=by
 cases Q with
 | nil=>exact .inl rfl
 | cons t Q =>
  right;rcases tok t (Va ..) with h1|h1
  ·obtain⟨r,rfl|rfl⟩:=iR h1
   ·exact⟨r,Q,rfl⟩
   ·cases (kf h).1
  ·obtain⟨r,ne,z,_⟩:=xV h1 h;cases z
theorem uT:∀{Q:List Str} {r ne:Bool},(∀t∈Q,t∈mks∨gL t=true)->run (some (some (r,ne))) Q=some none->∃bs Q',Q=bs++cls r::Q'/\(∀b∈bs,gL b=true)/\(ne=false->bs≠[])/\run (some none) Q'=some none
 | [],r,ne,_,h=>by cases h
 | t::Q,r,ne,tok,h=>by
  rcases tok t (Va ..) with h1|h1
  ·obtain⟨q,rfl|rfl⟩:=iR h1
   ·cases (nK h).1
   ·obtain⟨z,h2⟩:=kf h;cases z;exact⟨[],Q,rfl,fun b hb=>(by cases hb),fun z=>(by cases z),h2⟩
  ·obtain⟨q,ne',z,h2⟩:=xV h1 h;cases z;obtain⟨bs,Q',rfl,b1,b2,b3⟩:=uT (fun x hx=>tok x (Yb _ hx)) h2
   exact⟨t::bs,Q',rfl,fun b hb=>by
    rcases Vc.mp hb with rfl|hb
    ·exact h1
    ·exact b1 b hb,fun _=>by simp,b3⟩
end
end K05
namespace K05
open PySem L2 VF VL VF22 VX VT
noncomputable section
def tP (V:List Str):Prop:=∀x,Txs V x->za false (.str x)
theorem xW {V:List Str} (hl:V.length<=190) (h:bar∈V):tP V:=fun x T =>
 (oU (by have:=T.len;lia)).1 (T.chr bar h 124 (by rw[xR];exact Za.mpr rfl))
theorem iG {V:List Str} (hl:V.length<=190) (tk:∀t∈V,Tk false t) (hr:run (some none) V≠some none):tP V:=fun x T=>by
 have e:=oR (b:=false) T fun t ht=>(tk t ht).1;have w:=kI (b:=false) (x:=x) (by have:=T.len;lia)
 rw[e]at w;exact Dj w hr
theorem Fs {V:List Str} {t:Str} (hl:V.length<=190) (tk:∀t∈V,Tk false t) (ht:t∈V) (h1:gL t=false) (h2:∀r,t≠gu r/\t≠cls r):tP V :=
 iG hl tk (by rw[Dk ht h1 h2];simp)
theorem Wk.ok {W:List Str} (h:Wk W):∀t∈W,t∈mks∨gL t=true:=fun t ht=>by
 rcases h.tok t ht with h1|⟨p,hp,rfl⟩
 ·exact .inl h1
 ·exact .inr (nG hp)
def uU (m:Str):Str:=if m="[" then "(" else if m="]" then ")" else if m="(" then "[" else "]"
theorem tE (r:Bool):uU (gu r)=gu (!r):=by cases r<;>decide +kernel
theorem tF (r:Bool):uU (cls r)=cls (!r):=by cases r<;>decide +kernel
theorem jp (r ne q:Bool):ke (some (some (r,ne))) (gu q)=none:=by simp only[ke,lV q,gi q r];simp
theorem uV (r:Bool):ke (some none) (cls r)=none:=by simp only[ke,Am (gi false r),Am (gi true r)];simp
theorem pZ {t:Str} (h:gL t=true):ke (some none) t=none:=by
 have h1:t≠gu false:=fun z=>by rw[z,lV]at h;cases h
 have h2:t≠gu true:=fun z=>by rw[z,lV]at h;cases h
 simp only[ke,h1,h2];simp
theorem lX {r ne q:Bool} (h:¬ (r=q/\ne=true)):ke (some (some (r,ne))) (cls q)=none:=by
 have:¬ (cls q=cls r/\ne=true):=fun⟨a,b⟩=>h ⟨(xU a).symm,b⟩;simp only[ke,tz q,this];simp
section
variable {W P Q:List Str} {m:Str} (k:Wk W) (hl:W.length<=100) (e:W=P++m::Q)
include k hl e
theorem lY:(∀t∈P,Tk false t)/\(∀t∈Q,Tk false t)/\(∀t∈Q,t∈mks∨gL t=true)/\P.length+Q.length<=100/\run (run (some none) P) (m::Q)=some none:=by
 refine⟨fun t ht=>k.tk t (by rw[e];exact Zd _ ht),fun t ht=>k.tk t (by rw[e];exact Xc _ (Yb _ ht)),fun t ht=>k.ok t (by rw[e];exact Xc _ (Yb _ ht)),?_,?_⟩
 ·rw[e,Wa,Vd]at hl;lia
 ·have:=k.run;rw[e,bU]at this;exact this
theorem Mz (hm:m∈mks):tP (P++Q):=by
 obtain⟨a1,a2,a3,a4,a5⟩:=lY k hl e;refine iG (by rw[Wa];lia) (fun t ht=>(Zc.mp ht).elim (a1 t) (a2 t)) ?_
 rw[bU];obtain⟨r,rfl|rfl⟩:=iR hm
 ·obtain⟨b1,b2⟩:=nK a5;obtain⟨bs,Q',rfl,c1,c2,_⟩:=uT a3 b2;obtain⟨b,bs,rfl⟩:=Yi (c2 rfl);rw[b1,Qi,cD,pZ (c1 b (Va ..)),cV];simp
 ·obtain⟨b1,b2⟩:=kf a5;rcases pY a3 b2 with rfl|⟨q,Q',rfl⟩
  ·rw[b1];exact fun z=>by cases z
  ·rw[b1,cD,jp,cV];simp
theorem MA (hm:m∈mks):tP (P++[uU m]++Q):=by
 obtain⟨a1,a2,a3,a4,a5⟩:=lY k hl e;have ho:uU m∈mks:=by
  obtain⟨r,rfl|rfl⟩:=iR hm
  ·rw[tE];exact iF _
  ·rw[tF];exact oW _
 refine iG (by simp;lia) (fun t ht=>?_) ?_
 ·rcases Zc.mp ht with ht|ht
  ·rcases Zc.mp ht with ht|ht
   ·exact a1 t ht
   ·obtain rfl:=Za.mp ht;exact gh _ ho
  ·exact a2 t ht
 rw[bU,bU];show run (ke _ (uU m)) Q≠_;obtain⟨r,rfl|rfl⟩:=iR hm
 ·obtain⟨b1,b2⟩:=nK a5;obtain⟨bs,Q',rfl,c1,c2,_⟩:=uT a3 b2;rw[b1,tE,jn,bU,kJ bs (!r) false c1 (c2 rfl),cD,lX (by cases r<;>simp),cV]
  simp
 ·obtain⟨b1,b2⟩:=kf a5;rw[b1,tF,lX (by cases r<;>simp),cV]
  simp
theorem MB (hm:m∈mks):tP (P++[m]++m::Q):=by
 obtain⟨a1,a2,a3,a4,a5⟩:=lY k hl e;refine iG (by simp;lia) (fun t ht=>?_) ?_
 ·rcases Zc.mp ht with ht|ht
  ·rcases Zc.mp ht with ht|ht
   ·exact a1 t ht
   ·obtain rfl:=Za.mp ht;exact gh _ hm
  ·rcases Vc.mp ht with rfl|ht
   ·exact gh _ hm
   ·exact a2 t ht
 rw[bU,bU];show run (ke _ m) (m::Q)≠_;obtain⟨r,rfl|rfl⟩:=iR hm
 ·obtain⟨b1,b2⟩:=nK a5;rw[b1,jn,cD,jp,cV];simp
 ·obtain⟨b1,b2⟩:=kf a5;rw[b1,oS,cD,uV,cV];simp
theorem wm {N:List Str} {u:Str} (hN:∀t∈N,Tk false t) (lN:N.length<=5) (hu:u∈N) (h1:gL u=false) (h2:∀r,u≠gu r/\u≠cls r) {b:Bool}:tP (P++N++(if b then m::Q else Q)):=by
 obtain⟨a1,a2,a3,a4,a5⟩:=lY k hl e;have hm:Tk false m:=k.tk m (by rw[e];simp)
 refine Fs (by cases b<;>simp<;>lia) (fun t ht=>?_) (t:=u) (Zd _ (Xc _ hu)) h1 h2
 rcases Zc.mp ht with ht|ht
 ·rcases Zc.mp ht with ht|ht
  ·exact a1 t ht
  ·exact hN t ht
 ·cases b with
  | false=>exact a2 t ht
  | true =>
   rcases Vc.mp ht with rfl|ht
   ·exact hm
   ·exact a2 t ht
theorem wn {N:List Str} (lN:N.length<=5) (hu:bar∈N):tP (P++N++Q):=by
 obtain⟨a1,a2,a3,a4,a5⟩:=lY k hl e;exact xW (by simp;lia) (Zd _ (Xc _ hu))
theorem Mr (hm:gL m=true) {r:Bool} {N:List Str} (hN:∀t∈N,Tk false t) (lN:N.length<=4):tP (P++(gu r::N)++Q):=by
 obtain⟨a1,a2,a3,a4,a5⟩:=lY k hl e;refine iG (by simp;lia) (fun t ht=>?_) ?_
 ·rcases Zc.mp ht with ht|ht
  ·rcases Zc.mp ht with ht|ht
   ·exact a1 t ht
   ·rcases Vc.mp ht with rfl|ht
    ·exact gh _ (iF r)
    ·exact hN t ht
  ·exact a2 t ht
 ·obtain⟨q,ne,b1,_⟩:=xV hm a5;rw[bU,bU,b1,cD,jp,cV,cV];simp
theorem MC {B Q2:List Str} {m2:Str} (hm:m∈mks) (hm2:m2∈mks) (eQ:Q=B++m2::Q2) (hB:∀t∈B,gL t=true) (B0:B≠[]):tP (P++[m]++m2::Q2):=by
 obtain⟨a1,a2,a3,a4,a5⟩:=lY k hl e;subst eQ;refine iG (by simp at a4 ⊢;lia) (fun t ht=>?_) ?_
 ·rcases Zc.mp ht with ht|ht
  ·rcases Zc.mp ht with ht|ht
   ·exact a1 t ht
   ·obtain rfl:=Za.mp ht;exact gh _ hm
  ·exact a2 t (Xc _ ht)
 obtain⟨b,B',rfl⟩:=Yi B0;rw[bU,bU];show run (ke _ m) (m2::Q2)≠_;obtain⟨r,rfl|rfl⟩:=iR hm
 ·obtain⟨b1,b2⟩:=nK a5;rw[bU,kJ (b::B') r false hB (by simp)]at b2
  obtain⟨q,rfl|rfl⟩:=iR hm2
  ·cases (nK b2).1
  ·obtain⟨c1,_⟩:=kf b2;rw[b1,jn,cD,lX (by simp),cV]
   simp
 ·obtain⟨b1,b2⟩:=kf a5;rw[Qi,cD,pZ (hB b (Va ..)),cV]at b2;cases b2
end
abbrev mores:List (List Str):=[["[","]"],["(",")"],["|"],["["],["]"],["("],[")"],["zz"],["-"],[","],["|","|"]]
theorem Lh:∀M∈[(["[","]"]:List Str),["(",")"],["]"],[")"],["zz"],["-"],[","]],run (some none) M=none/\(∀t∈M,Tk false t)/\M.length<=2:=by decide +kernel
theorem MD {W P Q M:List Str} (k:Wk W) (hl:W.length<=100) (e:W=P++Q) (hP:run (some none) P=some none) (hM:M∈mores):tP (P++M++Q):=by
 have kP:∀t∈P,Tk false t:=fun t ht=>k.tk t (by rw[e];exact Zd _ ht)
 have kQ:∀t∈Q,Tk false t:=fun t ht=>k.tk t (by rw[e];exact Xc _ ht)
 have oQ:∀t∈Q,t∈mks∨gL t=true:=fun t ht=>k.ok t (by rw[e];exact Xc _ ht)
 have hQ:run (some none) Q=some none:=by
  have:=k.run;rw[e,bU,hP]at this;exact this
 have ll:P.length+Q.length<=100:=by rw[e,Wa]at hl;exact hl
 have dead:∀M∈[(["[","]"]:List Str),["(",")"],["]"],[")"],["zz"],["-"],[","]],tP (P++M++Q):=fun M hM=>by
  obtain⟨d1,d2,d3⟩:=Lh M hM;refine iG (by simp;lia) (fun t ht=>?_) ?_
  ·rcases Zc.mp ht with ht|ht
   ·exact(Zc.mp ht).elim (kP t) (d2 t)
   ·exact kQ t ht
  ·rw[bU,bU,hP,d1,cV];simp
 have opens:∀r:Bool,tP (P++[gu r]++Q):=fun r=>by
  refine iG (by simp;lia) (fun t ht=>?_) ?_
  ·rcases Zc.mp ht with ht|ht
   ·rcases Zc.mp ht with ht|ht
    ·exact kP t ht
    ·obtain rfl:=Za.mp ht;exact gh _ (iF r)
   ·exact kQ t ht
  ·rw[bU,bU,hP];show run (ke (some none) (gu r)) Q≠_;rw[jn];rcases pY oQ hQ with rfl|⟨q,Q',rfl⟩
   ·exact fun z=>by cases z
   ·rw[cD,jp,cV];simp
 have bars:∀M:List Str,bar∈M->M.length<=2->tP (P++M++Q):=fun M h1 h2=>xW (by simp;lia) (Zd _ (Xc _ h1))
 simp only[Vc,Zi,AQ]at hM;rcases hM with rfl|rfl|rfl|rfl|rfl|rfl|rfl|rfl|rfl|rfl|rfl
 ·exact dead _ (by simp)
 ·exact dead _ (by simp)
 ·exact bars _ (Za.mpr rfl) (by simp)
 ·exact opens false
 ·exact dead _ (by simp)
 ·exact opens true
 ·exact dead _ (by simp)
 ·exact dead _ (by simp)
 ·exact dead _ (by simp)
 ·exact dead _ (by simp)
 ·exact bars _ (Va ..) (by simp)
abbrev NB:List Str:=["-",("--":Str)++"zz",("zz":Str)++"-","abcdefg","-abcdefg","A","-Ab",("zz":Str)++"-"++"zz","a1",("+":Str)++"zz",("zz":Str)++",","a_b","-a-b",".","*","0","a'","aB","-1","~","{","a;b",("#":Str)++"zz"]
theorem rz:∀t∈NB,(∀b,Tk b t)/\gL t=false/\(∀r,t≠gu r/\t≠cls r)/\t≠"|":=by decide +kernel
end
end K05
namespace VF
open PySem L2
theorem wo {ds:List D} {k:Nat} (h:k<=ds.length):bV (.lst ds) none (some (k:Int))=some (.lst (ds.take k),true):=by
 show some (D.lst (cutD ds none (some (k:Int))),true)=_;rw[Ih h]
theorem mO {ds:List D} {k:Nat} (h:k<=ds.length):bV (.lst ds) (some (k:Int)) none=some (.lst (ds.drop k),true):=by
 show some (D.lst (cutD ds (some (k:Int)) none),true)=_;rw[B6 h]
abbrev nI (k:Nat):D:=.int ((0+k:Nat):Int)
theorem uW:∀ks:List Nat,jO (ks.map nI)=some (ks.map fun k=>V.int ((0+k:Nat):Int))
 | []=>rfl
 | k::r=>by
  show(jO (r.map nI)).bind _=_;rw[uW r];rfl
theorem Jh {k:Nat} {ks:List Nat}:iM (nI k) (.lst (ks.map nI))=some (.bl (!decide (k∈ks)),false):=by
 have e1:sv true (nI k) (.lst (ks.map nI))=none:=rfl;have e2:ph true (nI k) (.lst (ks.map nI))=(jO (ks.map nI)).bind fun ws=>some (D.bl (!vc (.int ((0+k:Nat):Int)) ws),false):=rfl;unfold iM ng;rw[e1];show ph true (nI k) (.lst (ks.map nI))=_;rw[e2,uW];show some (D.bl (!vc (.int ((0+k:Nat):Int)) (ks.map fun k=>V.int ((0+k:Nat):Int))),false)=_;congr 4;unfold vc;rw[BK];induction ks with
 | nil=>rfl
 | cons y r ih =>
  rw[Ym,ih rfl rfl];show((((0+y:Nat):Int) == ((0+k:Nat):Int))||decide (k∈r))=_;by_cases e:y=k
  ·subst e;simp
  ·have e':¬ k=y:=fun z=>e z.symm;have:(((0+y:Nat):Int) == ((0+k:Nat):Int))=false:=by
    rw[beq_eq_false_iff_ne];lia
   rw[this];simp[e']
theorem nL:∀ks:List Nat,VF22.asInts (ks.map nI)=some (ks.map fun k=>((0+k:Nat):Int))
 | []=>rfl
 | k::r=>by
  show(VF22.asInts (r.map nI)).bind _=_;rw[nL r];rfl
end VF
namespace K05
open PySem L2 VF VL VF22 VX VT
noncomputable section
def MK (W:List Str):List Nat:=(List.range W.length).filter fun k=>decide (W.getD k ""∈mks)
def WD (W:List Str):List Nat:=(List.range W.length).filter fun k=>!decide (k∈MK W)
theorem L4 {W:List Str} {k:Nat} (h:k<W.length):W[k]?=some (W.getD k ""):=by rw[Ye,Qa h];rfl
theorem uX {W:List Str} {k:Nat} (h:k<W.length):W=W.take k++W.getD k ""::W.drop (k+1):=by
 have e:W.getD k ""=W[k]:=by rw[Ye,Qa h];rfl
 rw[e,← Yh h,AH]
theorem n8 {W:List Str} {k:Nat} (h:k∈MK W):k<W.length/\W.getD k ""∈mks:=by
 unfold MK at h;rw[Xg,Yj,decide_eq_true_eq]at h;exact h
theorem uY {W:List Str} {k:Nat} (h:k<W.length) (h2:W.getD k ""∈mks):k∈MK W:=by
 unfold MK;rw[Xg,Yj,decide_eq_true_eq];exact⟨h,h2⟩
theorem GO {W:List Str} {k:Nat} (h:k∈WD W):k<W.length/\W.getD k ""∉mks:=by
 unfold WD at h;rw[Xg,Yj]at h;refine⟨h.1,fun z=>?_⟩;have:=uY h.1 z;simp[this]at h
theorem Li {W:List Str} {k:Nat} (h:k<W.length) (h2:W.getD k ""∉mks):k∈WD W:=by
 unfold WD;rw[Xg,Yj];refine⟨h,?_⟩;have:k∉MK W:=fun z=>h2 (n8 z).2;simp[this]
theorem Ms {W:List Str} {k:Nat} (h:k<W.length):cK (.lst (W.map D.str)) (.int (k:Int))=some (.str (W.getD k ""),false):=by
 refine cy ?_;have h2:yg (W.map D.str).length (k:Int)=some k:=by unfold yg;rw[Xa];simp;lia
 unfold mf;rw[h2];show(W.map D.str)[k]?=_;rw[Zg,L4 h];rfl
theorem L5 {W:List Str} {k:Nat} (h:k<W.length):cK (.lst (W.map D.str)) (nI k)=some (.str (W.getD k ""),false):=by
 have:nI k=.int (k:Int):=by show D.int ((0+k:Nat):Int)=_;rw[AY]
 rw[this];exact Ms h
section
variable {W:List Str} (hl:W.length<=100)
include hl
theorem Lj {a:Sl} {r:List Sl}:lj (ac (dL dQ (ac (aW 1) aj)) aj) (a::.v (.lst (W.map D.str))::r)=some ((List.range W.length).map nI,a::.v (.lst (W.map D.str))::r):=by
 have:(rng 0 ((W.map D.str).length:Int).toNat)=(List.range W.length).map nI:=by
  rw[Xa];exact Eh 0 W.length
 rw[← this];exact ky (ak (cP rfl rfl rfl) rfl) rfl (by rw[Xa];lia)
theorem Lk {a:Sl} {r:List Sl}:cY 1 [1] (lj (ac (dL dQ (ac (aW 1) aj)) aj)) (gN 0) dD dE (a::.v (.lst (W.map D.str))::r)=some (.f (.lst ((MK W).map nI)),a::.v (.lst (W.map D.str))::r):=by
 refine d8 (Lj hl) (by
  rw[Xa,Yn,Ae (by lia:W.length<=1000000),BU]
  show(decide ([1]:List Nat).Nodup&&([1]:List Nat).all fun i=>decide (i<(a::Sl.v (.lst (W.map D.str))::r).length))=true
  simp) (s2:=[.e,.v (.lst (W.map D.str))]) ?_ ?_
 ·refine dW (fg:=gN 0) (fc:=dD) (fe:=dE) (k:=1) nI nI (fun k=>decide (W.getD k ""∈mks)) [.e,.v (.lst (W.map D.str))] (List.range W.length) fun k hk=>⟨[.v (nI k),.v (.lst (W.map D.str))],[.v (nI k),.v (.lst (W.map D.str))],rfl,?_,fun _=>rfl,fun _=>⟨.d (nI k),[.v (nI k),.v (.lst (W.map D.str))],[.v (nI k),.v (.lst (W.map D.str))],rfl,rfl,rfl⟩⟩;exact aK (aq (d2:=.lst (mks.map D.str)) (aq rfl rfl rfl rfl (L5 (Yj.mp hk))) rfl rfl rfl (uq (xs:=mks))) rfl
 ·rfl
theorem Ll {a b:Sl} {r:List Sl}:cY 1 [2] (lj (ac (dL dQ (ac (aW 1) aj)) aj)) (gN 0) dF dG (a::.v (.lst (W.map D.str))::.o (.lst ((MK W).map nI))::r)=some (.f (.lst ((WD W).map nI)),a::.v (.lst (W.map D.str))::.o (.lst ((MK W).map nI))::r):=by
 refine d8 (Lj hl) (by
  rw[Xa,Yn,Ae (by lia:W.length<=1000000),BU]
  show(decide ([2]:List Nat).Nodup&&([2]:List Nat).all fun i=>decide (i<(a::Sl.v (.lst (W.map D.str))::.o (.lst ((MK W).map nI))::r).length))=true
  simp) (s2:=[.e,.o (.lst ((MK W).map nI))]) ?_ ?_
 ·refine dW (fg:=gN 0) (fc:=dF) (fe:=dG) (k:=1) nI nI (fun k=>!decide (k∈MK W)) [.e,.o (.lst ((MK W).map nI))] (List.range W.length) fun k hk=>⟨[.v (nI k),.o (.lst ((MK W).map nI))],[.v (nI k),.o (.lst ((MK W).map nI))],rfl,?_,fun _=>rfl,fun _=>⟨.d (nI k),[.v (nI k),.o (.lst ((MK W).map nI))],[.v (nI k),.o (.lst ((MK W).map nI))],rfl,rfl,rfl⟩⟩;exact aK (aq rfl rfl rfl rfl Jh) rfl
 ·rfl
end
end
end K05
namespace K05
open PySem L2 VF VL VF22 VX VT
noncomputable section
theorem Lm (k:Nat):nI k=.int (k:Int):=by show D.int ((0+k:Nat):Int)=_;rw[AY]
theorem nM {φ:D} (hφ:cC φ):∃(t:Str) (φ':D),eN φ [.str "zz"]=some ((.str t,false),φ')/\cC φ'/\t∈NB:=by
 obtain⟨d,φ1,e1,d0,d1,f1⟩:=bK (n:=23) hφ (by decide) (by decide)
 obtain⟨x,hx,hm,_⟩:=fF (xs:=NB.map D.str) d0 d1;obtain⟨t,ht,rfl⟩:=Qc.mp hm;refine⟨t,φ1,?_,f1,ht⟩;have a:∀x y:Str,x.length+y.length<=1000000->aR (.str x) (.str y)=some (.str (x++y),false):=fun x y h=>by
  have e1:uf (.str x) (.str y)=none:=rfl;have e2:fB (.str x) (.str y)=some (.str (x++y),false):=ku h;unfold aR ng;rw[e2]
 refine cu (o:=.rt (.d (.str t)) [.io φ1,.v (.str "zz"),.o (.lst (NB.map D.str))]) rfl ?_ rfl;refine af (s:=[.io φ,.v (.str "zz"),.o (.lst ((NB.take 10).map D.str))]) (hJ (s:=[.io φ,.v (.str "zz"),.e]) (fU (ak rfl (ak (aq rfl rfl rfl rfl (a _ _ (by decide +kernel))) (ak (aq rfl rfl rfl rfl (a _ _ (by decide +kernel))) (ak rfl (ak rfl (ak rfl (ak rfl (ak (aq (aq rfl rfl rfl rfl (a _ _ (by decide +kernel))) rfl rfl rfl (a _ _ (by decide +kernel))) (ak rfl (ak (aq rfl rfl rfl rfl (a _ _ (by decide +kernel))) rfl)))))))))) rfl (by show 10<=1000000;decide)) rfl) ?_
 refine af (s:=[.io φ,.v (.str "zz"),.o (.lst (NB.map D.str))]) (hJ (s:=[.io φ,.v (.str "zz"),.o (.lst ((NB.take 10).map D.str))]) (aq (r1:=.s 2) (d1:=.lst ((NB.take 10).map D.str)) (d2:=.lst ((NB.drop 10).map D.str)) rfl (fU (ak (aq rfl rfl rfl rfl (a _ _ (by decide +kernel))) (ak rfl (ak rfl (ak rfl (ak rfl (ak rfl (ak rfl (ak rfl (ak rfl (ak rfl (ak rfl (ak rfl (ak (aq rfl rfl rfl rfl (a _ _ (by decide +kernel))) rfl))))))))))))) rfl (by show 13<=1000000;decide)) rfl rfl (fN (by show 10+13<=1000000;decide))) rfl) ?_
 exact bE (aq (d1:=.lst (NB.map D.str)) rfl (bJ rfl rfl (ak (cP rfl rfl rfl) rfl) rfl rfl rfl e1) rfl rfl (cy hx))
end
end K05
namespace K05
open PySem L2 VF VL VF22 VX VT
noncomputable section
structure SpD (W V:List Str):Prop where
 sp:tP V
 ln:V.length<=W.length+5
 l9:∀t∈V,t.cps.toList.length<=9
section
variable {W:List Str} (k:Wk W) (hl:W.length<=60)
include k hl
theorem Mt:∀t∈W,t.cps.toList.length<=9:=fun t ht=>(k.tk t ht).2
theorem L6 {a:Nat} (h:a<=W.length):bV (.lst (W.map D.str)) none (some (a:Int))=some (.lst ((W.take a).map D.str),true):=by
 rw[wo (by rw[Xa];exact h),Bv]
theorem L7 {a:Nat} (h:a<=W.length):bV (.lst (W.map D.str)) (some (a:Int)) none=some (.lst ((W.drop a).map D.str),true):=by
 rw[mO (by rw[Xa];exact h),A7]
theorem add_l {a b:List Str} (ha:a.length<=1000) (hb:b.length<=1000):aR (.lst (a.map D.str)) (.lst (b.map D.str))=some (.lst ((a++b).map D.str),true):=by
 rw[fN (by rw[Xa,Xa];lia),Qd]
theorem Fu {a b:Nat} {N:List Str} (h:tP (W.take a++N++W.drop b)) (hab:a<=b) (hN:∀t∈N,t.cps.toList.length<=9) (lN:N.length<=5):SpD W (W.take a++N++W.drop b):=by
 refine⟨h,?_,fun t ht=>?_⟩
 ·simp only[Wa,Qg,Xf];lia
 ·rcases Zc.mp ht with ht|ht
  ·rcases Zc.mp ht with ht|ht
   ·exact Mt k hl t (AR ht)
   ·exact hN t ht
  ·exact Mt k hl t (Zk ht)
theorem Lo {w:Nat} (h:w∈WD W):∃p:Bool×Str,Nm p.2/\W.getD w ""=bd p:=by
 obtain⟨h1,h2⟩:=GO h
 rcases k.tok (W.getD w "") (by
  have e:W.getD w ""=W[w]:=by rw[Ye,Qa h1];rfl
  rw[e];exact AM h1) with h3|h3
 ·exact absurd h3 h2
 ·exact h3
theorem Lp (h0:W≠[]):MK W≠[]:=by
 rcases pY k.ok k.run with h|⟨r,Q,h⟩
 ·exact absurd h h0
 ·intro z;have:0∈MK W:=uY (by rw[h];simp) (by rw[h];exact iF r)
  rw[z]at this;cases this
theorem Lq (h0:W≠[]):WD W≠[]:=by
 rcases pY k.ok k.run with h|⟨r,Q,h⟩
 ·exact absurd h h0
 ·have hr:=k.run;rw[h,cD,jn]at hr;obtain⟨bs,Q',e,b1,b2,_⟩:=uT (fun t ht=>k.ok t (by rw[h];exact Yb _ ht)) hr
  obtain⟨b,bs,rfl⟩:=Yi (b2 rfl);intro z;have e1:W.getD 1 ""=b:=by rw[h,e];rfl
  have:1∈WD W:=Li (by rw[h,e];simp) (by
   rw[e1];intro hm;have:=b1 b (Va ..);obtain⟨q,rfl|rfl⟩:=iR hm
   ·rw[lV]at this;cases this
   ·rw[tz]at this;cases this)
  rw[z]at this;cases this
def wq (W:List Str) (k:Nat):Bool:=decide (W.getD k ""∈(["]",")"]:List Str))
def PL (W:List Str):List Nat:=((MK W).filter (wq W)).map (·+1)
theorem Lr {q:Nat} (h:q=0∨q∈PL W):q<=W.length/\run (some none) (W.take q)=some none:=by
 rcases h with rfl|h
 ·exact⟨Qk _,rfl⟩
 ·unfold PL at h;obtain⟨j,hj,rfl⟩:=Qc.mp h;obtain⟨h1,h2⟩:=Xg.mp hj;obtain⟨h3,_⟩:=n8 h1;refine⟨h3,?_⟩;have hc:∃r,W.getD j ""=cls r:=by
   have:=An h2;simp only[Vc,Zi,AQ]at this;rcases this with h|h
   ·exact⟨false,h⟩
   ·exact⟨true,h⟩
  obtain⟨r,hc⟩:=hc;have hr:=k.run;rw[uX h3,hc,bU]at hr;obtain⟨a1,_⟩:=kf hr;have:W.take (j+1)=W.take j++[cls r]:=by
   conv=>lhs;rw[uX h3]
   rw[hc,List.take_append,Qg,Bj (by lia),List.take_take,Nat.min_eq_right (by lia),show j+1 - j=1 by lia]
   rfl
  rw[this,bU,a1];exact oS r
end
end
end K05
namespace VF
open PySem L2
theorem mP {fe:FE} {st s:En} {r:Rs} {i:Int} (h:fe st=some (r,s)) (h2:cont s r=some (.int i)):bC fe st=some (some i,s):=by
 unfold bC;rw[h];show((asInt s r).bind fun i=>some (some i,s))=_;have:asInt s r=some i:=by unfold asInt;rw[h2]
 rw[this];rfl
end VF
namespace K05
open PySem L2 VF VL VF22 VX VT
noncomputable section
theorem Fv:∀m∈mks,∃i:Nat,Txt.find "[]()" m=(i:Int)/\cK (.str "()[]") (.int (i:Int))=some (.str (uU m),false):=by
 intro m hm;simp only[Vc,Zi,AQ]at hm;rcases hm with rfl|rfl|rfl|rfl
 ·exact⟨0,by decide +kernel,rfl⟩
 ·exact⟨1,by decide +kernel,rfl⟩
 ·exact⟨2,by decide +kernel,rfl⟩
 ·exact⟨3,by decide +kernel,rfl⟩
abbrev nests:List (List Str):=[["(",")"],["[","]"],["|"],["(","|"],["|","|"]]
theorem qx {φ:D} {W:List Str} (hφ:cC φ) (k:Wk W) (hl:W.length<=60) (h0:W≠[]) :
  ∃(V:List Str) (φ':D),eh φ [.lst (W.map D.str)]=some ((.lst (V.map D.str),true),φ')/\cC φ'/\SpD W V:=by
 have hMl:(MK W).length<=60:=Yc (AI _ _) (by rw[Yn];exact hl)
 have hWl:(WD W).length<=60:=Yc (AI _ _) (by rw[Yn];exact hl)
 have hM0:=Ql.mpr (Lp k hl h0);have hW0:=Ql.mpr (Lq k hl h0);obtain⟨d1,φ1,e1,d10,d11,f1⟩:=bK (n:=(((MK W).map nI).length:Int)) hφ (by rw[Xa];lia) (by rw[Xa];lia)
 obtain⟨x1,hx1,hm1,_⟩:=fF (xs:=(MK W).map nI) d10 d11;obtain⟨a,ha,rfl⟩:=Qc.mp hm1;obtain⟨d2,φ2,e2,d20,d21,f2⟩:=bK (n:=(((WD W).map nI).length:Int)) f1 (by rw[Xa];lia) (by rw[Xa];lia)
 obtain⟨x2,hx2,hm2,_⟩:=fF (xs:=(WD W).map nI) d20 d21;obtain⟨w,hw,rfl⟩:=Qc.mp hm2;obtain⟨y,φ3,e3,y0,y1,f3⟩:=bK (n:=9) f2 (by decide) (by decide)
 obtain⟨a1,a2⟩:=n8 ha;obtain⟨w1,w2⟩:=GO hw;obtain⟨p,hp,ep⟩:=Lo k hl hw;have ca:=uX a1;have cw:=uX w1;rw[Lm]at hx1 hx2;generalize hL:W.map D.str=L;have head:∀T:FS,∀z,T [.io φ3,.v (.lst L),.o (.lst ((MK W).map nI)),.o (.lst ((WD W).map nI)),.v (.int a),.v (.int w),.v (.int y),.e,.e,.e,.e,.e,.e]=z ->
   aM (bn (cY 1 [1] (lj (ac (dL dQ (ac (aW 1) aj)) aj)) (gN 0) dD dE) 2) (aM (bn (cY 1 [2] (lj (ac (dL dQ (ac (aW 1) aj)) aj)) (gN 0) dF dG) 3) (aM (bn (aL cK (aW 2) (eW aD 0 (ac (dL dQ (ac (aW 2) aj)) aj))) 4) (aM (bn (aL cK (aW 3) (eW aD 0 (ac (dL dQ (ac (aW 3) aj)) aj))) 5) (aM (bn (eW aD 0 (ac (fC (.int 9)) aj)) 6) T)))) [.io φ,.v (.lst L),.e,.e,.e,.e,.e,.e,.e,.e,.e,.e,.e]=z:=fun T z h=>by
  refine af (s:=[.io φ,.v (.lst L),.o (.lst ((MK W).map nI)),.e,.e,.e,.e,.e,.e,.e,.e,.e,.e]) (hJ (s:=[.io φ,.v (.lst L),.e,.e,.e,.e,.e,.e,.e,.e,.e,.e,.e]) (by rw[← hL];exact Lk (by lia)) rfl) ?_
  refine af (s:=[.io φ,.v (.lst L),.o (.lst ((MK W).map nI)),.o (.lst ((WD W).map nI)),.e,.e,.e,.e,.e,.e,.e,.e,.e]) (hJ (s:=[.io φ,.v (.lst L),.o (.lst ((MK W).map nI)),.e,.e,.e,.e,.e,.e,.e,.e,.e,.e]) (by rw[← hL];exact Ll (b:=.e) (by lia)) rfl) ?_
  refine af (s:=[.io φ1,.v (.lst L),.o (.lst ((MK W).map nI)),.o (.lst ((WD W).map nI)),.v (.int a),.e,.e,.e,.e,.e,.e,.e,.e]) (cH (s:=[.io φ1,.v (.lst L),.o (.lst ((MK W).map nI)),.o (.lst ((WD W).map nI)),.e,.e,.e,.e,.e,.e,.e,.e,.e]) (aq rfl (bJ rfl rfl (ak (cP rfl rfl rfl) rfl) rfl rfl rfl e1) rfl rfl (cy hx1)) rfl) ?_;refine af (s:=[.io φ2,.v (.lst L),.o (.lst ((MK W).map nI)),.o (.lst ((WD W).map nI)),.v (.int a),.v (.int w),.e,.e,.e,.e,.e,.e,.e]) (cH (s:=[.io φ2,.v (.lst L),.o (.lst ((MK W).map nI)),.o (.lst ((WD W).map nI)),.v (.int a),.e,.e,.e,.e,.e,.e,.e,.e]) (aq rfl (bJ rfl rfl (ak (cP rfl rfl rfl) rfl) rfl rfl rfl e2) rfl rfl (cy hx2)) rfl) ?_;exact af (cH (bJ rfl rfl rfl rfl rfl rfl e3) rfl) h
 generalize hST:([.io φ3,.v (.lst L),.o (.lst ((MK W).map nI)),.o (.lst ((WD W).map nI)),.v (.int a),.v (.int w),.v (.int y),.e,.e,.e,.e,.e,.e]:En)=ST at head;have sk:∀(j:Int) (X:FS),y≠j->gP (aO (aL ju (aW 6) (fC (.int j)))) X bM ST=some (.nx ST):=fun j X h=>by
  subst hST;exact gE (dR (aK (aq rfl rfl rfl rfl rfl) rfl) (Ag fun z=>h (by injection z))) rfl
 have tk:∀(j:Int) (X:FS) z,y=j->X ST=z->gP (aO (aL ju (aW 6) (fC (.int j)))) X bM ST=z:=fun j X z h h2=>by
  have h3:aO (aL ju (aW 6) (fC (.int j))) ST=some (true,ST):=by
   subst hST;exact dR (aK (aq rfl rfl rfl rfl rfl) rfl) (Ae (by rw[h]))
  exact iW h3 h2
 have done:∀(V:List Str) (φ':D) (s:En),(∃l,s=.io φ'::l)->gf [.io φ,.v (.lst L),.e,.e,.e,.e,.e,.e,.e,.e,.e,.e,.e]=some (.rt (.f (.lst (V.map D.str))) s)->cC φ'->SpD W V->∃(V:List Str) (φ':D),eh φ [.lst L]=some ((.lst (V.map D.str),true),φ')/\cC φ'/\SpD W V:=fun V φ' s ⟨l,hs⟩ h f sp=>⟨V,φ',cu rfl h (by rw[hs];rfl),f,sp⟩
 have st1:∀b:Nat,b<=W.length->bV (.lst L) none (some (b:Int))=some (.lst ((W.take b).map D.str),true):=fun b h=>by rw[← hL];exact L6 k hl h
 have st2:∀b:Nat,b<=W.length->bV (.lst L) (some (b:Int)) none=some (.lst ((W.drop b).map D.str),true):=fun b h=>by rw[← hL];exact L7 k hl h
 have T4:∀(ψ:D) (o2 o3 o5:Sl) (b:Nat) (r:List Sl),b<=W.length->gl bV (aW 1) gQ (bC (aW 4)) (.io ψ::.v (.lst L)::o2::o3::.v (.int b)::o5::r)=some (.f (.lst ((W.take b).map D.str)),.io ψ::.v (.lst L)::o2::o3::.v (.int b)::o5::r):=fun ψ o2 o3 o5 b r h=>cQ rfl rfl rfl rfl (st1 b h) rfl;have F4:∀(ψ:D) (o2 o3 o5:Sl) (b:Nat) (r:List Sl),b<=W.length->gl bV (aW 1) (bC (aW 4)) gQ (.io ψ::.v (.lst L)::o2::o3::.v (.int b)::o5::r)=some (.f (.lst ((W.drop b).map D.str)),.io ψ::.v (.lst L)::o2::o3::.v (.int b)::o5::r):=fun ψ o2 o3 o5 b r h=>cQ rfl rfl rfl rfl (st2 b h) rfl;have pl1:∀(b:Nat),aR (.int (b:Int)) (.int 1)=some (.int ((b+1:Nat):Int),false):=fun b=>rfl;have G4:∀(ψ:D) (o2 o3 o5:Sl) (b:Nat) (r:List Sl),b<W.length->gl bV (aW 1) (bC (aL aR (aW 4) (fC (.int 1)))) gQ (.io ψ::.v (.lst L)::o2::o3::.v (.int b)::o5::r)=some (.f (.lst ((W.drop (b+1)).map D.str)),.io ψ::.v (.lst L)::o2::o3::.v (.int b)::o5::r):=fun ψ o2 o3 o5 b r h=>cQ (lo:=some ((b+1:Nat):Int)) (s2:=.io ψ::.v (.lst L)::o2::o3::.v (.int b)::o5::r) rfl (mP (aq rfl rfl rfl rfl (pl1 b)) rfl) rfl rfl (st2 (b+1) h) rfl;have T5:∀(ψ:D) (o2 o3 o4:Sl) (b:Nat) (r:List Sl),b<=W.length->gl bV (aW 1) gQ (bC (aW 5)) (.io ψ::.v (.lst L)::o2::o3::o4::.v (.int b)::r)=some (.f (.lst ((W.take b).map D.str)),.io ψ::.v (.lst L)::o2::o3::o4::.v (.int b)::r):=fun ψ o2 o3 o4 b r h=>cQ rfl rfl rfl rfl (st1 b h) rfl;have F5:∀(ψ:D) (o2 o3 o4:Sl) (b:Nat) (r:List Sl),b<=W.length->gl bV (aW 1) (bC (aW 5)) gQ (.io ψ::.v (.lst L)::o2::o3::o4::.v (.int b)::r)=some (.f (.lst ((W.drop b).map D.str)),.io ψ::.v (.lst L)::o2::o3::o4::.v (.int b)::r):=fun ψ o2 o3 o4 b r h=>cQ rfl rfl rfl rfl (st2 b h) rfl;have G5:∀(ψ:D) (o2 o3 o4:Sl) (b:Nat) (r:List Sl),b<W.length->gl bV (aW 1) (bC (aL aR (aW 5) (fC (.int 1)))) gQ (.io ψ::.v (.lst L)::o2::o3::o4::.v (.int b)::r)=some (.f (.lst ((W.drop (b+1)).map D.str)),.io ψ::.v (.lst L)::o2::o3::o4::.v (.int b)::r):=fun ψ o2 o3 o4 b r h=>cQ (lo:=some ((b+1:Nat):Int)) (s2:=.io ψ::.v (.lst L)::o2::o3::o4::.v (.int b)::r) rfl (mP (aq rfl rfl rfl rfl (pl1 b)) rfl) rfl rfl (st2 (b+1) h) rfl;have lt:∀b,(W.take b).length<=60:=fun b=>Yc (List.length_take_le' _ _) hl;have ld:∀b,(W.drop b).length<=60:=fun b=>by rw[Xf];lia
 have ix1:∀b:Nat,b<W.length->cK (.lst L) (.int (b:Int))=some (.str (W.getD b ""),false):=fun b h=>by rw[← hL];exact Ms h
 have pb:=xT (b:=false) hp;have cases9:y=0∨y=1∨y=2∨y=3∨y=4∨y=5∨y=6∨y=7∨y=8:=by lia
 rcases cases9 with hy|hy|hy|hy|hy|hy|hy|hy|hy
 ·-- a mark left out
  refine done (W.take a++[]++W.drop (a+1)) φ3 ST ⟨_,hST.symm⟩ (head _ _ (cW (tk 0 _ _ hy ?_))) f3 (Fu k hl (by rw[Wc];exact Mz k (by lia) ca a2) (by lia) (fun _ z=>(by cases z)) (by simp))
  subst hST;have q:=add_l (a:=W.take a) (b:=W.drop (a+1)) k hl (by have:=lt a;lia) (by have:=ld (a+1);lia)
  rw[Wc];exact bE (aq (T4 _ _ _ _ a _ (by lia)) (G4 _ _ _ _ a _ a1) rfl rfl q)
 ·-- one of another sort
  obtain⟨i,hi,hi2⟩:=Fv _ a2;refine done (W.take a++[uU (W.getD a "")]++W.drop (a+1)) φ3 [.io φ3,.v (.lst L),.o (.lst ((MK W).map nI)),.o (.lst ((WD W).map nI)),.v (.int a),.v (.int w),.v (.int y),.v (.str (uU (W.getD a ""))),.e,.e,.e,.e,.e] ⟨_,rfl⟩ (head _ _ (af (sk 0 _ (by lia)) (cW (tk 1 _ _ hy ?_)))) f3 (Fu k hl (MA k (by lia) ca a2) (by lia) (fun t ht=>?_) (by simp))
  ·subst hST;have bf:Cu (.str "[]()") [.str (W.getD a "")]=some (.int (i:Int),false):=by
    show some (D.int (Txt.find "[]()" (W.getD a "")),false)=_;rw[hi]
   refine af (s:=[.io φ3,.v (.lst L),.o (.lst ((MK W).map nI)),.o (.lst ((WD W).map nI)),.v (.int a),.v (.int w),.v (.int y),.v (.str (uU (W.getD a ""))),.e,.e,.e,.e,.e]) (cH (i:=7) (s:=[.io φ3,.v (.lst L),.o (.lst ((MK W).map nI)),.o (.lst ((WD W).map nI)),.v (.int a),.v (.int w),.v (.int y),.e,.e,.e,.e,.e,.e]) (aq rfl (xa rfl rfl rfl (ak (aq rfl rfl rfl rfl (ix1 a a1)) rfl) rfl rfl bf) rfl rfl hi2) rfl) ?_;have q:=add_l (a:=W.take a++[uU (W.getD a "")]) (b:=W.drop (a+1)) k hl (by have:=lt a;simp;lia) (by have:=ld (a+1);lia)
   exact bE (aq (aq (T4 _ _ _ _ a _ (by lia)) rfl rfl rfl (add_l (b:=[uU (W.getD a "")]) k hl (by have:=lt a;lia) (by simp))) (G4 _ _ _ _ a _ a1) rfl rfl q)
  ·obtain rfl:=Za.mp ht;obtain⟨r,z|z⟩:=iR a2
   ·rw[z,tE];exact(gh _ (iF _)).2
   ·rw[z,tF];exact(gh _ (oW _)).2
 ·-- twice
  refine done (W.take a++[W.getD a ""]++W.drop a) φ3 ST ⟨_,hST.symm⟩ (head _ _ (af (sk 0 _ (by lia)) (af (sk 1 _ (by lia)) (cW (tk 2 _ _ hy ?_))))) f3 (Fu k hl ?_ (by lia) (fun t ht=>by obtain rfl:=Za.mp ht;exact(gh _ a2).2) (by simp))
  ·subst hST;have q:=add_l (a:=W.take a++[W.getD a ""]) (b:=W.drop a) k hl (by have:=lt a;simp;lia) (by have:=ld a;lia)
   exact bE (aq (aq (T4 _ _ _ _ a _ (by lia)) (fU (ak (aq rfl rfl rfl rfl (ix1 a a1)) rfl) rfl (by show 1<=1000000;decide)) rfl rfl (add_l (b:=[W.getD a ""]) k hl (by have:=lt a;lia) (by simp))) (F4 _ _ _ _ a _ (by lia)) rfl rfl q)
  ·have:W.drop a=W.getD a ""::W.drop (a+1):=by
    have e:W.getD a ""=W[a]:=by rw[Ye,Qa a1];rfl
    rw[e];exact Yh a1
   rw[this];exact MB k (by lia) ca a2
 ·-- between the strands
  have lP:(([.int 0]:List D)++((MK W).filter (wq W)).map fun k=>D.int (((0+k:Nat):Int)+1)).length<=61:=by
   rw[Wa,Xa];have:=AI (wq W) (MK W);show 1+_<=_;lia
  have lP0:0<(([.int 0]:List D)++((MK W).filter (wq W)).map fun k=>D.int (((0+k:Nat):Int)+1)).length:=by rw[Wa];show 0<1+_;lia
  obtain⟨d4,φ4,e4,d40,d41,f4⟩:=bK (n:=((([.int 0]:List D)++((MK W).filter (wq W)).map fun k=>D.int (((0+k:Nat):Int)+1)).length:Int)) f3 (by lia) (by lia)
  obtain⟨x4,hx4,hm4,_⟩:=fF (xs:=([.int 0]:List D)++((MK W).filter (wq W)).map fun k=>D.int (((0+k:Nat):Int)+1)) d40 d41;obtain⟨q,rfl,hq⟩:∃q:Nat,x4=.int (q:Int)/\(q=0∨q∈PL W):=by
   rcases Zc.mp hm4 with h|h
   ·exact⟨0,Za.mp h,.inl rfl⟩
   ·obtain⟨j,hj,rfl⟩:=Qc.mp h;exact⟨j+1,by rw[AY];rfl,.inr (Qc.mpr ⟨j,hj,rfl⟩)⟩
  obtain⟨q1,q2⟩:=Lr k hl hq;obtain⟨d5,φ5,e5,d50,d51,f5⟩:=bK (n:=11) f4 (by decide) (by decide)
  obtain⟨x5,hx5,hm5,_⟩:=fF (xs:=mores.map fun M=>D.lst (M.map D.str)) d50 d51;obtain⟨M,hM,rfl⟩:=Qc.mp hm5;have l9M:(∀M∈mores,(∀t∈M,t.cps.toList.length<=9)/\M.length<=2):=by decide +kernel
  refine done (W.take q++M++W.drop q) φ5 [.io φ5,.v (.lst L),.v (.lst ((MK W).map nI)),.o (.lst ((WD W).map nI)),.v (.int q),.v (.int w),.v (.int y),.e,.o (.lst (([.int 0]:List D)++((MK W).filter (wq W)).map fun k=>D.int (((0+k:Nat):Int)+1))),.o (.lst (mores.map fun M=>D.lst (M.map D.str))),.e,.e,.e] ⟨_,rfl⟩ (head _ _ (af (sk 0 _ (by lia)) (af (sk 1 _ (by lia)) (af (sk 2 _ (by lia)) (cW (tk 3 _ _ hy ?_)))))) f5 (Fu k hl (MD k (by lia) (AH q W).symm q2 hM) (Wb _) (l9M M hM).1 (by have:=(l9M M hM).2;lia))
  subst hST;have c3:cY 1 [1] (lB (aW 2)) (gN 0) eZ fj [.io φ3,.v (.lst L),.o (.lst ((MK W).map nI)),.o (.lst ((WD W).map nI)),.v (.int a),.v (.int w),.v (.int y),.e,.e,.e,.e,.e,.e]=some (.f (.lst (((MK W).filter (wq W)).map fun k=>D.int (((0+k:Nat):Int)+1))),[.io φ3,.v (.lst L),.v (.lst ((MK W).map nI)),.o (.lst ((WD W).map nI)),.v (.int a),.v (.int w),.v (.int y),.e,.e,.e,.e,.e,.e]):=by
   refine d8 (kO rfl rfl) (by rw[Xa,Ae (by lia:(MK W).length<=1000000)];rfl) (s2:=[.e,.v (.lst L)]) ?_
   refine dW (fg:=gN 0) (fc:=eZ) (fe:=fj) (k:=1) nI (fun k=>D.int (((0+k:Nat):Int)+1)) (wq W) [.e,.v (.lst L)] (MK W) fun j hj=>⟨[.v (nI j),.v (.lst L)],[.v (nI j),.v (.lst L)],rfl,?_,fun _=>rfl,fun _=>⟨.d (D.int (((0+j:Nat):Int)+1)),[.v (nI j),.v (.lst L)],[.v (nI j),.v (.lst L)],aq rfl rfl rfl rfl rfl,rfl,rfl⟩⟩;have ij:cK (.lst L) (nI j)=some (.str (W.getD j ""),false):=by rw[Lm];exact ix1 j (n8 hj).1
   exact aK (aq (d2:=.lst ((["]",")"]:List Str).map D.str)) (aq rfl rfl rfl rfl ij) rfl rfl rfl uq) rfl
  refine af (s:=[.io φ3,.v (.lst L),.v (.lst ((MK W).map nI)),.o (.lst ((WD W).map nI)),.v (.int a),.v (.int w),.v (.int y),.e,.o (.lst (([.int 0]:List D)++((MK W).filter (wq W)).map fun k=>D.int (((0+k:Nat):Int)+1))),.e,.e,.e,.e]) (hJ (s:=[.io φ3,.v (.lst L),.v (.lst ((MK W).map nI)),.o (.lst ((WD W).map nI)),.v (.int a),.v (.int w),.v (.int y),.e,.e,.e,.e,.e,.e]) (aq (d1:=.lst [.int 0]) rfl c3 rfl rfl (fN (by rw[Xa];have:=AI (wq W) (MK W);show 1+_<=_;lia))) rfl) ?_
  refine af (s:=[.io φ4,.v (.lst L),.v (.lst ((MK W).map nI)),.o (.lst ((WD W).map nI)),.v (.int q),.v (.int w),.v (.int y),.e,.o (.lst (([.int 0]:List D)++((MK W).filter (wq W)).map fun k=>D.int (((0+k:Nat):Int)+1))),.e,.e,.e,.e]) (cH (s:=[.io φ4,.v (.lst L),.v (.lst ((MK W).map nI)),.o (.lst ((WD W).map nI)),.v (.int a),.v (.int w),.v (.int y),.e,.o (.lst (([.int 0]:List D)++((MK W).filter (wq W)).map fun k=>D.int (((0+k:Nat):Int)+1))),.e,.e,.e,.e]) (aq rfl (bJ rfl rfl (ak (cP rfl rfl rfl) rfl) rfl rfl rfl e4) rfl rfl (cy hx4)) rfl) ?_;refine af (s:=[.io φ4,.v (.lst L),.v (.lst ((MK W).map nI)),.o (.lst ((WD W).map nI)),.v (.int q),.v (.int w),.v (.int y),.e,.o (.lst (([.int 0]:List D)++((MK W).filter (wq W)).map fun k=>D.int (((0+k:Nat):Int)+1))),.o (.lst ((mores.take 6).map fun M=>D.lst (M.map D.str))),.e,.e,.e]) rfl ?_;refine af (s:=[.io φ4,.v (.lst L),.v (.lst ((MK W).map nI)),.o (.lst ((WD W).map nI)),.v (.int q),.v (.int w),.v (.int y),.e,.o (.lst (([.int 0]:List D)++((MK W).filter (wq W)).map fun k=>D.int (((0+k:Nat):Int)+1))),.o (.lst (mores.map fun M=>D.lst (M.map D.str))),.e,.e,.e]) rfl ?_;have p1:=add_l (a:=W.take q) (b:=M) k hl (by have:=lt q;lia) (by have:=(l9M M hM).2;lia)
  have p2:=add_l (a:=W.take q++M) (b:=W.drop q) k hl (by have:=lt q;have:=(l9M M hM).2;rw[Wa];lia) (by have:=ld q;lia)
  exact bE (aq (aq (T4 _ _ _ _ q _ q1) (aq (d1:=.lst (mores.map fun M=>D.lst (M.map D.str))) rfl (bJ rfl rfl rfl rfl rfl rfl e5) rfl rfl (cy hx5)) rfl rfl p1) (F4 _ _ _ _ q _ q1) rfl rfl p2)
 ·-- no bead for one
  obtain⟨t,φ4,e4,f4,ht⟩:=nM f3;obtain⟨n1,n2,n3,n4⟩:=rz t ht;refine done (W.take w++[t]++W.drop (w+1)) φ4 [.io φ4,.v (.lst L),.o (.lst ((MK W).map nI)),.o (.lst ((WD W).map nI)),.v (.int a),.v (.int w),.v (.int y),.e,.e,.e,.e,.e,.e] ⟨_,rfl⟩ (head _ _ (af (sk 0 _ (by lia)) (af (sk 1 _ (by lia)) (af (sk 2 _ (by lia)) (af (sk 3 _ (by lia)) (cW (tk 4 _ _ hy ?_))))))) f4 (Fu k hl (wm k (by lia) cw (b:=false) (N:=[t]) (fun u hu=>by obtain rfl:=Za.mp hu;exact n1 false) (by simp) (Za.mpr rfl) n2 n3) (by lia) (fun u hu=>by obtain rfl:=Za.mp hu;exact(n1 false).2) (by simp))
  subst hST;have q:=add_l (a:=W.take w++[t]) (b:=W.drop (w+1)) k hl (by have:=lt w;simp;lia) (by have:=ld (w+1);lia)
  exact bE (aq (aq (T5 _ _ _ _ w _ (by lia)) (fU (ak (bJ rfl rfl rfl rfl rfl rfl e4) rfl) rfl (by show 1<=1000000;decide)) rfl rfl (add_l (b:=[t]) k hl (by have:=lt w;lia) (by simp))) (G5 _ _ _ _ w _ w1) rfl rfl q)
 ·-- no bead ahead of one
  obtain⟨t,φ4,e4,f4,ht⟩:=nM f3;obtain⟨n1,n2,n3,n4⟩:=rz t ht;have dw:W.drop w=W.getD w ""::W.drop (w+1):=by
   have e:W.getD w ""=W[w]:=by rw[Ye,Qa w1];rfl
   rw[e];exact Yh w1
  refine done (W.take w++[t]++W.drop w) φ4 [.io φ4,.v (.lst L),.o (.lst ((MK W).map nI)),.o (.lst ((WD W).map nI)),.v (.int a),.v (.int w),.v (.int y),.e,.e,.e,.e,.e,.e] ⟨_,rfl⟩ (head _ _ (af (sk 0 _ (by lia)) (af (sk 1 _ (by lia)) (af (sk 2 _ (by lia)) (af (sk 3 _ (by lia)) (af (sk 4 _ (by lia)) (cW (tk 5 _ _ hy ?_)))))))) f4 (Fu k hl (by rw[dw];exact wm k (by lia) cw (b:=true) (N:=[t]) (fun u hu=>by obtain rfl:=Za.mp hu;exact n1 false) (by simp) (Za.mpr rfl) n2 n3) (by lia) (fun u hu=>by obtain rfl:=Za.mp hu;exact(n1 false).2) (by simp))
  subst hST;have q:=add_l (a:=W.take w++[t]) (b:=W.drop w) k hl (by have:=lt w;simp;lia) (by have:=ld w;lia)
  exact bE (aq (aq (T5 _ _ _ _ w _ (by lia)) (fU (ak (bJ rfl rfl rfl rfl rfl rfl e4) rfl) rfl (by show 1<=1000000;decide)) rfl rfl (add_l (b:=[t]) k hl (by have:=lt w;lia) (by simp))) (F5 _ _ _ _ w _ (by lia)) rfl rfl q)
 ·-- a minus parted from its name
  have hN:∀t∈(["-",p.2]:List Str),Tk false t:=fun t ht=>by
   simp only[Vc,Zi,AQ]at ht;rcases ht with rfl|rfl
   ·exact(rz _ (Va ..)).1 false
   ·exact xT (p:=(false,p.2)) hp
  obtain⟨n1,n2,n3,n4⟩:=rz "-" (Va ..);refine done (W.take w++[("-":Str),p.2]++W.drop (w+1)) φ3 ST ⟨_,hST.symm⟩ (head _ _ (af (sk 0 _ (by lia)) (af (sk 1 _ (by lia)) (af (sk 2 _ (by lia)) (af (sk 3 _ (by lia)) (af (sk 4 _ (by lia)) (af (sk 5 _ (by lia)) (cW (tk 6 _ _ hy ?_))))))))) f3 (Fu k hl (wm k (by lia) cw (b:=false) (N:=["-",p.2]) hN (by simp) (Va ..) n2 n3) (by lia) (fun u hu=>(hN u hu).2) (by simp))
  subst hST;have ib:=ix1 w w1;rw[ep]at ib;have p1:=add_l (a:=W.take w) (b:=["-",p.2]) k hl (by have:=lt w;lia) (by simp)
  have p2:=add_l (a:=W.take w++[("-":Str),p.2]) (b:=W.drop (w+1)) k hl (by have:=lt w;simp;lia) (by have:=ld (w+1);lia)
  exact bE (aq (aq (T5 _ _ _ _ w _ (by lia)) (fU (ak rfl (ak (xa (aq rfl rfl rfl rfl ib) rfl rfl rfl rfl rfl (C4 hp)) rfl)) rfl (by show 2<=1000000;decide)) rfl rfl p1) (G5 _ _ _ _ w _ w1) rfl rfl p2)
 ·-- marks within
  obtain⟨d4,φ4,e4,d40,d41,f4⟩:=bK (n:=5) f3 (by decide) (by decide)
  obtain⟨x4,hx4,hm4,_⟩:=fF (xs:=nests.map fun M=>D.lst (M.map D.str)) d40 d41;obtain⟨M,hM,rfl⟩:=Qc.mp hm4;have hT:Tk false (W.getD w ""):=by rw[ep];exact pb
  have okw:gL (W.getD w "")=true:=by rw[ep];exact nG hp
  have l9M:(∀M∈nests,(∀t∈M,t.cps.toList.length<=9)/\M.length<=2):=by decide +kernel
  have l1M:(∀M∈nests,1<=M.length):=by decide +kernel
  have lM:=(l9M M hM).2;have g1:=l1M M hM;have sp:tP (W.take w++(M.take 1++[W.getD w ""]++M.drop 1)++W.drop (w+1)):=by
   simp only[Vc,Zi,AQ]at hM;rcases hM with rfl|rfl|rfl|rfl|rfl
   ·exact Mr k (by lia) cw okw (r:=true) (N:=[W.getD w "",")"]) (fun t ht=>by
     simp only[Vc,Zi,AQ]at ht;rcases ht with rfl|rfl
     ·exact hT
     ·exact gh _ (by simp)) (by simp)
   ·exact Mr k (by lia) cw okw (r:=false) (N:=[W.getD w "","]"]) (fun t ht=>by
     simp only[Vc,Zi,AQ]at ht;rcases ht with rfl|rfl
     ·exact hT
     ·exact gh _ (by simp)) (by simp)
   ·exact wn k (by lia) cw (N:=["|",W.getD w ""]) (by simp) (Va ..)
   ·exact wn k (by lia) cw (N:=["(",W.getD w "","|"]) (by simp) (Yb _ (Yb _ (Va ..)))
   ·exact wn k (by lia) cw (N:=["|",W.getD w "","|"]) (by simp) (Va ..)
  have lN:(M.take 1++[W.getD w ""]++M.drop 1).length<=3:=by simp;lia
  refine done (W.take w++(M.take 1++[W.getD w ""]++M.drop 1)++W.drop (w+1)) φ4 [.io φ4,.v (.lst L),.o (.lst ((MK W).map nI)),.o (.lst ((WD W).map nI)),.v (.int a),.v (.int w),.v (.int y),.e,.e,.e,.o (.lst ((M.take 1++[W.getD w ""]++M.drop 1).map D.str)),.e,.e] ⟨_,rfl⟩ (head _ _ (af (sk 0 _ (by lia)) (af (sk 1 _ (by lia)) (af (sk 2 _ (by lia)) (af (sk 3 _ (by lia)) (af (sk 4 _ (by lia)) (af (sk 5 _ (by lia)) (af (sk 6 _ (by lia)) (cW (tk 7 _ _ hy ?_)))))))))) f4 (Fu k hl sp (by lia) (fun t ht=>?_) (by lia))
  ·subst hST;have i1:=ix1 w w1;have lm:(M.map D.str).length=M.length:=Xa ..;have s1:bV (.lst (M.map D.str)) none (some ((1:Nat):Int))=some (.lst ((M.take 1).map D.str),true):=by rw[wo (by rw[lm];exact g1),Bv]
   have s2:bV (.lst (M.map D.str)) (some ((1:Nat):Int)) none=some (.lst ((M.drop 1).map D.str),true):=by rw[mO (by rw[lm];exact g1),A7]
   have p1:=add_l (a:=M.take 1) (b:=[W.getD w ""]) k hl (by rw[Qg];lia) (by simp)
   have p2:=add_l (a:=M.take 1++[W.getD w ""]) (b:=M.drop 1) k hl (by rw[Wa,Qg];show _+1<=_;lia) (by rw[Xf];lia)
   have p3:=add_l (a:=W.take w) (b:=M.take 1++[W.getD w ""]++M.drop 1) k hl (by have:=lt w;lia) (by lia)
   have p4:=add_l (a:=W.take w++(M.take 1++[W.getD w ""]++M.drop 1)) (b:=W.drop (w+1)) k hl (by have:=lt w;rw[Wa];lia) (by have:=ld (w+1);lia)
   refine af (s:=[.io φ4,.v (.lst L),.o (.lst ((MK W).map nI)),.o (.lst ((WD W).map nI)),.v (.int a),.v (.int w),.v (.int y),.e,.e,.e,.v (.lst (M.map D.str)),.e,.e]) (cH (s:=[.io φ4,.v (.lst L),.o (.lst ((MK W).map nI)),.o (.lst ((WD W).map nI)),.v (.int a),.v (.int w),.v (.int y),.e,.e,.e,.e,.e,.e]) (aq (d1:=.lst (nests.map fun M=>D.lst (M.map D.str))) (r1:=.f (.lst (nests.map fun M=>D.lst (M.map D.str)))) (s1:=[.io φ3,.v (.lst L),.o (.lst ((MK W).map nI)),.o (.lst ((WD W).map nI)),.v (.int a),.v (.int w),.v (.int y),.e,.e,.e,.e,.e,.e]) rfl (bJ rfl rfl rfl rfl rfl rfl e4) rfl rfl (cy hx4)) rfl) ?_;refine af (s:=[.io φ4,.v (.lst L),.o (.lst ((MK W).map nI)),.o (.lst ((WD W).map nI)),.v (.int a),.v (.int w),.v (.int y),.e,.e,.e,.o (.lst ((M.take 1++[W.getD w ""]++M.drop 1).map D.str)),.e,.e]) (hJ (s:=[.io φ4,.v (.lst L),.o (.lst ((MK W).map nI)),.o (.lst ((WD W).map nI)),.v (.int a),.v (.int w),.v (.int y),.e,.e,.e,.v (.lst (M.map D.str)),.e,.e]) (aq (aq (cQ rfl rfl rfl rfl s1 rfl) (fU (ak (aq rfl rfl rfl rfl i1) rfl) rfl (by show 1<=1000000;decide)) rfl rfl p1) (cQ rfl rfl rfl rfl s2 rfl) rfl rfl p2) rfl) ?_
   exact bE (aq (aq (T5 _ _ _ _ w _ (by lia)) rfl rfl rfl p3) (G5 _ _ _ _ w _ w1) rfl rfl p4)
  ·rcases Zc.mp ht with ht|ht
   ·rcases Zc.mp ht with ht|ht
    ·exact(l9M M hM).1 t (AR ht)
    ·obtain rfl:=Za.mp ht;exact hT.2
   ·exact(l9M M hM).1 t (Zk ht)
 ·-- a strand without beads
  have fa:∀{P:Nat->Bool},((MK W).filter P).map nI=((MK W).filter P).map nI:=rfl;have n0:0∈MK W/\0<w:=by
   rcases pY k.ok k.run with h|⟨r,Q,h⟩
   ·exact absurd h h0
   ·have z:0∈MK W:=uY (by rw[h];simp) (by rw[h];exact iF r)
    refine⟨z,Nat.pos_of_ne_zero fun e=>?_⟩;rw[e]at w2;exact w2 (n8 z).2
  obtain⟨j9,hj9,lj9⟩:∃j,j∈MK W/\w<j:=by
   have hr:=k.run;rw[cw,bU]at hr;obtain⟨r,ne,_,h2⟩:=xV (by rw[ep];exact nG hp) hr
   obtain⟨bs,Q',e,_,_,_⟩:=uT (fun t ht=>k.ok t (Zk ht)) h2;have lw:(W.drop (w+1)).length=bs.length+1+Q'.length:=by rw[e];simp;lia
   rw[Xf]at lw;have hg:W.getD (w+1+bs.length) ""=cls r:=by
    have:(W.drop (w+1))[bs.length]?=some (cls r):=by rw[e,Wf (Wb _),BG];rfl
    rw[Yf]at this;rw[Ye,this];rfl
   exact⟨w+1+bs.length,uY (by lia) (by rw[hg];exact oW r),by lia⟩
  have yA:((MK W).filter fun j=>decide (j<w)).map (fun j=>((0+j:Nat):Int))≠[]:=fun z=>by
   have:0∈(MK W).filter fun j=>decide (j<w):=Xg.mpr ⟨n0.1,Ae n0.2⟩;rw[List.map_eq_nil_iff]at z;rw[z]at this;cases this
  have yB:((MK W).filter fun j=>decide (w<j)).map (fun j=>((0+j:Nat):Int))≠[]:=fun z=>by
   have:j9∈(MK W).filter fun j=>decide (w<j):=Xg.mpr ⟨hj9,Ae lj9⟩;rw[List.map_eq_nil_iff]at z;rw[z]at this;cases this
  obtain⟨bA,bA2⟩:=ux (mx:=true) yA;obtain⟨bB,bB2⟩:=ux (mx:=false) yB;obtain⟨u,hu,eu⟩:=Qc.mp bA;obtain⟨v,hv,ev⟩:=Qc.mp bB;obtain⟨hu1,hu2⟩:=Xg.mp hu;obtain⟨hv1,hv2⟩:=Xg.mp hv;have hu2:=An hu2;have hv2:=An hv2;rw[← eu]at bA2;rw[← ev]at bB2;have gA:∀j∈MK W,j<w->j<=u:=fun j hj hjw=>by
   have:=bA2 _ (Qc.mpr ⟨j,Xg.mpr ⟨hj,Ae hjw⟩,rfl⟩);simp only[if_true]at this;lia
  have gB:∀j∈MK W,w<j->v<=j:=fun j hj hjw=>by
   have:=bB2 _ (Qc.mpr ⟨j,Xg.mpr ⟨hj,Ae hjw⟩,rfl⟩);simp only[Xe,if_false]at this;lia
  obtain⟨u1,u2⟩:=n8 hu1;obtain⟨v1,v2⟩:=n8 hv1;have dv:W.drop v=W.getD v ""::W.drop (v+1):=by
   have e:W.getD v ""=W[v]:=by rw[Ye,Qa v1];rfl
   rw[e];exact Yh v1
  have tu:W.take (u+1)=W.take u++[W.getD u ""]:=by
   have e:W.getD u ""=W[u]:=by rw[Ye,Qa u1];rfl
   rw[e,List.take_succ_eq_append_getElem u1]
  have eQ:W.drop (u+1)=(W.drop (u+1)).take (v-u-1)++W.getD v ""::W.drop (v+1):=by
   conv=>lhs;rw[← AH (v - u - 1) (W.drop (u+1))]
   rw[List.drop_drop,show u+1+(v - u - 1)=v by lia,dv]
  have hB:∀t∈(W.drop (u+1)).take (v-u-1),gL t=true:=fun t ht=>by
   obtain⟨i,hi,rfl⟩:=List.mem_iff_getElem.mp ht;rw[Qg,Xf]at hi;rw[List.getElem_take,List.getElem_drop];have hj:u+1+i<W.length:=by lia
   have e:W.getD (u+1+i) ""=W[u+1+i]:=by rw[Ye,Qa hj];rfl
   have nm:u+1+i∉MK W:=fun z=>by
    rcases Nat.lt_trichotomy (u+1+i) w with c|c|c
    ·have:=gA _ z c;lia
    ·rw[c]at z;exact w2 (n8 z).2
    ·have:=gB _ z c;lia
   rcases k.ok (W[u+1+i]) (AM hj) with h|h
   ·exact absurd (uY hj (by rw[e];exact h)) nm
   ·exact h
  have B0:(W.drop (u+1)).take (v-u-1)≠[]:=fun z=>by
   have:=congrArg List.length z;rw[Qg,Xf]at this;simp at this;lia
  have sp:tP (W.take (u+1)++[]++W.drop v):=by
   rw[Wc,tu,dv];exact MC k (by lia) (uX u1) u2 v2 eQ hB B0
  refine done (W.take (u+1)++[]++W.drop v) φ3 [.io φ3,.v (.lst L),.v (.lst ((MK W).map nI)),.o (.lst ((WD W).map nI)),.v (.int a),.v (.int w),.v (.int y),.e,.e,.e,.e,.v (.int (u:Int)),.v (.int (v:Int))] ⟨_,rfl⟩ (head _ _ (af (sk 0 _ (by lia)) (af (sk 1 _ (by lia)) (af (sk 2 _ (by lia)) (af (sk 3 _ (by lia)) (af (sk 4 _ (by lia)) (af (sk 5 _ (by lia)) (af (sk 6 _ (by lia)) (af (sk 7 _ (by lia)) ?_))))))))) f3 (Fu k hl sp (by lia) (fun _ z=>(by cases z)) (by simp))
  subst hST;have cA:∀o:Sl,o=.o (.lst ((MK W).map nI))->cY 1 [5] (lB (aW 2)) (gN 0) fk fq [.io φ3,.v (.lst L),o,.o (.lst ((WD W).map nI)),.v (.int a),.v (.int w),.v (.int y),.e,.e,.e,.e,.e,.e]=some (.f (.lst (((MK W).filter fun j=>decide (j<w)).map nI)),[.io φ3,.v (.lst L),.v (.lst ((MK W).map nI)),.o (.lst ((WD W).map nI)),.v (.int a),.v (.int w),.v (.int y),.e,.e,.e,.e,.e,.e]):=fun o ho=>by
   subst ho;refine d8 (kO rfl rfl) (by rw[Xa,Ae (by lia:(MK W).length<=1000000)];rfl) (s2:=[.e,.v (.int w)]) ?_
   refine dW (fg:=gN 0) (fc:=fk) (fe:=fq) (k:=1) nI nI (fun j=>decide (j<w)) [.e,.v (.int w)] (MK W) fun j hj=>⟨[.v (nI j),.v (.int w)],[.v (nI j),.v (.int w)],rfl,?_,fun _=>rfl,fun _=>⟨.d (nI j),[.v (nI j),.v (.int w)],[.v (nI j),.v (.int w)],rfl,rfl,rfl⟩⟩;refine dR (b:=decide (((0+j:Nat):Int)<(w:Int))) (aK (aq rfl rfl rfl rfl rfl) rfl) ?_;rw[AK];lia
  have cB:cY 1 [5] (lB (aW 2)) (gN 0) fu fv [.io φ3,.v (.lst L),.v (.lst ((MK W).map nI)),.o (.lst ((WD W).map nI)),.v (.int a),.v (.int w),.v (.int y),.e,.e,.e,.e,.v (.int (u:Int)),.e]=some (.f (.lst (((MK W).filter fun j=>decide (w<j)).map nI)),[.io φ3,.v (.lst L),.v (.lst ((MK W).map nI)),.o (.lst ((WD W).map nI)),.v (.int a),.v (.int w),.v (.int y),.e,.e,.e,.e,.v (.int (u:Int)),.e]):=by
   refine d8 (kO rfl rfl) (by rw[Xa,Ae (by lia:(MK W).length<=1000000)];rfl) (s2:=[.e,.v (.int w)]) ?_
   refine dW (fg:=gN 0) (fc:=fu) (fe:=fv) (k:=1) nI nI (fun j=>decide (w<j)) [.e,.v (.int w)] (MK W) fun j hj=>⟨[.v (nI j),.v (.int w)],[.v (nI j),.v (.int w)],rfl,?_,fun _=>rfl,fun _=>⟨.d (nI j),[.v (nI j),.v (.int w)],[.v (nI j),.v (.int w)],rfl,rfl,rfl⟩⟩;refine dR (b:=decide ((w:Int)<((0+j:Nat):Int))) (aK (aq rfl rfl rfl rfl rfl) rfl) ?_;rw[AK];lia
  have qA:pC true [.lst (((MK W).filter fun j=>decide (j<w)).map nI)]=some (.int (u:Int),false):=by
   show(asInts (((MK W).filter fun j=>decide (j<w)).map nI)).bind _=_;rw[nL];show(if _ then _ else _)=_;rw[Ah yA,← eu,AY]
  have qB:pC false [.lst (((MK W).filter fun j=>decide (w<j)).map nI)]=some (.int (v:Int),false):=by
   show(asInts (((MK W).filter fun j=>decide (w<j)).map nI)).bind _=_;rw[nL];show(if _ then _ else _)=_;rw[Ah yB,← ev,AY]
  refine af (s:=[.io φ3,.v (.lst L),.v (.lst ((MK W).map nI)),.o (.lst ((WD W).map nI)),.v (.int a),.v (.int w),.v (.int y),.e,.e,.e,.e,.v (.int (u:Int)),.e]) (cH (s:=[.io φ3,.v (.lst L),.v (.lst ((MK W).map nI)),.o (.lst ((WD W).map nI)),.v (.int a),.v (.int w),.v (.int y),.e,.e,.e,.e,.e,.e]) (cP (ak (cA _ rfl) rfl) rfl qA) rfl) ?_;refine af (s:=[.io φ3,.v (.lst L),.v (.lst ((MK W).map nI)),.o (.lst ((WD W).map nI)),.v (.int a),.v (.int w),.v (.int y),.e,.e,.e,.e,.v (.int (u:Int)),.v (.int (v:Int))]) (cH (s:=[.io φ3,.v (.lst L),.v (.lst ((MK W).map nI)),.o (.lst ((WD W).map nI)),.v (.int a),.v (.int w),.v (.int y),.e,.e,.e,.e,.v (.int (u:Int)),.e]) (cP (ak cB rfl) rfl qB) rfl) ?_;have p1:=add_l (a:=W.take (u+1)) (b:=W.drop v) k hl (by have:=lt (u+1);lia) (by have:=ld v;lia)
  rw[Wc];exact bE (aq (cQ (hi:=some ((u+1:Nat):Int)) (s3:=[.io φ3,.v (.lst L),.v (.lst ((MK W).map nI)),.o (.lst ((WD W).map nI)),.v (.int a),.v (.int w),.v (.int y),.e,.e,.e,.e,.v (.int (u:Int)),.v (.int (v:Int))]) rfl rfl (mP (aq rfl rfl rfl rfl (pl1 u)) rfl) rfl (st1 (u+1) u1) rfl) (cQ rfl rfl rfl rfl (st2 v (by lia)) rfl) rfl rfl p1)
end
end K05
namespace K05
open PySem L2 VF VL VF22 VX VT
noncomputable section
def zb (V:List Str):Prop:=∀x,Txs V x->za true (.str x)
theorem Fw {V:List Str} {t:Str} {c:Nat} (hl:V.length<=190) (ht:t∈V) (hc:c∈t.cps.toList) (h4:c∈[91,93,40,41]):zb V:=fun x T =>
 (oU (by have:=T.len;lia)).2 c h4 (T.chr t ht c hc)
theorem Dm:∀m∈mks,∃c∈m.cps.toList,c∈[91,93,40,41]:=by decide +kernel
theorem Do {V:List Str} {m:Str} (hl:V.length<=190) (ht:m∈V) (hm:m∈mks):zb V:=by
 obtain⟨c,h1,h2⟩:=Dm m hm;exact Fw hl ht h1 h2
theorem jq {V:List Str} (hl:V.length<=190) (tk:∀t∈V,Tk true t) (b:IX V):zb V:=fun x T=>by
 have e:=oR (b:=true) T fun t ht=>(tk t ht).1;have w:=kI (b:=true) (x:=x) (by have:=T.len;lia)
 rw[e]at w;exact De w b
structure SpE (W V:List Str):Prop where
 sp:zb V
 ln:V.length<=W.length+5
 l9:∀t∈V,t.cps.toList.length<=9
theorem tG:Tk true bar:=by decide +kernel
theorem mQ:Tk true "zz"/\("zz":Str)≠"|":=by decide +kernel
section
variable {ps:List (Bool×Str)} (hn:∀p∈ps,Nm p.2) (hl:ps.length<=50)
include hn hl
theorem p9:∀t∈lw ps,Tk true t:=fun t ht=>by
 unfold lw at ht;rcases Vc.mp ht with rfl|ht
 ·exact tG
 ·rcases Zc.mp ht with ht|ht
  ·obtain⟨p,hp,rfl⟩:=Qc.mp ht;exact xT (hn p hp)
  ·obtain rfl:=Za.mp ht;exact tG
theorem uZ:(lw ps).length=ps.length+2:=by unfold lw;simp
theorem xX {p:Bool×Str} (hp:p∈ps):bd p≠"|":=fun z=>tD (hn p hp) (by rw[z];decide +kernel)
theorem ME {a b:Nat} {N:List Str} (h:zb ((lw ps).take a++N++(lw ps).drop b)) (hab:a<=b) (hN:∀t∈N,t.cps.toList.length<=9) (lN:N.length<=5):SpE (lw ps) ((lw ps).take a++N++(lw ps).drop b):=by
 refine⟨h,?_,fun t ht=>?_⟩
 ·simp only[Wa,Qg,Xf];lia
 ·rcases Zc.mp ht with ht|ht
  ·rcases Zc.mp ht with ht|ht
   ·exact(p9 hn hl t (AR ht)).2
   ·exact hN t ht
  ·exact(p9 hn hl t (Zk ht)).2
theorem tH {a b:Nat} {N:List Str} (hN:∀t∈N,Tk true t):∀t∈(lw ps).take a++N++(lw ps).drop b,Tk true t:=fun t ht=>by
 rcases Zc.mp ht with ht|ht
 ·rcases Zc.mp ht with ht|ht
  ·exact p9 hn hl t (AR ht)
  ·exact hN t ht
 ·exact p9 hn hl t (Zk ht)
theorem few {a b:Nat} {N:List Str} (lN:N.length<=5):((lw ps).take a++N++(lw ps).drop b).length<=190:=by
 have:=uZ hn hl;simp only[Wa,Qg,Xf];lia
theorem MF {a:Nat} (h:a=0∨a=(lw ps).length-1):zb ((lw ps).take a++[]++(lw ps).drop (a+1)):=by
 refine jq (few hn hl (by simp)) (tH hn hl fun _ z=>(by cases z)) ?_
 have ln:=uZ hn hl;rcases h with rfl|rfl
 ·have e:(lw ps).take 0++[]++(lw ps).drop (0+1)=ps.map bd++[bar]:=by unfold lw;simp
  rw[e];cases ps with
  | nil=>exact .inl (by simp)
  | cons p r=>exact .inr (.inl ⟨bd p,rfl,xX hn hl (Va ..)⟩)
 ·have e:(lw ps).take ((lw ps).length-1)++[]++(lw ps).drop ((lw ps).length-1+1)=bar::ps.map bd:=by
   rw[ln,Wc,show ps.length+2 - 1+1=ps.length+2 by lia,← ln,List.drop_length,Wc,ln]
   unfold lw;rw[show bar::(ps.map bd++[bar])=(bar::ps.map bd)++[bar] from rfl,List.take_left' (by simp)]
  rw[e];rcases List.eq_nil_or_concat ps with rfl|⟨r,p,rfl⟩
  ·exact .inl (by simp)
  ·refine .inr (.inr (.inl ⟨bd p,?_,xX hn hl (by simp)⟩))
   rw[Zl,List.concat_eq_append,Qd,Qj];rfl
theorem MG {a:Nat} (h:a=0∨a=(lw ps).length-1):zb ((lw ps).take a++[("zz":Str)]++(lw ps).drop (a+1)):=by
 refine jq (few hn hl (by simp)) (tH hn hl fun t z=>by obtain rfl:=Za.mp z;exact mQ.1) ?_
 have ln:=uZ hn hl;rcases h with rfl|rfl
 ·exact .inr (.inl ⟨"zz",by simp,mQ.2⟩)
 ·refine .inr (.inr (.inl ⟨"zz",?_,mQ.2⟩));rw[ln,show ps.length+2 - 1+1=ps.length+2 by lia,← ln,List.drop_length,Wc,Qj];rfl
theorem Fx:∀(ws:List Str),3<=ws.count bar->bar∈mid ws:=by
 intro ws h;cases ws with
 | nil=>simp at h
 | cons a r =>
  have hr:r≠[]:=fun z=>by rw[z]at h;have:=List.count_le_length (a:=bar) (l:=[a]);simp at this;lia
  unfold mid;rw[Bo,← List.count_pos_iff];rw[← Vn hr,List.count_cons,Xn]at h;have h1:[r.getLast hr].count bar<=1:=List.count_le_length;have h2:(if (a == bar)=true then 1 else 0)<=1:=by split<;>lia
  lia
theorem ln2 {a:Nat}:zb ((lw ps).take a++[bar]++(lw ps).drop a):=by
 refine jq (few hn hl (by simp)) (tH hn hl fun t z=>by obtain rfl:=Za.mp z;exact tG) (.inr (.inr (.inr ⟨bar,Fx hn hl _ ?_,Je⟩)))
 have e:(lw ps).count bar ≥ 2:=by unfold lw;rw[List.count_cons,Xn];simp
 rw[← AH a (lw ps),Xn]at e;rw[Xn,Xn];have:[bar].count bar=1:=by simp
 lia
theorem Dq {a b:Nat} {N:List Str} {u:Str} (hN:∀t∈N,Tk true t) (lN:N.length<=5) (hu:u∈N) (h1:gL u=false) (h2:u≠"|"):zb ((lw ps).take a++N++(lw ps).drop b) :=
 jq (few hn hl lN) (tH hn hl hN) (xQ (Zd _ (Xc _ hu)) h1 h2)
theorem GP {a b:Nat} {N:List Str} {m:Str} (lN:N.length<=5) (hu:m∈N) (hm:m∈mks):zb ((lw ps).take a++N++(lw ps).drop b) :=
 Do (few hn hl lN) (Zd _ (Xc _ hu)) hm
end
end
end K05
namespace K05
open PySem L2 VF VL VF22 VX VT
noncomputable section
theorem qa {a b:List Str} (ha:a.length<=1000) (hb:b.length<=1000):aR (.lst (a.map D.str)) (.lst (b.map D.str))=some (.lst ((a++b).map D.str),true):=by
 rw[fN (by rw[Xa,Xa];lia),Qd]
theorem qb {φ:D} {ps:List (Bool×Str)} (hφ:cC φ) (hn:∀p∈ps,Nm p.2) (hl:ps.length<=50) :
  ∃(V:List Str) (φ':D) (b:Bool),cT φ [.lst ((lw ps).map D.str)]=some ((.lst (V.map D.str),b),φ')/\cC φ'/\SpE (lw ps) V:=by
 have ln:=uZ hn hl;generalize hW:lw ps=W at ln;obtain⟨y,φ1,e1,y0,y1,f1⟩:=bK (n:=8) hφ (by decide) (by decide)
 obtain⟨d2,φ2,e2,d20,d21,f2⟩:=bK (n:=2) f1 (by decide) (by decide)
 obtain⟨d3,φ3,e3,d30,d31,f3⟩:=bK (n:=(W.length:Int)-1) f2 (by lia) (by lia)
 obtain⟨a,ha,hx2⟩:∃a:Nat,(a=0∨a=W.length-1)/\cK (.lst [.int 0,.int ((W.length:Int)-1)]) (.int d2)=some (.int (a:Int),false):=by
  have:d2=0∨d2=1:=by lia
  rcases this with rfl|rfl
  ·exact⟨0,.inl rfl,cy rfl⟩
  ·refine⟨W.length-1,.inr rfl,?_⟩;rw[show((W.length - 1:Nat):Int)=(W.length:Int) - 1 by lia]
   exact cy rfl
 obtain⟨i,hi,hi2⟩:∃i:Nat,1+d3=(i:Int)/\i<=W.length:=by
  obtain⟨i,hi⟩:=Zm (a:=1+d3) (by lia)
  exact⟨i,hi,by lia⟩
 have al:a<W.length:=by lia
 generalize hL:W.map D.str=L;have lL:(L.length:Int)=(W.length:Int):=by rw[← hL,Xa]
 have head:∀T:FS,∀z,T [.io φ3,.v (.lst L),.v (.int y),.v (.int a),.v (.int i),.e]=z ->
   aM (bn (eW aD 0 (ac (fC (.int 8)) aj)) 2) (aM (bn (aL cK (bu (ac (fC (.int 0)) (ac (aL yr (dL dQ (ac (aW 1) aj)) (fC (.int 1))) aj))) (eW aD 0 (ac (fC (.int 2)) aj))) 3) (aM (bn (aL aR (fC (.int 1)) (eW aD 0 (ac (aL yr (dL dQ (ac (aW 1) aj)) (fC (.int 1))) aj))) 4) T)) [.io φ,.v (.lst L),.e,.e,.e,.e]=z:=fun T z h=>by
  refine af (s:=[.io φ1,.v (.lst L),.v (.int y),.e,.e,.e]) (cH (s:=[.io φ1,.v (.lst L),.e,.e,.e,.e]) (bJ rfl rfl rfl rfl rfl rfl e1) rfl) ?_;refine af (s:=[.io φ2,.v (.lst L),.v (.int y),.v (.int a),.e,.e]) (cH (s:=[.io φ2,.v (.lst L),.v (.int y),.e,.e,.e]) (aq (d1:=.lst [.int 0,.int ((W.length:Int)-1)]) (r1:=.f (.lst [.int 0,.int ((W.length:Int)-1)])) (s1:=[.io φ1,.v (.lst L),.v (.int y),.e,.e,.e]) (by rw[← lL];rfl) (bJ rfl rfl rfl rfl rfl rfl e2) rfl rfl hx2) rfl) ?_
  have e3':aD φ2 [.int ((L.length:Int)-1)]=some ((.int d3,false),φ3):=by rw[lL];exact e3
  refine af (cH (s:=[.io φ3,.v (.lst L),.v (.int y),.v (.int a),.e,.e]) (x:=.int i) ?_ rfl) h;rw[← hi];exact aq rfl (bJ rfl rfl (ak (aq (cP rfl rfl rfl) rfl rfl rfl rfl) rfl) rfl rfl rfl e3') rfl rfl rfl
 generalize hST:([.io φ3,.v (.lst L),.v (.int y),.v (.int a),.v (.int i),.e]:En)=ST at head;have sk:∀(j:Int) (X:FS),y≠j->gP (aO (aL ju (aW 2) (fC (.int j)))) X bM ST=some (.nx ST):=fun j X h=>by
  subst hST;exact gE (dR (aK (aq rfl rfl rfl rfl rfl) rfl) (Ag fun z=>h (by injection z))) rfl
 have tk:∀(j:Int) (X:FS) z,y=j->X ST=z->gP (aO (aL ju (aW 2) (fC (.int j)))) X bM ST=z:=fun j X z h h2=>by
  have h3:aO (aL ju (aW 2) (fC (.int j))) ST=some (true,ST):=by
   subst hST;exact dR (aK (aq rfl rfl rfl rfl rfl) rfl) (Ae (by rw[h]))
  exact iW h3 h2
 have done:∀(V:List Str) (φ':D) (s:En),(∃l,s=.io φ'::l)->dO [.io φ,.v (.lst L),.e,.e,.e,.e]=some (.rt (.f (.lst (V.map D.str))) s)->cC φ'->SpE W V->∃(V:List Str) (φ':D) (b:Bool),cT φ [.lst L]=some ((.lst (V.map D.str),b),φ')/\cC φ'/\SpE W V:=fun V φ' s ⟨l,hs⟩ h f sp=>⟨V,φ',true,cu rfl h (by rw[hs];rfl),f,sp⟩
 have done2:∀(V:List Str) (φ':D) (s:En),(∃l,s=.io φ'::l)->dO [.io φ,.v (.lst L),.e,.e,.e,.e]=some (.rt (.d (.lst (V.map D.str))) s)->cC φ'->SpE W V->∃(V:List Str) (φ':D) (b:Bool),cT φ [.lst L]=some ((.lst (V.map D.str),b),φ')/\cC φ'/\SpE W V:=fun V φ' s ⟨l,hs⟩ h f sp=>⟨V,φ',false,cu rfl h (by rw[hs];rfl),f,sp⟩
 have st1:∀b:Nat,b<=W.length->bV (.lst L) none (some (b:Int))=some (.lst ((W.take b).map D.str),true):=fun b h=>by rw[← hL,wo (by rw[Xa];exact h),Bv]
 have st2:∀b:Nat,b<=W.length->bV (.lst L) (some (b:Int)) none=some (.lst ((W.drop b).map D.str),true):=fun b h=>by rw[← hL,mO (by rw[Xa];exact h),A7]
 have pl1:∀(b:Nat),aR (.int (b:Int)) (.int 1)=some (.int ((b+1:Nat):Int),false):=fun b=>rfl;have lt:∀b,(W.take b).length<=60:=fun b=>Yc (List.length_take_le' _ _) (by lia)
 have ld:∀b,(W.drop b).length<=60:=fun b=>by rw[Xf];lia
 have T3:∀(ψ:D) (o2 o4 o5:Sl) (b:Nat),b<=W.length->gl bV (aW 1) gQ (bC (aW 3)) [.io ψ,.v (.lst L),o2,.v (.int b),o4,o5]=some (.f (.lst ((W.take b).map D.str)),[.io ψ,.v (.lst L),o2,.v (.int b),o4,o5]):=fun ψ o2 o4 o5 b h=>cQ rfl rfl rfl rfl (st1 b h) rfl;have G3:∀(ψ:D) (o2 o4 o5:Sl) (b:Nat),b<W.length->gl bV (aW 1) (bC (aL aR (aW 3) (fC (.int 1)))) gQ [.io ψ,.v (.lst L),o2,.v (.int b),o4,o5]=some (.f (.lst ((W.drop (b+1)).map D.str)),[.io ψ,.v (.lst L),o2,.v (.int b),o4,o5]):=fun ψ o2 o4 o5 b h=>cQ (lo:=some ((b+1:Nat):Int)) (s2:=[.io ψ,.v (.lst L),o2,.v (.int b),o4,o5]) rfl (mP (aq rfl rfl rfl rfl (pl1 b)) rfl) rfl rfl (st2 (b+1) h) rfl;have T4:∀(ψ:D) (o2 o3 o5:Sl) (b:Nat),b<=W.length->gl bV (aW 1) gQ (bC (aW 4)) [.io ψ,.v (.lst L),o2,o3,.v (.int b),o5]=some (.f (.lst ((W.take b).map D.str)),[.io ψ,.v (.lst L),o2,o3,.v (.int b),o5]):=fun ψ o2 o3 o5 b h=>cQ rfl rfl rfl rfl (st1 b h) rfl;have F4:∀(ψ:D) (o2 o3 o5:Sl) (b:Nat),b<=W.length->gl bV (aW 1) (bC (aW 4)) gQ [.io ψ,.v (.lst L),o2,o3,.v (.int b),o5]=some (.f (.lst ((W.drop b).map D.str)),[.io ψ,.v (.lst L),o2,o3,.v (.int b),o5]):=fun ψ o2 o3 o5 b h=>cQ rfl rfl rfl rfl (st2 b h) rfl;have T5:∀(ψ:D) (o2 o3 o4:Sl) (b:Nat),b<=W.length->gl bV (aW 1) gQ (bC (aW 5)) [.io ψ,.v (.lst L),o2,o3,o4,.v (.int b)]=some (.f (.lst ((W.take b).map D.str)),[.io ψ,.v (.lst L),o2,o3,o4,.v (.int b)]):=fun ψ o2 o3 o4 b h=>cQ rfl rfl rfl rfl (st1 b h) rfl;have F5:∀(ψ:D) (o2 o3 o4:Sl) (b:Nat),b<=W.length->gl bV (aW 1) (bC (aW 5)) gQ [.io ψ,.v (.lst L),o2,o3,o4,.v (.int b)]=some (.f (.lst ((W.drop b).map D.str)),[.io ψ,.v (.lst L),o2,o3,o4,.v (.int b)]):=fun ψ o2 o3 o4 b h=>cQ rfl rfl rfl rfl (st2 b h) rfl;have sp:∀{a b:Nat} {N:List Str},zb (W.take a++N++W.drop b)->a<=b->(∀t∈N,t.cps.toList.length<=9)->N.length<=5->SpE W (W.take a++N++W.drop b):=fun {a b N} h1 h2 h3 h4=>by rw[← hW]at h1 ⊢;exact ME hn hl h1 h2 h3 h4
 have mid2:∀{b c:Nat} {N:List Str},N.length<=5->aR (.lst ((W.take b).map D.str)) (.lst (N.map D.str))=some (.lst ((W.take b++N).map D.str),true)/\aR (.lst ((W.take b++N).map D.str)) (.lst ((W.drop c).map D.str))=some (.lst ((W.take b++N++W.drop c).map D.str),true):=fun {b c N} h=>⟨qa (by have:=lt b;lia) (by lia),qa (by have:=lt b;rw[Wa];lia) (by have:=ld c;lia)⟩
 have cases8:y=0∨y=1∨y=2∨y=3∨y=4∨y=5∨y=6∨y=7:=by lia
 rcases cases8 with hy|hy|hy|hy|hy|hy|hy|hy
 ·refine done (W.take a++[]++W.drop (a+1)) φ3 ST ⟨_,hST.symm⟩ (head _ _ (cW (tk 0 _ _ hy ?_))) f3 (sp (by rw[← hW];rw[← hW]at ha;exact MF hn hl ha) (by lia) (fun _ z=>(by cases z)) (by simp))
  subst hST;have q:=qa (a:=W.take a) (b:=W.drop (a+1)) (by have:=lt a;lia) (by have:=ld (a+1);lia)
  rw[Wc];exact bE (aq (T3 _ _ _ _ a (by lia)) (G3 _ _ _ _ a al) rfl rfl q)
 ·obtain⟨d4,φ4,e4,d40,d41,f4⟩:=bK (n:=5) f3 (by decide) (by decide)
  obtain⟨x4,hx4,hm4,_⟩:=fF (xs:=(["[","]","(",")","zz"]:List Str).map D.str) d40 d41;obtain⟨m,hm,rfl⟩:=Qc.mp hm4;have l9:∀m∈(["[","]","(",")","zz"]:List Str),m.cps.toList.length<=9/\(m∈mks∨m="zz"):=by decide +kernel
  have spm:zb (W.take a++[m]++W.drop (a+1)):=by
   rw[← hW]at ha ⊢;rcases(l9 m hm).2 with h|rfl
   ·exact GP hn hl (by simp) (Za.mpr rfl) h
   ·exact MG hn hl ha
  refine done (W.take a++[m]++W.drop (a+1)) φ4 [.io φ4,.v (.lst L),.v (.int y),.v (.int a),.v (.int i),.e] ⟨_,rfl⟩ (head _ _ (af (sk 0 _ (by lia)) (cW (tk 1 _ _ hy ?_)))) f4 (sp spm (by lia) (fun t ht=>by obtain rfl:=Za.mp ht;exact(l9 _ hm).1) (by simp))
  subst hST;obtain⟨q1,q2⟩:=mid2 (b:=a) (c:=a+1) (N:=[m]) (by simp)
  exact bE (aq (aq (T3 _ _ _ _ a (by lia)) (fU (ak (aq (d1:=.lst ((["[","]","(",")","zz"]:List Str).map D.str)) rfl (bJ rfl rfl rfl rfl rfl rfl e4) rfl rfl (cy hx4)) rfl) rfl (by show 1<=1000000;decide)) rfl rfl q1) (G3 _ _ _ _ a al) rfl rfl q2)
 ·obtain⟨d4,φ4,e4,d40,d41,f4⟩:=bK (n:=(W.length:Int)+1) f3 (by lia) (by lia)
  obtain⟨o,rfl⟩:=Zm d40;have e4':aD φ3 [.int ((L.length:Int)+1)]=some ((.int (o:Int),false),φ4):=by rw[lL];exact e4
  refine done (W.take o++[bar]++W.drop o) φ4 [.io φ4,.v (.lst L),.v (.int y),.v (.int a),.v (.int i),.v (.int o)] ⟨_,rfl⟩ (head _ _ (af (sk 0 _ (by lia)) (af (sk 1 _ (by lia)) (cW (tk 2 _ _ hy ?_))))) f4 (sp (by rw[← hW];exact ln2 hn hl) (by lia) (fun t ht=>by obtain rfl:=Za.mp ht;exact tG.2) (by simp))
  subst hST;obtain⟨q1,q2⟩:=mid2 (b:=o) (c:=o) (N:=[bar]) (by simp)
  refine af (s:=[.io φ4,.v (.lst L),.v (.int y),.v (.int a),.v (.int i),.v (.int o)]) (cH (s:=[.io φ4,.v (.lst L),.v (.int y),.v (.int a),.v (.int i),.e]) (bJ rfl rfl (ak (aq (cP rfl rfl rfl) rfl rfl rfl rfl) rfl) rfl rfl rfl e4') rfl) ?_;exact bE (aq (aq (T5 _ _ _ _ o (by lia)) rfl rfl rfl q1) (F5 _ _ _ _ o (by lia)) rfl rfl q2)
 ·obtain⟨d4,φ4,e4,d40,d41,f4⟩:=bK (n:=3) f3 (by decide) (by decide)
  have kW:∀t∈W,Tk true t:=fun t ht=>by rw[← hW]at ht;exact p9 hn hl t ht
  have n1:aR (.lst [.str "zz"]) (.lst L)=some (.lst ((("zz":Str)::W).map D.str),true):=by rw[← hL];exact qa (a:=["zz"]) (b:=W) (by simp) (by lia)
  have n2:aR (.lst L) (.lst [.str "zz"])=some (.lst ((W++[("zz":Str)]).map D.str),true):=by rw[← hL];exact qa (a:=W) (b:=["zz"]) (by lia) (by simp)
  have n3:aR (.lst [.str "["]) (.lst L)=some (.lst ((("[":Str)::W).map D.str),true):=by rw[← hL];exact qa (a:=["["]) (b:=W) (by simp) (by lia)
  have n4:aR (.lst ((("[":Str)::W).map D.str)) (.lst [.str "]"])=some (.lst ((("[":Str)::W++[("]":Str)]).map D.str),true):=qa (a:="["::W) (b:=["]"]) (by simp;lia) (by simp)
  obtain⟨V,hV,hS⟩:∃V:List Str,cK (.lst [.lst ((("zz":Str)::W).map D.str),.lst ((W++[("zz":Str)]).map D.str),.lst ((("[":Str)::W++[("]":Str)]).map D.str)]) (.int d4)=some (.lst (V.map D.str),false)/\SpE W V:=by
   have:d4=0∨d4=1∨d4=2:=by lia
   rcases this with rfl|rfl|rfl
   ·refine⟨_,cy rfl,⟨jq (by simp;lia) (fun t ht=>?_) (.inr (.inl ⟨"zz",rfl,mQ.2⟩)),by simp,fun t ht=>?_⟩⟩<;>rcases Vc.mp ht with rfl|ht
    ·exact mQ.1
    ·exact kW t ht
    ·exact mQ.1.2
    ·exact(kW t ht).2
   ·refine⟨_,cy rfl,⟨jq (by simp;lia) (fun t ht=>?_) (.inr (.inr (.inl ⟨"zz",by rw[Qj];rfl,mQ.2⟩))),by simp,fun t ht=>?_⟩⟩<;>rcases Zc.mp ht with ht|ht
    ·exact kW t ht
    ·obtain rfl:=Za.mp ht;exact mQ.1
    ·exact(kW t ht).2
    ·obtain rfl:=Za.mp ht;exact mQ.1.2
   ·refine⟨_,cy rfl,⟨Do (m:="[") (by simp;lia) (Zd _ (Va ..)) (Va ..),by simp,fun t ht=>?_⟩⟩
    rcases Zc.mp ht with ht|ht
    ·rcases Vc.mp ht with rfl|ht
     ·decide +kernel
     ·exact(kW t ht).2
    ·obtain rfl:=Za.mp ht;decide +kernel
  refine done2 V φ4 [.io φ4,.v (.lst L),.v (.int y),.v (.int a),.v (.int i),.e] ⟨_,rfl⟩ (head _ _ (af (sk 0 _ (by lia)) (af (sk 1 _ (by lia)) (af (sk 2 _ (by lia)) (cW (tk 3 _ _ hy ?_)))))) f4 hS
  subst hST;exact bE (aq (d1:=.lst [.lst ((("zz":Str)::W).map D.str),.lst ((W++[("zz":Str)]).map D.str),.lst ((("[":Str)::W++[("]":Str)]).map D.str)]) (r1:=.f (.lst [.lst ((("zz":Str)::W).map D.str),.lst ((W++[("zz":Str)]).map D.str),.lst ((("[":Str)::W++[("]":Str)]).map D.str)])) (s1:=[.io φ3,.v (.lst L),.v (.int y),.v (.int a),.v (.int i),.e]) (fU (ak (aq rfl rfl rfl rfl n1) (ak (aq rfl rfl rfl rfl n2) (ak (aq (aq rfl rfl rfl rfl n3) rfl rfl rfl n4) rfl))) rfl (by show 3<=1000000;decide)) (bJ rfl rfl rfl rfl rfl rfl e4) rfl rfl hV)
 ·obtain⟨t,φ4,e4,f4,ht⟩:=nM f3;obtain⟨n1,n2,n3,n4⟩:=rz t ht;refine done (W.take i++[t]++W.drop i) φ4 [.io φ4,.v (.lst L),.v (.int y),.v (.int a),.v (.int i),.e] ⟨_,rfl⟩ (head _ _ (af (sk 0 _ (by lia)) (af (sk 1 _ (by lia)) (af (sk 2 _ (by lia)) (af (sk 3 _ (by lia)) (cW (tk 4 _ _ hy ?_))))))) f4 (sp (by rw[← hW];exact Dq hn hl (fun u hu=>by obtain rfl:=Za.mp hu;exact n1 true) (by simp) (Za.mpr rfl) n2 n4) (by lia) (fun u hu=>by obtain rfl:=Za.mp hu;exact(n1 true).2) (by simp))
  subst hST;obtain⟨q1,q2⟩:=mid2 (b:=i) (c:=i) (N:=[t]) (by simp)
  exact bE (aq (aq (T4 _ _ _ _ i (by lia)) (fU (ak (bJ rfl rfl rfl rfl rfl rfl e4) rfl) rfl (by show 1<=1000000;decide)) rfl rfl q1) (F4 _ _ _ _ i (by lia)) rfl rfl q2)
 ·obtain⟨d4,φ4,e4,d40,d41,f4⟩:=bK (n:=4) f3 (by decide) (by decide)
  obtain⟨x4,hx4,hm4,_⟩:=fF (xs:=mks.map D.str) d40 d41;obtain⟨m,hm,rfl⟩:=Qc.mp hm4;refine done (W.take i++[m]++W.drop i) φ4 [.io φ4,.v (.lst L),.v (.int y),.v (.int a),.v (.int i),.e] ⟨_,rfl⟩ (head _ _ (af (sk 0 _ (by lia)) (af (sk 1 _ (by lia)) (af (sk 2 _ (by lia)) (af (sk 3 _ (by lia)) (af (sk 4 _ (by lia)) (af (sk 7 _ (by lia)) (cW (tk 5 _ _ hy ?_))))))))) f4 (sp (by rw[← hW];exact GP hn hl (by simp) (Za.mpr rfl) hm) (by lia) (fun u hu=>by obtain rfl:=Za.mp hu;exact(gh _ hm).2) (by simp))
  subst hST;obtain⟨q1,q2⟩:=mid2 (b:=i) (c:=i) (N:=[m]) (by simp)
  exact bE (aq (aq (T4 _ _ _ _ i (by lia)) (fU (ak (aq (d1:=.lst (mks.map D.str)) rfl (bJ rfl rfl rfl rfl rfl rfl e4) rfl rfl (cy hx4)) rfl) rfl (by show 1<=1000000;decide)) rfl rfl q1) (F4 _ _ _ _ i (by lia)) rfl rfl q2)
 ·have hN:∀t∈(["-","zz"]:List Str),Tk true t/\t.cps.toList.length<=9:=by decide +kernel
  obtain⟨n1,n2,n3,n4⟩:=rz "-" (Va ..);refine done (W.take i++[("-":Str),"zz"]++W.drop i) φ3 ST ⟨_,hST.symm⟩ (head _ _ (af (sk 0 _ (by lia)) (af (sk 1 _ (by lia)) (af (sk 2 _ (by lia)) (af (sk 3 _ (by lia)) (af (sk 4 _ (by lia)) (af (sk 7 _ (by lia)) (af (sk 5 _ (by lia)) ?_)))))))) f3 (sp (by rw[← hW];exact Dq hn hl (fun u hu=>(hN u hu).1) (by simp) (Va ..) n2 n4) (by lia) (fun u hu=>(hN u hu).2) (by simp))
  subst hST;obtain⟨q1,q2⟩:=mid2 (b:=i) (c:=i) (N:=[("-":Str),"zz"]) (by simp)
  exact bE (aq (aq (T4 _ _ _ _ i (by lia)) rfl rfl rfl q1) (F4 _ _ _ _ i (by lia)) rfl rfl q2)
 ·refine done [] φ3 ST ⟨_,hST.symm⟩ (head _ _ (af (sk 0 _ (by lia)) (af (sk 1 _ (by lia)) (af (sk 2 _ (by lia)) (af (sk 3 _ (by lia)) (af (sk 4 _ (by lia)) (cW (tk 7 _ _ hy (by subst hST;rfl)))))))))
   f3 ⟨jq (by simp) (fun _ z=>(by cases z)) (.inl (by simp)),by simp,fun _ z=>(by cases z)⟩
theorem Ji (r:Bool):¬ (gu r="]"∨gu r=")"):=by cases r<;>decide +kernel
theorem Ls (r:Bool):cls r="]"∨cls r=")":=by cases r<;>decide +kernel
theorem GQ:∀(bs g r:List Str),(∀x∈bs,¬ (x="]"∨x=")"))->gr g (bs++r)=gr (g++bs) r
 | [],g,r,_=>by simp
 | b::bs,g,r,h=>by
  rw[Qi,show gr g (b::(bs++r))=gr (g++[b]) (bs++r) from Ah (h b (Va ..)),GQ bs (g++[b]) r fun x hx=>h x (Yb _ hx)];simp
theorem Dr {c:Str} {g r:List Str} (h:c="]"∨c=")"):gr g (c::r)=(g++[c])::gr [] r:=Af h
theorem Lu {s:bP} {g r:List Str} (h:∀p∈s.2,Nm p.2):gr g (tw s++r)=(g++tw s)::gr [] r:=by
 unfold tw
 rw[Qi,Wd,show gr g (gu s.1::(s.2.map bd++([cls s.1]++r)))=gr (g++[gu s.1]) (s.2.map bd++([cls s.1]++r)) from Ah (Ji s.1),GQ (s.2.map bd) _ _ fun x hx=>by
  obtain⟨p,hp,rfl⟩:=Qc.mp hx
  exact Le (h p hp)]
 rw[Qi,Qh,Dr (Ls s.1)];simp
theorem GR:∀(ss:List bP) (r:List Str),(∀s∈ss,∀p∈s.2,Nm p.2)->gr [] (y4 ss++r)=ss.map tw++gr [] r
 | [],r,_=>rfl
 | s::ss,r,h=>by
  have ih:=GR ss r fun x hx=>h x (Yb _ hx);unfold y4 at ih ⊢;rw[We,Wd,Lu (h s (Va ..)),ih];rfl
theorem Lx (n:Nat) (p:Bool×Str):Dp (n+1) (bQ p):=.str _ _
theorem xY (n:Nat) {ps:List (Bool×Str)} (h:ps.length<=1000000):Dp (n+2) (.tup (ps.map bQ)):=.tup (by rw[Xa];exact h) fun d hd=>by
 obtain⟨p,_,rfl⟩:=Qc.mp hd;exact Lx n p
theorem Ly (n:Nat) {s:bP} (h:s.2.length<=1000000):Dp (n+3) (cU s):=.tup (by show 2<=1000000;decide) fun d hd=>by
 rcases Vc.mp hd with rfl|hd
 ·exact .str _ _
 ·obtain rfl:=Za.mp hd;exact xY n h
theorem Jj {ss:List bP} (h:ss.length<=1000000) (h2:∀s∈ss,s.2.length<=1000000):Dp 4 (.tup (ss.map cU)):=.tup (by rw[Xa];exact h) fun d hd=>by
 obtain⟨s,hs,rfl⟩:=Qc.mp hd;exact Ly 0 (h2 s hs)
theorem L8 (a b:D):cK (.tup [a,b]) (.int 0)=some (a,false):=ix_tup rfl
theorem L9 (a b:D):cK (.tup [a,b]) (.int 1)=some (b,false):=ix_tup rfl
theorem Jk (a b:D):cK (.lst [a,b]) (.int 0)=some (a,false):=cy rfl
theorem Jl (a b:D):cK (.lst [a,b]) (.int 1)=some (b,false):=cy rfl
theorem xZ {S φ N So Ln nt a b c d:D} {o8:Sl} {k:Bool} (h1:za k (if k then d else c)) (h2:za k (if k then a else b)) (h3:za k nt) (h4:fw [.bl k,if k then b else a]=some (if k then Ln else So,false)) (h5:eX 4 [if k then Ln else So,if k then Ln else So]=some (.bl true,false)) {o5 o6:Sl} (h6:o6=.o (.lst [c,d])∨o6=.v (.lst [c,d])) (h7:o5=.o (.lst [a,b])∨o5=.v (.lst [a,b])) :
  xE [.v S,.o φ,.v N,.v So,.v Ln,o5,o6,.v nt,.v (.int (if k then 1 else 0))]=some (.nx [.v S,.o φ,.v N,.v So,.v Ln,o5,o6,.v nt,.v (.int (if k then 1 else 0))]):=by
 have r1:=lW h1;have r2:=lW h2;have r3:=lW h3;rcases h6 with rfl|rfl<;>rcases h7 with rfl|rfl<;>cases k
 all_goals simp only[Xe,if_false,if_true]at r1 r2 r3 h4 h5 ⊢
 all_goals first
  | exact af (gE (lD (fL (c:=true) (aK (cr (ak (aq rfl rfl rfl rfl (z:=(.bl false,false)) rfl) (ak (aq rfl rfl rfl rfl (Jk _ _)) rfl)) rfl r1 rfl) rfl)) (fL (c:=true) (aK (cr (ak (aq rfl rfl rfl rfl (z:=(.bl false,false)) rfl) (ak (aq rfl (aq rfl rfl rfl rfl rfl) rfl rfl (Jl _ _)) rfl)) rfl r2 rfl) rfl))) rfl) (af (gE (fL (c:=true) (aK (cr (ak (aq rfl rfl rfl rfl (z:=(.bl false,false)) rfl) rfl) rfl r3 rfl) rfl)) rfl) (gE (fL (c:=true) (aK (cr (ak (cE (ak (aq rfl rfl rfl rfl (z:=(.bl false,false)) rfl) (ak (aq rfl rfl rfl rfl (Jk _ _)) rfl)) rfl h4) (ak (aq (px rfl rfl (by show 2<=1000000;decide)) rfl rfl rfl (L8 _ _)) rfl)) rfl h5 rfl) rfl)) rfl))
  | exact af (gE (lD (fL (c:=true) (aK (cr (ak (aq rfl rfl rfl rfl (z:=(.bl true,false)) rfl) (ak (aq rfl rfl rfl rfl (Jl _ _)) rfl)) rfl r1 rfl) rfl)) (fL (c:=true) (aK (cr (ak (aq rfl rfl rfl rfl (z:=(.bl true,false)) rfl) (ak (aq rfl (aq rfl rfl rfl rfl rfl) rfl rfl (Jk _ _)) rfl)) rfl r2 rfl) rfl))) rfl) (af (gE (fL (c:=true) (aK (cr (ak (aq rfl rfl rfl rfl (z:=(.bl true,false)) rfl) rfl) rfl r3 rfl) rfl)) rfl) (gE (fL (c:=true) (aK (cr (ak (cE (ak (aq rfl rfl rfl rfl (z:=(.bl true,false)) rfl) (ak (aq rfl rfl rfl rfl (Jl _ _)) rfl)) rfl h4) (ak (aq (px rfl rfl (by show 2<=1000000;decide)) rfl rfl rfl (L9 _ _)) rfl)) rfl h5 rfl) rfl)) rfl))
theorem Ma (ps:List (Bool×Str)):(lw ps).map D.str=.str "|"::(ps.map bQ++[.str "|"]):=by
 unfold lw;rw[Ze,Qd,pX];rfl
theorem u0 {st:En} {ps:List (Bool×Str)} {fe:FE} (hl:ps.length<=1000) (h:dL ja (ac fe aj) st=some (.f (.lst (ps.map bQ)),st)) :
  aL aR (aL aR (bu (ac (fC (.str "|")) aj)) (dL ja (ac fe aj))) (bu (ac (fC (.str "|")) aj)) st=some (.f (.lst ((lw ps).map D.str)),st):=by
 have lm:(ps.map bQ).length=ps.length:=Xa ..;have p1:=fN (a:=[.str "|"]) (b:=ps.map bQ) (by rw[lm];show 1+_<=_;lia)
 have p2:=fN (a:=[.str "|"]++ps.map bQ) (b:=[.str "|"]) (by rw[Wa,lm];show 1+_+1<=_;lia)
 have e:[.str "|"]++ps.map bQ++[.str "|"]=(lw ps).map D.str:=by rw[Ma];simp
 rw[e]at p2;exact aq (aq rfl h rfl rfl p1) rfl rfl rfl p2
theorem Fy (ss:List bP):(y4 ss).length=(ss.flatMap (·.2)).length+2*ss.length:=by
 have:=xS ss;rw[GN,Xa]at this;exact this
theorem Fz (ns:List Int):cG GF 9 1 [.fl (ns.map D.int)]=some (.bl true,false):=by
 have f0:cC (Fl ns 0 0 1 0):=⟨ns,0,0,1,0,rfl,by decide,by decide,by decide,by decide⟩
 obtain⟨d1,φ1,e1,d10,d11,f1⟩:=bK (n:=6) f0 (by decide) (by decide)
 obtain⟨N,φ2,e2,hN,nm,nd,f2⟩:=CY (n:=1+d1) f1 (by lia) (by lia)
 have lN:N.length<=6/\1<=N.length:=by lia
 obtain⟨ss,φ3,e3,s1,s2,f3⟩:=IP f2 (xs:=N) (by lia) nm
 have sl:(ss.flatMap (·.2)).length=N.length:=by have:=s2.length_eq;rwa [Xa]at this
 have sl2:=oM ss s1;have snm:∀s∈ss,∀p∈s.2,Nm p.2:=fun s hs p hp=>nm _ (s2.subset (Qc.mpr ⟨p,List.mem_flatMap.mpr ⟨s,hs,hp⟩,rfl⟩));have gt:GT ss:=⟨snm,s1,s2.nodup_iff.mpr nd,by lia,by lia⟩
 have s0:ss≠[]:=fun z=>by rw[z]at sl;simp at sl;lia
 have wk:=Lg snm s1;have wl:=Fy ss;have w0:y4 ss≠[]:=fun z=>by
  rw[z]at wl;have:([]:List Str).length=0:=rfl;lia
 obtain⟨d4,φ4,e4,d40,d41,f4⟩:=bK (n:=2) f3 (by decide) (by decide)
 obtain⟨j,rfl⟩:=Zm d40;have hjl:j*N.length<=N.length:=by
  have:j=0∨j=1:=by lia
  rcases this with rfl|rfl<;>lia
 have nm2:∀x∈N.drop (j*N.length),Nm x:=fun x hx=>nm x (Zk hx);have nd2:(N.drop (j*N.length)).Nodup:=nd.sublist (List.drop_sublist _ _);have l2:(N.drop (j*N.length)).length<=6:=by rw[Xf];lia
 obtain⟨ps,φ5,e5,p5,f5⟩:=xF f4 (xs:=N.drop (j*N.length)) (by lia) nm2
 have hp:∀p∈ps,Nm p.2:=fun p hp=>nm2 _ (p5.subset (Qc.mpr ⟨p,hp,rfl⟩));have lp:ps.length<=6:=by have:=p5.length_eq;rw[Xa]at this;lia
 have ln:=uZ hp (by lia)
 have tok:=y2 (ss:=ss) (by lia)
 rw[GN]at tok;obtain⟨x1,φ6,e6,f6,T1⟩:=kH f5 (ts:=y4 ss) (fun t ht=>(wk.tk t ht).2) (by lia)
 obtain⟨x2,φ7,e7,f7,T2⟩:=kH f6 (ts:=lw ps) (fun t ht=>(p9 hp (by lia) t ht).2) (by lia)
 obtain⟨V3,φ8,e8,f8,D3⟩:=qx f7 wk (by lia) w0
 obtain⟨x3,φ9,e9,f9,T3⟩:=kH f8 (ts:=V3) D3.l9 (by have:=D3.ln;lia)
 obtain⟨V4,φ10,b4,e10,f10,D4⟩:=qb f9 hp (by lia)
 obtain⟨x4,φ11,e11,f11,T4⟩:=kH f10 (ts:=V4) D4.l9 (by have:=D4.ln;lia)
 obtain⟨d12,φ12,e12,a12,b12,f12⟩:=bK (n:=8) f11 (by decide) (by decide)
 have r3:=D3.sp x3 T3;have r4:=D4.sp x4 T4;have lx1:x1.cps.toList.length<=2900:=by have:=T1.len;lia
 have lx2:x2.cps.toList.length<=2900:=by have:=T2.len;lia
 have r2:za false (.str x2):=(oU lx2).1 (T2.chr bar (by unfold lw;exact Va ..) 124 (by rw[xR];exact Za.mpr rfl))
 have r1:za true (.str x1):=by
  obtain⟨s,r,rfl⟩:=Yi s0;obtain⟨c,c1,c2⟩:=Dm (gu s.1) (iF s.1);exact(oU lx1).2 c c2 (T1.chr (gu s.1) (by unfold y4 tw;rw[We];simp) c c1)
 have g1:fw [.bl false,.str x1]=some (.tup (ss.map cU),false):=by
  have w:=kI (b:=false) lx1;rw[oR (b:=false) T1 fun t ht=>(wk.tk t ht).1]at w;have eg:=GR ss [] snm;rw[Wc]at eg;obtain⟨q1,q2⟩:=Fi w (by rw[eg];exact Wc _) gt
  exact Dl (b:=false) q1 q2
 have g2:fw [.bl true,.str x2]=some (.tup (ps.map bQ),false):=by
  have w:=kI (b:=true) lx2;rw[oR (b:=true) T2 fun t ht=>(p9 hp (by lia) t ht).1]at w
  obtain⟨q1,q2⟩:=Fj w (by lia) hp (p5.nodup_iff.mpr nd2)
  exact Dl (b:=true) q1 q2
 have al1:eX 4 [.tup (ss.map cU),.tup (ss.map cU)]=some (.bl true,false):=lC (Jj (by lia) fun s hs=>by have:=gt.len s hs;lia)
 have al2:eX 4 [.tup (ps.map bQ),.tup (ps.map bQ)]=some (.bl true,false):=lC (xY 2 (by lia))
 obtain⟨nt,hnt,hnb⟩:∃nt:D,cK (.lst [.non,.int 0,.bl true,.lst [.str x1,.str x2],.tup [.str x1,.str x2],.dk [],.tup (ss.map cU),.tup (ps.map bQ)]) (.int d12)=some (nt,false)/\cc [nt,.ty "str"]=some (.bl false,false):=by
  have:d12=0∨d12=1∨d12=2∨d12=3∨d12=4∨d12=5∨d12=6∨d12=7:=by lia
  rcases this with rfl|rfl|rfl|rfl|rfl|rfl|rfl|rfl
  all_goals exact⟨_,cy rfl,rfl⟩
 generalize hS:D.fl (ns.map D.int)=S;have ad:aR (.int 1) (.int d1)=some (.int (1+d1),false):=rfl;have ml:mo (.int (j:Int)) (.int ((N.map D.str).length:Int))=some (.int ((j*N.length:Nat):Int),false):=by
  rw[Xa,sW]
  ·rw[Int.natCast_mul]
  ·have:j=0∨j=1:=by lia
   rcases this with rfl|rfl<;>unfold CMul<;>lia
 have slN:bV (.lst (N.map D.str)) (some ((j*N.length:Nat):Int)) none=some (.lst ((N.drop (j*N.length)).map D.str),true):=by
  rw[mO (by rw[Xa];exact hjl),A7]
 refine bY (o:=.rt (.d (.bl true)) [.v S,.o φ12,.v (.lst (N.map D.str)),.v (.tup (ss.map cU)),.v (.tup (ps.map bQ)),.o (.lst [.str x1,.str x2]),.o (.lst [.str x3,.str x4]),.v nt,.v (.int 1)]) rfl ?_ rfl;refine af (s:=[.v S,.o (Fl ns 0 0 1 0),.e,.e,.e,.e,.e,.e,.e]) (hJ (s:=[.v S,.e,.e,.e,.e,.e,.e,.e,.e]) (cE rfl rfl (hS ▸ EY ns)) rfl) ?_;refine af (s:=[.v S,.o φ2,.o (.lst (N.map D.str)),.e,.e,.e,.e,.e,.e]) (hJ (s:=[.v S,.o φ2,.e,.e,.e,.e,.e,.e,.e]) (bJ rfl rfl (ak (aq rfl (bJ rfl rfl rfl rfl rfl rfl e1) rfl rfl ad) rfl) rfl rfl rfl e2) rfl) ?_;refine af (s:=[.v S,.o φ3,.v (.lst (N.map D.str)),.v (.tup (ss.map cU)),.e,.e,.e,.e,.e]) (cH (s:=[.v S,.o φ3,.v (.lst (N.map D.str)),.e,.e,.e,.e,.e,.e]) (Ia rfl rfl rfl rfl rfl rfl e3) rfl) ?_;refine af (s:=[.v S,.o φ5,.v (.lst (N.map D.str)),.v (.tup (ss.map cU)),.v (.tup (ps.map bQ)),.e,.e,.e,.e]) (cH (s:=[.v S,.o φ5,.v (.lst (N.map D.str)),.v (.tup (ss.map cU)),.e,.e,.e,.e,.e]) (bJ rfl rfl (ak (cQ (lo:=some ((j*N.length:Nat):Int)) (s2:=[.v S,.o φ4,.v (.lst (N.map D.str)),.v (.tup (ss.map cU)),.e,.e,.e,.e,.e]) rfl (mP (aq (bJ rfl rfl rfl rfl rfl rfl e4) (cP rfl rfl rfl) rfl rfl ml) rfl) rfl rfl slN rfl) rfl) rfl rfl rfl e5) rfl) ?_;refine af (s:=[.v S,.o φ7,.v (.lst (N.map D.str)),.v (.tup (ss.map cU)),.v (.tup (ps.map bQ)),.o (.lst [.str x1,.str x2]),.e,.e,.e]) (hJ (s:=[.v S,.o φ7,.v (.lst (N.map D.str)),.v (.tup (ss.map cU)),.v (.tup (ps.map bQ)),.e,.e,.e,.e]) (fU (ak (bJ (st3:=[.v S,.o φ6,.v (.lst (N.map D.str)),.v (.tup (ss.map cU)),.v (.tup (ps.map bQ)),.e,.e,.e,.e]) rfl rfl (ak (cE rfl rfl tok) rfl) rfl rfl rfl e6) (ak (bJ rfl rfl (ak (u0 (ps:=ps) (by lia) (cP rfl rfl rfl)) rfl) rfl rfl rfl e7) rfl)) rfl (by show 2<=1000000;decide)) rfl) ?_
 refine af (s:=[.v S,.o φ9,.v (.lst (N.map D.str)),.v (.tup (ss.map cU)),.v (.tup (ps.map bQ)),.o (.lst [.str x1,.str x2]),.o (.lst [.str x3]),.e,.e]) (hJ (s:=[.v S,.o φ9,.v (.lst (N.map D.str)),.v (.tup (ss.map cU)),.v (.tup (ps.map bQ)),.o (.lst [.str x1,.str x2]),.e,.e,.e]) (fU (ak (bJ rfl rfl (ak (bJ (st3:=[.v S,.o φ8,.v (.lst (N.map D.str)),.v (.tup (ss.map cU)),.v (.tup (ps.map bQ)),.o (.lst [.str x1,.str x2]),.e,.e,.e]) rfl rfl (ak (cE rfl rfl tok) rfl) rfl rfl rfl e8) rfl) rfl rfl rfl e9) rfl) rfl (by show 1<=1000000;decide)) rfl) ?_
 refine af (s:=[.v S,.o φ11,.v (.lst (N.map D.str)),.v (.tup (ss.map cU)),.v (.tup (ps.map bQ)),.o (.lst [.str x1,.str x2]),.o (.lst [.str x3,.str x4]),.e,.e]) (dB (mt rfl rfl rfl (ak (bJ (st3:=[.v S,.o φ11,.v (.lst (N.map D.str)),.v (.tup (ss.map cU)),.v (.tup (ps.map bQ)),.o (.lst [.str x1,.str x2]),.o (.lst [.str x3]),.e,.e]) rfl rfl (ak (bJ (st3:=[.v S,.o φ10,.v (.lst (N.map D.str)),.v (.tup (ss.map cU)),.v (.tup (ps.map bQ)),.o (.lst [.str x1,.str x2]),.o (.lst [.str x3]),.e,.e]) rfl rfl (ak (u0 (ps:=ps) (by lia) (cP rfl rfl rfl)) rfl) rfl rfl rfl e10) rfl) (by cases b4<;>rfl) rfl rfl e11) rfl) rfl rfl rfl (gH (by show 1<1000000;decide)))) ?_
 refine af (s:=[.v S,.o φ12,.v (.lst (N.map D.str)),.v (.tup (ss.map cU)),.v (.tup (ps.map bQ)),.o (.lst [.str x1,.str x2]),.o (.lst [.str x3,.str x4]),.v nt,.e]) (cH (s:=[.v S,.o φ12,.v (.lst (N.map D.str)),.v (.tup (ss.map cU)),.v (.tup (ps.map bQ)),.o (.lst [.str x1,.str x2]),.o (.lst [.str x3,.str x4]),.e,.e]) (aq (s1:=[.v S,.o φ11,.v (.lst (N.map D.str)),.v (.tup (ss.map cU)),.v (.tup (ps.map bQ)),.o (.lst [.str x1,.str x2]),.o (.lst [.str x3,.str x4]),.e,.e]) (r1:=.f (.lst [.non,.int 0,.bl true,.lst [.str x1,.str x2],.tup [.str x1,.str x2],.dk [],.tup (ss.map cU),.tup (ps.map bQ)])) (fU (ak rfl (ak rfl (ak rfl (ak (cP rfl rfl rfl) (ak (cP rfl rfl rfl) (ak rfl (ak rfl (ak rfl rfl)))))))) rfl (by show 8<=1000000;decide)) (bJ rfl rfl rfl rfl rfl rfl e12) rfl rfl hnt) rfl) ?_
 have t0:=xZ (S:=S) (φ:=φ12) (N:=.lst (N.map D.str)) (So:=.tup (ss.map cU)) (Ln:=.tup (ps.map bQ)) (nt:=nt) (a:=.str x1) (b:=.str x2) (c:=.str x3) (d:=.str x4) (o8:=.e) (k:=false) r3 r2 (GM hnb) g1 al1 (o5:=.o (.lst [.str x1,.str x2])) (o6:=.o (.lst [.str x3,.str x4])) (.inl rfl) (.inl rfl);have t1:=xZ (S:=S) (φ:=φ12) (N:=.lst (N.map D.str)) (So:=.tup (ss.map cU)) (Ln:=.tup (ps.map bQ)) (nt:=nt) (a:=.str x1) (b:=.str x2) (c:=.str x3) (d:=.str x4) (o8:=.e) (k:=true) r4 r1 (GM hnb) g2 al2 (o5:=.o (.lst [.str x1,.str x2])) (o6:=.o (.lst [.str x3,.str x4])) (.inl rfl) (.inl rfl);simp only[Xe,if_false,if_true]at t0 t1;refine af (s:=[.v S,.o φ12,.v (.lst (N.map D.str)),.v (.tup (ss.map cU)),.v (.tup (ps.map bQ)),.o (.lst [.str x1,.str x2]),.o (.lst [.str x3,.str x4]),.v nt,.v (.int 1)]) (iP (ds:=[.int 0,.int 1]) (s1:=[.v S,.o φ12,.v (.lst (N.map D.str)),.v (.tup (ss.map cU)),.v (.tup (ps.map bQ)),.o (.lst [.str x1,.str x2]),.o (.lst [.str x3,.str x4]),.v nt,.e]) (ky (j:=2) rfl rfl (by lia)) ?_) rfl
 have n1:∀(o:Sl) (i:Int),o.isIo=false->gN 8 (.int i) [.v S,.o φ12,.v (.lst (N.map D.str)),.v (.tup (ss.map cU)),.v (.tup (ps.map bQ)),.o (.lst [.str x1,.str x2]),.o (.lst [.str x3,.str x4]),.v nt,o]=some [.v S,.o φ12,.v (.lst (N.map D.str)),.v (.tup (ss.map cU)),.v (.tup (ps.map bQ)),.o (.lst [.str x1,.str x2]),.o (.lst [.str x3,.str x4]),.v nt,.v (.int i)]:=fun o i h=>dH rfl h;simp only[iw,n1 .e 0 rfl,t0,n1 (.v (.int 0)) 1 rfl,t1,Ya]
end
end K05
namespace K05
open PySem L2 VF VF22 VX
section
variable (P:Program) (w:World) (K:PySem.W.Frag) (mg:Str->Option Value) (base:Heap)
abbrev rA:=Cal P w K mg base "is_name" 1 yR (oC K nq)
abbrev n9:=Cal P w K mg base "is_turned" 1 GG (oC K gz)
abbrev nN:=Cal P w K mg base "name_of" 2 GG (oC K i3)
abbrev rB:=Cal P w K mg base "is_bead" 3 yR (oC K nr)
abbrev qc:=Cal P w K mg base "beads_in" 1 yR (oC K hU)
abbrev lZ:=CalG P w K mg base "words_of" 3 ["text","marks"] (q8 K eY dY)
abbrev l0:=CalG P w K mg base "beads_of" 4 ET (q8 K gb hX)
abbrev kY:=CalG P w K mg base "read_strand" 5 ET (q8 K cf ci)
abbrev kg:=Cal P w K mg base "strand_words" 1 ET (oC K fR)
abbrev ig:=Cal P w K mg base "refuse_twice" 3 yR (oC K fS)
abbrev qd:=CalG P w K mg base "read_set" 6 ["text"] (q8 K dZ ji)
abbrev oa:=CalG P w K mg base "read_line" 5 ["text"] (q8 K d6 iE)
abbrev qf:=Cal P w K mg base "_law_flow" 1 Ju (oC K lH)
abbrev cz:=Cal P w K mg base "_law_pick" 1 EU (jt K aD)
abbrev iS:=Cal P w K mg base "_law_letters" 2 EU (jt K eM)
abbrev qg:=Cal P w K mg base "_law_name" 3 ["_law_flow_here","_law_stem"] (jt K lK)
abbrev oe:=Cal P w K mg base "_law_names" 4 EU (jt K jY)
abbrev kh:=Cal P w K mg base "_law_shuffled" 2 ["_law_flow_here","_law_things"] (jt K hY)
abbrev ma:=Cal P w K mg base "_law_line" 3 KN (jt K ge)
abbrev rC:=CalD P w K mg base "_law_set" 4 KU [.bl true] (jt K nA)
abbrev og:=Cal P w K mg base "_law_alike" 4 Jv (oC K (eX 4))
abbrev mR:=Cal P w K mg base "_law_tokens" 1 ["_law_some"] (oC K gU)
abbrev mT:=Cal P w K mg base "_law_spaced" 2 Jw (jt K ef)
abbrev iT:=Cal P w K mg base "_law_no_bead" 2 ["_law_flow_here","_law_name_here"] (jt K eN)
abbrev i4:=Cal P w K mg base "_law_spoilt_set" 3 Jw (jt K eh)
abbrev iH:=Cal P w K mg base "_law_spoilt_line" 3 Jw (jt K cT)
abbrev md:=CalG P w K mg base "_law_read" 7 Jx (q8 K lO fw)
abbrev kZ:=Cal P w K mg base "_law_refused" 8 Jx (oC K eO)
end
section
variable {P:Program} {w:World} {K:PySem.W.Frag} {mg:Str->Option Value} {base:Heap}
variable {cB cS cg c_Twice c_Lacks c_NoDeed c_NoKind c_NoRow c_NotLet:Addr}
theorem wu (M:Md P w K mg):mv P w K mg base "is_name" oJ yR 0 rd:=fun hr=>⟨_,(ai (b8 (PW.pt (nO (jw (eE (db K M.n_isinstance (pv 0) (gx rfl M.n_str gY)))) (mY (jw (zt FL FL am (cL K M.n_len (pv 0)) (DO rfl M.c_LONGEST_NAME)))))) (aw (aZ kL)) bz)
   (aw (aZ (dS (o7 rfl) rfl M.n_all boot_all (au (gk (gC (osc:=(ar oJ)) (ON:=yR) (N:=["letter"]) (k:=1) (caps:=[]) (by decide +kernel) rfl rfl) rfl (fJ (K:=K) rfl (pv 0)) (fun _ _ _ _=>(eJ 0 (by show(["letter"]:List Str).Nodup;decide +kernel))) (fun _ _ _ _=>ki) (fun _ _ _ _=>(rK (pk (K:=K) rfl) (pv 0) (DN rfl M.c_LETTERS) (by with_unfolding_all rfl)))) ah))))),
  (av (bX (jI (iq (gI (bF b6 (aa (ab 0) (aa (ik fun _ _=>.ty _) ae))))) (iq (aT (zJ F9 F9 (ao _) (bF dM (aa (ab 0) ae)) (ik fun _ _=>.int _))))) (bb (kN _)) bg)
   (bb (bF vF (aa (fH (fK (ab 0)) (cb 0) (by decide) m5 (ag pp (ab 0) (ik fun _ _=>.str _))) ae))))⟩
theorem tI (M:Md P w K mg):mv P w K mg base "is_turned" nB GG 0 nZ:=fun hr=>⟨_,(aw (aZ (nR PySem.F.plainAttrs_str PySem.F.slot_str_startswith PySem.F.type_str_startswith qp (pv 0) (au az ah)))),
  (bb (ul yv (ab 0) (aa (aA _) ae)))⟩
theorem wv (M:Md P w K mg) (c1:n9 P w K mg base):mv P w K mg base "name_of" sQ GG 1 re:=fun hr=>⟨_,(aw (aZ (ze (eE (aP c1 hr rfl (au (pv 0) ah))) (aX (sy (K:=K) rfl) (pv 0) (bh am) bq) (pv 0)))),
  (bb (JV (gI (eK (aa (ab 0) ae))) (aY oE (ab 0) (aU (ao _)) bL) (ab 0)))⟩
theorem ww (M:Md P w K mg) (c0:rA P w K mg base) (c2:nN P w K mg base):mv P w K mg base "is_bead" sR yR 2 rf:=fun hr=>⟨_,(aw (aZ (i6 (db K M.n_isinstance (pv 0) (gx rfl M.n_str gY)) (la (aP c0 hr rfl (au (aP c2 hr rfl (au (pv 0) ah)) ah)))))),
  (bb (gO (bF b6 (aa (ab 0) (aa (ik fun _ _=>.ty _) ae))) (eK (aa (eK (aa (ab 0) ae)) ae))))⟩
theorem u3 (M:Md P w K mg):mv P w K mg base "beads_in" pR ["thing","beads","part"] 0 jd:=fun hr=>⟨_,(ai (bi 1 sc_sbeadsin.nd (be ah))
   (ai (jy Aq rfl (fJ (K:=K) rfl (pv 0)) (eJ 2 sc_sbeadsin.nd) (aw (b8 (eE (db K M.n_isinstance (pv 2) (gx rfl M.n_str gY))) (aw (dj (fP (pv 1) (pv 2)))) (aw (dj (nR PySem.F.plainAttrs_list PySem.F.slot_list_extend PySem.F.type_list_extend (vI (K:=K) rfl rfl) (pv 1) (au (bj K (pv 2) am) ah)))))))
   (aw (aZ (pv 1))))),
  (av (aN (aI ae))
   (av (jJ (fK (ab 0)) (cb 2) (bX (gI (bF b6 (aa (ab 2) (aa (ik fun _ _=>.ty _) ae)))) (du (m8 dg (aa (ab 2) ae))) (du (m8 yy (aa (ag bH (ab 2) (ao _)) ae)))))
   (bb (ab 1))))⟩
theorem u4 (Y0:Xb K mg "BadText" "StrandError" cB cS cg) (I0:CalJ0 P w K mg base cB cg 1) (M:Md P w K mg):Ir P w K mg base "words_of" mI IK 2 je:=fun hr=>⟨_,(ai (b8 (jw (eE (db K M.n_isinstance (pv 0) (gx rfl M.n_str gY)))) (aw (sI Y0 I0 hr rfl)) bz)
   (ai (gS (bi 2 sc_swordsof.nd (VT.pe_repl (by decide +kernel) (pv 0))))
   (ai (gS (VT.ps_frep (im:=3) (iy:=2) Aq rfl (pv 1) sc_swordsof.nd rfl rfl (by first|exact Or.inl rfl|exact Or.inr rfl) (by first|exact Or.inl rfl|exact Or.inr rfl) (by decide) VT.cz_b VT.hz_b))
   (aw (gS (aZ (gk (gC (osc:=(ar mI)) (ON:=IK) (N:=["word"]) (k:=1) (caps:=[]) (by decide +kernel) rfl rfl) rfl (fJ (K:=K) rfl (nR PySem.F.plainAttrs_str PySem.F.slot_str_split PySem.F.type_str_split Cd (pv 2) (au az ah))) (fun _ _ _ _=>(eJ 0 (by show(["word"]:List Str).Nodup;decide +kernel))) (fun _ _ _ _=>kj (bm (iN (K:=K) rfl hr.units) (pv 0) az)) (fun _ _ _ _=>(pv 0))))))))),
  (fZ (uw (iq (gI (bF b6 (aa (ab 0) (aa (ik fun _ _=>.ty _) ae))))) (kC Y0.aC) (iA bg))
   (fZ (iA (aN (VT.rd_repl (ab 0))))
   (fZ (iA (VT.rs_frep (ab 1)))
   (iA (bb (fH (fK (ul Ce (ab 2) (aa (aA _) ae))) (cb 0) (by decide) (aT (ag iO (ab 0) (aA _))) (ab 0)))))))⟩
theorem u5 (Y0:Xb K mg "BadText" "StrandError" cB cS cg) (I0:CalJ0 P w K mg base cB cg 1) (M:Md P w K mg) (c3:rB P w K mg base):Ir P w K mg base "beads_of" mJ ET 3 jg:=fun hr=>⟨_,(ai (b8 (jw (eE (dS (o7 rfl) rfl M.n_all boot_all (au (gk (gC (osc:=(ar mJ)) (ON:=ET) (N:=["word"]) (k:=1) (caps:=[]) (by decide +kernel) rfl rfl) rfl (fJ (K:=K) rfl (pv 0)) (fun _ _ _ _=>(eJ 0 (by show(["word"]:List Str).Nodup;decide +kernel))) (fun _ _ _ _=>ki) (fun _ _ _ _=>(aP c3 hr rfl (au (pv 0) ah)))) ah)))) (aw (sI Y0 I0 hr rfl)) bz)
   (aw (gS (aZ (iz K M.n_tuple (pv 0)))))),
  (fZ (uw (iq (gI (bF vF (aa (fH (fK (ab 0)) (cb 0) (by decide) m5 (eK (aa (ab 0) ae))) ae)))) (kC Y0.aC) (iA bg))
   (iA (bb (bF fA (aa (ab 0) ae)))))⟩
theorem qh (Y0:Xb K mg "BadText" "StrandError" cB cS cg) (I0:CalJ0 P w K mg base cB cg 1) (M:Md P w K mg) (c6:l0 P w K mg base):Ir P w K mg base "read_strand" kc ["words","beads"] 4 gq:=fun hr=>⟨_,(ai (bi 1 sc_sreadstrand.nd (iY c6 hr rfl (au (aX (sy (K:=K) rfl) (pv 0) (bh am) (bh (wA rJ am))) ah)))
   (ai (b8 (PW.pt (nO (gM (vU (K:=K) rfl) (bj K (pv 0) am) (KJ rfl M.c_KIND_OF) (by with_unfolding_all rfl)) (nO (bm (iN (K:=K) rfl hr.units) (bj K (pv 0) (wA rJ am)) (uC (K:=K) rfl rfl M.c_CLOSE_OF (bj K (pv 0) am) (fun _ _=>rfl))) (mY (bm de (cL K M.n_len (pv 1)) am))))) (aw (sI Y0 I0 hr rfl)) bz)
   (aw (gS (aZ (jA (au (uC (K:=K) rfl rfl M.c_KIND_OF (bj K (pv 0) am) (fun _ _=>rfl)) (au (pv 1) ah)))))))),
  (fZ (sF (aa (aY oE (ab 0) (aU (ao _)) (aU (wO sj (ao _)))) ae))
   (fZ (uw (jI (aT (EI (ag bH (ab 0) (ao _)))) (jI (aT (ag iO (ag bH (ab 0) (wO sj (ao _))) (CB (ag bH (ab 0) (ao _))))) (aT (ag ro_eqA (bF dM (aa (ab 1) ae)) (ao _))))) (kC Y0.aC) (iA bg))
   (iA (bb (m6 (aa (CB (ag bH (ab 0) (ao _))) (aa (ab 1) ae)))))))⟩
theorem oq (M:Md P w K mg):mv P w K mg base "strand_words" jj ["words","groups","group","word"] 0 jV:=fun hr=>⟨_,(ai (bi 1 sc_sstrandwords.nd (be ah))
   (ai (bi 2 sc_sstrandwords.nd (be ah))
   (ai (jy Aq rfl (fJ (K:=K) rfl (pv 0)) (eJ 3 sc_sstrandwords.nd) (ai (dj (fP (pv 2) (pv 3)))
   (aw (b8 (gM (pk (K:=K) rfl) (pv 3) (jA (au az (au az ah))) (by with_unfolding_all rfl)) (ai (dj (fP (pv 1) (pv 2)))
   (aw (bi 2 sc_sstrandwords.nd (be ah)))) bz))))
   (ai (b8 (bm (iN (K:=K) rfl hr.units) (pv 2) (be ah)) (aw (dj (fP (pv 1) (pv 2)))) bz)
   (aw (aZ (pv 1))))))),
  (av (aN (aI ae))
   (av (aN (aI ae))
   (av (jJ (fK (ab 0)) (cb 3) (av (du (m8 dg (aa (ab 3) ae)))
   (bX (aT (ag pp (ab 3) (m6 (aa (aA _) (aa (aA _) ae))))) (av (du (m8 dg (aa (ab 2) ae)))
   (aN (aI ae))) bg)))
   (av (bX (aT (ag iO (ab 2) (aI ae))) (du (m8 dg (aa (ab 2) ae))) bg)
   (bb (ab 1))))))⟩
theorem ou (M:Md P w K mg) (c2:nN P w K mg base) (c4:qc P w K mg base):mv P w K mg base "refuse_twice" jk ["thing","seen","bead","name"] 2 jW:=fun hr=>⟨_,(ai (bi 1 sc_srefusetwice.nd tY)
   (aw (jy Aq rfl (fJ (K:=K) rfl (aP c4 hr rfl (au (pv 0) ah))) (eJ 2 sc_srefusetwice.nd) (ai (bi 3 sc_srefusetwice.nd (aP c2 hr rfl (au (pv 2) ah)))
   (ai (b8 (gM (Ij (FX hr)) (pv 3) (pv 1) (by with_unfolding_all rfl)) (aw zi) bz)
   (aw (jx kL (lb (pv 1) (pv 3) (yD (FX hr)))))))))),
  (av (aN ut)
   (jJ (fK (ir (aa (ab 0) ae))) (cb 2) (av (aN (eK (aa (ab 2) ae)))
   (av (bX (aT (ag (Ii false) (ab 3) (ab 1))) B3 bg)
   (lq yC (kN _) (ab 3))))))⟩
theorem u6 (M:Md P w K mg) (c5:lZ P w K mg base) (c7:kY P w K mg base) (c8:kg P w K mg base) (c9:ig P w K mg base):Ir P w K mg base "read_set" mK ["text","some"] 5 jh:=fun hr=>⟨_,(ai (bi 1 sc_sreadset.nd (iz K M.n_tuple (Cq (gC (osc:=(ar mK)) (ON:=["text","some"]) (N:=["group"]) (k:=1) (caps:=[]) (by decide +kernel) rfl rfl) rfl (fJ (K:=K) rfl (aP c8 hr rfl (au (iY c5 hr rfl (au (pv 0) (au az ah))) ah))) (fun _ _ _ _=>(eJ 0 (by show(["group"]:List Str).Nodup;decide +kernel))) (fun _ _ _ _=>ki) (fun _ _ _ _=>Cp c7 hr rfl (au (pv 0) ah)))))
   (ai (gS (dj (aP c9 hr rfl (au (pv 1) ah))))
   (aw (gS (aZ (pv 1)))))),
  (fZ (IC (g:=dY) (aa (ab 0) (aa (aA _) ae)) (fun _ _ _=>⟨_,fun z=>Or.inl z⟩) (Ew fA (fK (ir (aa (Cw (aa (ab 0) (aa (aA _) ae))) ae))) (cb 0) (by decide) m5 (aa (ab 0) ae)))
   (fZ (iA (du (ir (aa (ab 1) ae))))
   (iA (bb (ab 1)))))⟩
theorem tJ (Y0:Xb K mg "BadText" "StrandError" cB cS cg) (I0:CalJ0 P w K mg base cB cg 1) (M:Md P w K mg) (c5:lZ P w K mg base) (c6:l0 P w K mg base) (c9:ig P w K mg base):Ir P w K mg base "read_line" nC ["text","words","line"] 4 iD:=fun hr=>⟨_,(ai (bi 1 sc_sreadline.nd (iY c5 hr rfl (au (pv 0) (au az ah))))
   (ai (b8 (PW.pt (nO (bm vG (cL K M.n_len (pv 1)) am) (nO (bm (iN (K:=K) rfl hr.units) (bj K (pv 1) am) az) (mY (bm (iN (K:=K) rfl hr.units) (bj K (pv 1) (wA rJ am)) az))))) (aw (sI Y0 I0 hr rfl)) bz)
   (ai (bi 2 sc_sreadline.nd (iY c6 hr rfl (au (aX (sy (K:=K) rfl) (pv 1) (bh am) (bh (wA rJ am))) ah)))
   (ai (gS (dj (aP c9 hr rfl (au (pv 2) ah))))
   (aw (gS (aZ (pv 2)))))))),
  (fZ (sF (aa (ab 0) (aa (aA _) ae)))
   (fZ (uw (jI (aT (ag vH (bF dM (aa (ab 1) ae)) (ao _))) (jI (aT (ag iO (ag bH (ab 1) (ao _)) (aA _))) (aT (ag iO (ag bH (ab 1) (wO sj (ao _))) (aA _))))) (kC Y0.aC) (iA bg))
   (fZ (sF (aa (aY oE (ab 1) (aU (ao _)) (aU (wO sj (ao _)))) ae))
   (fZ (iA (du (ir (aa (ab 2) ae))))
   (iA (bb (ab 2)))))))⟩
theorem u7 (M:Md P w K mg):mv P w K mg base "_law_flow" vX Ju 0 pO:=fun hr=>⟨_,(aw (aZ (oF (bp (fX (fY (K:=K) rfl rfl) rfl M.n_list dU (au (pv 0) ah)) (bp am (bp am (bp am (bp am bT rfl) rfl) rfl) rfl) rfl)))),
  (bb (aI (aa (bF iV (aa (ab 0) ae)) (aa (ao _) (aa (ao _) (aa (ao _) (aa (ao _) ae)))))))⟩
theorem u8 (M:Md P w K mg):mv P w K mg base "_law_pick" vY KO 0 lJ:=fun hr=>⟨_,(ai (b8 (PW.pt (vf (bm de (bj K (pv 0) am) am) (rG (bm vG (bj K (pv 0) am) (cL K M.n_len (bj K (pv 0) am)))))) (ai (bi 2 sc_sLpick.nd (bj K (bj K (pv 0) am) (bj K (pv 0) am)))
   (ai (jx (cF K (bj K (pv 0) am) am) (lb (pv 0) am set_list))
   (aw (b8 (bm JK (pv 2) (aQ G8 am am)) (aw (jx (pv 2) (lb (pv 0) am set_list))) (aw (jx (aQ jz (cF K (cF K (aQ kn (bj K (pv 0) am) am) (aQ jz (pv 2) am)) am) am) (lb (pv 0) am set_list))))))) bz)
   (ai (b8 (bm FM (bj K (pv 0) am) am) (ai (bi 3 sc_sLpick.nd (aQ jz (bj K (pv 0) am) (pv 1)))
   (ai (jx (aQ oz (bj K (pv 0) am) (pv 1)) (lb (pv 0) am set_list))
   (aw (aZ (pv 3))))) bz)
   (ai (jx (cF K (bj K (pv 0) am) am) (lb (pv 0) am set_list))
   (ai (jx (aQ jz (cF K (cF K (aQ kn (bj K (pv 0) am) am) am) (bj K (pv 0) am)) am) (lb (pv 0) am set_list))
   (aw (aZ (aQ jz (aQ oz (aQ jz (aQ kn (cF K (aQ jz (bj K (pv 0) am) am) am) (cF K (aQ oz (bj K (pv 0) am) am) am)) am) am) (pv 1)))))))),
  (av (bX (rY (aT (ag ro_eqA (ag bH (ab 0) (ao _)) (ao _))) (aT (ag vH (ag bH (ab 0) (ao _)) (bF dM (aa (ag bH (ab 0) (ao _)) ae))))) (av (aN (ag bH (ag bH (ab 0) (ao _)) (ag bH (ab 0) (ao _))))
   (av (lq gZ (ag ro_addA (ag bH (ab 0) (ao _)) (ao _)) (ao _))
   (bX (aT (ag Ka (ab 2) (ag HI (ao _) (ao _)))) (lq gZ (ab 2) (ao _)) (lq gZ (ag jM (ag ro_addA (ag ro_addA (ag kr (ag bH (ab 0) (ao _)) (ao _)) (ag jM (ab 2) (ao _))) (ao _)) (ao _)) (ao _))))) bg)
   (av (bX (aT (ag Ga (ag bH (ab 0) (ao _)) (ao _))) (av (aN (ag jM (ag bH (ab 0) (ao _)) (ab 1)))
   (av (lq gZ (ag si (ag bH (ab 0) (ao _)) (ab 1)) (ao _))
   (bb (ab 3)))) bg)
   (av (lq gZ (ag ro_addA (ag bH (ab 0) (ao _)) (ao _)) (ao _))
   (av (lq gZ (ag jM (ag ro_addA (ag ro_addA (ag kr (ag bH (ab 0) (ao _)) (ao _)) (ao _)) (ag bH (ab 0) (ao _))) (ao _)) (ao _))
   (bb (ag jM (ag si (ag jM (ag kr (ag ro_addA (ag jM (ag bH (ab 0) (ao _)) (ao _)) (ao _)) (ag ro_addA (ag si (ag bH (ab 0) (ao _)) (ao _)) (ao _))) (ao _)) (ao _)) (ab 1)))))))⟩
theorem qi (M:Md P w K mg) (c13:cz P w K mg base):mv P w K mg base "_law_letters" kG EU 1 kT:=fun hr=>⟨_,(aw (aZ (nR PySem.F.plainAttrs_str PySem.F.slot_str_join PySem.F.type_str_join DM az (au (gk (gC (osc:=(ar kG)) (ON:=EU) (N:=["_law_k","_law_flow_here"]) (k:=1) (caps:=[0]) (by decide +kernel) rfl rfl) rfl (gW rfl M.n_range (au (pv 1) ah)) (fun _ _ _ _=>(eJ 0 (by show(["_law_k","_law_flow_here"]:List Str).Nodup;decide +kernel))) (fun _ _ _ _=>ki) (fun _ _ _ _=>(bj K az (aP c13 hr rfl (au (pv 1) (au am ah)))))) ah)))),
  (bb (ul D8 (aA _) (aa (fH (kl (aa (ab 1) ae)) (cb 0) (by decide) m5 (ag bH (aA _) (bN (aa (ao _) ae)))) ae)))⟩
theorem u9 (M:Md P w K mg) (c13:cz P w K mg base) (c14:iS P w K mg base):mv P w K mg base "_law_name" vZ KP 2 pP:=fun hr=>⟨_,(ai (b8 (bm (iN (K:=K) rfl hr.units) (pv 1) az) (aw (aZ (cF K (pv 1) (aP c14 hr rfl (au (pv 0) (au (cF K am (aP c13 hr rfl (au (pv 0) (au am ah)))) ah)))))) bz)
   (@ai _ _ _ _ _ (b8 (bm de (aP c13 hr rfl (au (pv 0) (au am ah))) am) (@ai _ _ _ _ _ (@bi _ _ _ _ 2 _ _ sc_sLname.nd (@be _ _ _ _ (@fE _ _ _ (by rfl))) (by rfl) (by first|exact Or.inl rfl|exact Or.inr rfl) (by first|exact .inl rfl|exact .inr rfl) (by rfl) (by rfl) (by rfl))
   (ai (bi 2 sc_sLname.nd (cF K (pv 2) (@be _ _ _ _ (@fE _ _ _ (by rfl)))))
   (aw (aZ (bj K (pv 2) (aP c13 hr rfl (au (pv 0) (au am ah)))))))) bz)
   (aw (aZ (aP c14 hr rfl (au (pv 0) (au (cF K am (aP c13 hr rfl (au (pv 0) (au am ah)))) ah))))))),
  (av (bX (aT (ag iO (ab 1) (aA _))) (bb (ag ro_addA (ab 1) (bN (aa (ag ro_addA (ao _) (bN (aa (ao _) ae))) ae)))) bg)
   (av (bX (aT (ag ro_eqA (bN (aa (ao _) ae)) (ao _))) (av (aN (aI gm))
   (av (aN (ag ro_addA (ab 2) (aI gm)))
   (bb (ag bH (ab 2) (bN (aa (ao _) ae)))))) bg)
   (bb (bN (aa (ag ro_addA (ao _) (bN (aa (ao _) ae))) ae)))))⟩
theorem tK (M:Md P w K mg) (c13:cz P w K mg base) (c14:iS P w K mg base) (c15:qg P w K mg base):mv P w K mg base "_law_names" sS KQ 3 jX:=fun hr=>⟨_,(ai (bi 2 sc_sLnames.nd az)
   (ai (b8 (bm de (aP c13 hr rfl (au (pv 0) (au am ah))) am) (aw (bi 2 sc_sLnames.nd (aP c14 hr rfl (au (pv 0) (au (cF K am (aP c13 hr rfl (au (pv 0) (au am ah)))) ah))))) bz)
   (ai (bi 3 sc_sLnames.nd (be ah))
   (ai (jy Aq rfl (gW rfl M.n_range (au (pv 1) ah)) (eJ 4 sc_sLnames.nd) (ai (bi 5 sc_sLnames.nd (aP c15 hr rfl (au (pv 0) (au (pv 2) ah))))
   (ai (bi 6 sc_sLnames.nd am)
   (ai (tT Aq (gM (pk (K:=K) rfl) (pv 5) (pv 3) (by with_unfolding_all rfl)) (ai (bi 5 sc_sLnames.nd (aQ kn (bj K az (aQ jz (pv 6) am)) (cF K am (aQ oz (pv 6) am))))
   (aw (bi 6 sc_sLnames.nd (cF K (pv 6) am)))))
   (aw (dj (fP (pv 3) (pv 5))))))))
   (aw (aZ (pv 3))))))),
  (av (aN (aA _))
   (av (bX (aT (ag ro_eqA (bN (aa (ao _) ae)) (ao _))) (aN (bN (aa (ag ro_addA (ao _) (bN (aa (ao _) ae))) ae))) bg)
   (av (aN (aI ae))
   (av (jJ (kl (aa (ab 1) ae)) (cb 4) (av (aN (bN (aa (ab 2) ae)))
   (av (aN (ao _))
   (av (uc 200 (aT (ag pp (ab 5) (ab 3))) (av (aN (ag kr (ag bH (aA _) (ag jM (ab 6) (ao _))) (ag ro_addA (ao _) (ag si (ab 6) (ao _)))))
   (aN (ag ro_addA (ab 6) (ao _)))))
   (du (m8 dg (aa (ab 5) ae)))))))
   (bb (ab 3))))))⟩
theorem oy (M:Md P w K mg) (c13:cz P w K mg base):mv P w K mg base "_law_shuffled" lQ KR 1 jZ:=fun hr=>⟨_,(ai (bi 2 sc_sLshuffled.nd (fX (fY (K:=K) rfl rfl) rfl M.n_list dU (au (pv 1) ah)))
   (ai (bi 3 sc_sLshuffled.nd (be ah))
   (ai (tT Aq (bm (iN (K:=K) rfl hr.units) (pv 2) (be ah)) (aw (dj (fP (pv 3) (nR PySem.F.plainAttrs_list PySem.F.slot_list_pop PySem.F.type_list_pop zE (pv 2) (au (aP c13 hr rfl (au (pv 0) (au (cL K M.n_len (pv 2)) ah))) ah))))))
   (aw (aZ (pv 3)))))),
  (av (aN (bF iV (aa (ab 1) ae)))
   (av (aN (aI ae))
   (av (uc 300 (aT (ag iO (ab 2) (aI ae))) (du (m8 dg (aa (m8 zZ (aa (bN (aa (bF dM (aa (ab 2) ae)) ae)) ae)) ae))))
   (bb (ab 3)))))⟩
theorem va (M:Md P w K mg) (c13:cz P w K mg base) (c17:kh P w K mg base):mv P w K mg base "_law_line" sT KN 2 pQ:=fun hr=>⟨_,(aw (aZ (iz K M.n_tuple (gk (gC (osc:=(ar sT)) (ON:=KN) (N:=["_law_name_here","_law_flow_here"]) (k:=1) (caps:=[0]) (by decide +kernel) rfl rfl) rfl (fJ (K:=K) rfl (aP c17 hr rfl (au (pv 0) (au (pv 1) ah)))) (fun _ _ _ _=>(eJ 0 (by show(["_law_name_here","_law_flow_here"]:List Str).Nodup;decide +kernel))) (fun _ _ _ _=>ki) (fun _ _ _ _=>(cF K (aQ kn az (aP c13 hr rfl (au (pv 1) (au am ah)))) (pv 0))))))),
  (bb (bF fA (aa (fH (fK (bN (aa (ab 1) ae))) (cb 0) (by decide) m5 (ag ro_addA (ag kr (aA _) (bN (aa (ao _) ae))) (ab 0))) ae)))⟩
theorem wx (M:Md P w K mg) (c13:cz P w K mg base) (c18:ma P w K mg base):mv P w K mg base "_law_set" CT KS 3 nu:=fun hr=>⟨_,(ai (bi 3 sc_sLset.nd (be ah))
   (ai (bi 4 sc_sLset.nd (be ah))
   (ai (jy Aq rfl (fJ (K:=K) rfl (aP c18 hr rfl (au (pv 0) (au (pv 1) ah)))) (eJ 5 sc_sLset.nd) (ai (dj (fP (pv 4) (pv 5)))
   (aw (b8 (bm de (aP c13 hr rfl (au (pv 0) (au am ah))) am) (ai (dj (fP (pv 3) (jA (au az (au (iz K M.n_tuple (pv 4)) ah)))))
   (aw (bi 4 sc_sLset.nd (be ah)))) (aw (b8 (PW.pt (vf (eE (pv 2)) (rG (bm de (aP c13 hr rfl (au (pv 0) (au am ah))) am)))) (ai (dj (fP (pv 3) (jA (au az (au (iz K M.n_tuple (pv 4)) ah)))))
   (aw (bi 4 sc_sLset.nd (be ah)))) bz))))))
   (ai (b8 (bm (iN (K:=K) rfl hr.units) (pv 4) (be ah)) (aw (dj (fP (pv 3) (jA (au az (au (iz K M.n_tuple (pv 4)) ah)))))) bz)
   (aw (aZ (iz K M.n_tuple (pv 3)))))))),
  (av (aN (aI ae))
   (av (aN (aI ae))
   (av (jJ (fK (bN (aa (ab 1) ae))) (cb 5) (av (du (m8 dg (aa (ab 5) ae)))
   (bX (aT (ag ro_eqA (bN (aa (ao _) ae)) (ao _))) (av (du (m8 dg (aa (m6 (aa (aA _) (aa (bF fA (aa (ab 4) ae)) ae))) ae)))
   (aN (aI ae))) (bX (rY (gI (ab 2)) (aT (ag ro_eqA (bN (aa (ao _) ae)) (ao _)))) (av (du (m8 dg (aa (m6 (aa (aA _) (aa (bF fA (aa (ab 4) ae)) ae))) ae)))
   (aN (aI ae))) bg))))
   (av (bX (aT (ag iO (ab 4) (aI ae))) (du (m8 dg (aa (m6 (aa (aA _) (aa (bF fA (aa (ab 4) ae)) ae))) ae))) bg)
   (bb (bF fA (aa (ab 3) ae)))))))⟩
theorem tL {n:Nat} {gs:List D->Option Rz} (M:Md P w K mg) (c20:Cal P w K mg base "_law_alike" n Jv (oC K gs)):mv P w K mg base "_law_alike" oK Jv n (n5 gs):=fun hr=>⟨_,(ai (b8 (bm zp (pv 1) ve) (aw (aZ (gR zp (pv 0) ve))) bz)
   (ai (b8 (PW.pt (nO (eE (db K M.n_isinstance (pv 1) (gx rfl M.n_bool i8))) (mY (eE (db K M.n_isinstance (pv 0) (gx rfl M.n_bool i8)))))) (aw (aZ (i6 (db K M.n_isinstance (pv 1) (gx rfl M.n_bool i8)) (i6 (db K M.n_isinstance (pv 0) (gx rfl M.n_bool i8)) (la (gR de (pv 0) (pv 1))))))) bz)
   (ai (b8 (eE (db K M.n_isinstance (pv 1) (gx rfl M.n_int qM))) (aw (aZ (i6 (db K M.n_isinstance (pv 0) (gx rfl M.n_int qM)) (la (gR de (pv 0) (pv 1)))))) bz)
   (ai (b8 (eE (db K M.n_isinstance (pv 1) (gx rfl M.n_str gY))) (aw (aZ (i6 (db K M.n_isinstance (pv 0) (gx rfl M.n_str gY)) (la (gR de (pv 0) (pv 1)))))) bz)
   (ai (b8 (PW.pt (nO (bm (iN (K:=K) rfl hr.units) (db K M.n_isinstance (pv 1) (gx rfl M.n_tuple jG)) (db K M.n_isinstance (pv 0) (gx rfl M.n_tuple jG))) (mY (bm (iN (K:=K) rfl hr.units) (db K M.n_isinstance (pv 1) (gx rfl M.n_list dU)) (db K M.n_isinstance (pv 0) (gx rfl M.n_list dU)))))) (aw (aZ kL)) bz)
   (aw (aZ (i6 (gR de (cL K M.n_len (pv 0)) (cL K M.n_len (pv 1))) (la (dS (o7 rfl) rfl M.n_all boot_all (au (gk (gC (osc:=(ar oK)) (ON:=Jv) (N:=["_law_k","_law_found","_law_due"]) (k:=1) (caps:=[0,1]) (by decide +kernel) rfl rfl) rfl (gW rfl M.n_range (au (cL K M.n_len (pv 1)) ah)) (fun _ _ _ _=>(eJ 0 (by show(["_law_k","_law_found","_law_due"]:List Str).Nodup;decide +kernel))) (fun _ _ _ _=>ki) (fun _ _ _ _=>(aP c20 hr rfl (au (bj K (pv 1) (pv 0)) (au (bj K (pv 2) (pv 0)) ah)) (Wb _)))) ah))))))))))),
  (av (bX (aT (ag zQ (ab 1) vy)) (bb (ag zQ (ab 0) vy)) bg)
   (av (bX (jI (gI (bF b6 (aa (ab 1) (aa (ik fun _ _=>.ty _) ae)))) (gI (bF b6 (aa (ab 0) (aa (ik fun _ _=>.ty _) ae))))) (bb (gO (bF b6 (aa (ab 1) (aa (ik fun _ _=>.ty _) ae))) (gO (bF b6 (aa (ab 0) (aa (ik fun _ _=>.ty _) ae))) (ag ro_eqA (ab 0) (ab 1))))) bg)
   (av (bX (gI (bF b6 (aa (ab 1) (aa (ik fun _ _=>.ty _) ae)))) (bb (gO (bF b6 (aa (ab 0) (aa (ik fun _ _=>.ty _) ae))) (ag ro_eqA (ab 0) (ab 1)))) bg)
   (av (bX (gI (bF b6 (aa (ab 1) (aa (ik fun _ _=>.ty _) ae)))) (bb (gO (bF b6 (aa (ab 0) (aa (ik fun _ _=>.ty _) ae))) (ag ro_eqA (ab 0) (ab 1)))) bg)
   (av (bX (jI (aT (ag iO (bF b6 (aa (ab 1) (aa (ik fun _ _=>.ty _) ae))) (bF b6 (aa (ab 0) (aa (ik fun _ _=>.ty _) ae))))) (aT (ag iO (bF b6 (aa (ab 1) (aa (ik fun _ _=>.ty _) ae))) (bF b6 (aa (ab 0) (aa (ik fun _ _=>.ty _) ae)))))) (bb (kN _)) bg)
   (bb (gO (ag ro_eqA (bF dM (aa (ab 0) ae)) (bF dM (aa (ab 1) ae))) (bF vF (aa (fH (kl (aa (bF dM (aa (ab 1) ae)) ae)) (cb 0) (by decide) m5 (eK (aa (ag bH (ab 1) (ab 0)) (aa (ag bH (ab 2) (ab 0)) ae)))) ae)))))))))⟩
theorem qy (M:Md P w K mg):mv P w K mg base "_law_tokens" pS KW 0 mG:=fun hr=>⟨_,(ai (bi 1 sc_sLtokens.nd (be ah))
   (ai (jy Aq rfl (fJ (K:=K) rfl (pv 0)) (Ee (K:=K) (n:=2) rfl rfl (tS (eJ 2 sc_sLtokens.nd) (tS (eJ 3 sc_sLtokens.nd) DE))) (ai (bi 4 sc_sLtokens.nd (be (au az (au az ah))))
   (ai (b8 (bm de (pv 2) az) (aw (bi 4 sc_sLtokens.nd (be (au az (au az ah))))) bz)
   (aw (bi 1 sc_sLtokens.nd (aQ (aE (K:=K) rfl) (aQ (aE (K:=K) rfl) (aQ (aE (K:=K) rfl) (pv 1) (aX (bv (K:=K) rfl) (pv 4) bq (bh am))) (fX (fY (K:=K) rfl rfl) rfl M.n_list dU (au (pv 3) ah))) (aX (bv (K:=K) rfl) (pv 4) (bh am) bq)))))))
   (aw (aZ (pv 1))))),
  (av (aN (aI ae))
   (av (jJ (fK (ab 0)) (Hz (ub (cb 2) (ub (cb 3) DU))) (av (aN (aI (aa (aA _) (aa (aA _) ae))))
   (av (bX (aT (ag ro_eqA (ab 2) (aA _))) (aN (aI (aa (aA _) (aa (aA _) ae)))) bg)
   (aN (ag aF (ag aF (ag aF (ab 1) (aY bc (ab 4) bL (aU (ao _)))) (bF iV (aa (ab 3) ae))) (aY bc (ab 4) (aU (ao _)) bL))))))
   (bb (ab 1))))⟩
theorem qz (M:Md P w K mg) (c13:cz P w K mg base):mv P w K mg base "_law_spaced" pT KY 1 mH:=fun hr=>⟨_,(ai (bi 2 sc_sLspaced.nd az)
   (ai (bi 3 sc_sLspaced.nd kL)
   (@ai _ _ _ _ _ (jy Aq rfl (fJ (K:=K) rfl (pv 1)) (eJ 4 sc_sLspaced.nd) (@ai _ _ _ _ _ (@bi _ _ _ _ 5 _ _ sc_sLspaced.nd (@be _ _ _ _ (@fE _ _ _ (by rfl))) (by rfl) (by first|exact Or.inl rfl|exact Or.inr rfl) (by first|exact .inl rfl|exact .inr rfl) (by rfl) (by rfl) (by rfl))
   (@ai _ _ _ _ _ (b8 (PW.pt (vf (eE (pv 3)) (rG (gM (nj (K:=K) rfl) (pv 4) (@be _ _ _ _ (@fE _ _ _ (by rfl))) (by with_unfolding_all rfl))))) (aw (@bi _ _ _ _ 5 _ _ sc_sLspaced.nd (@be _ _ _ _ (@fE _ _ _ (by rfl))) (by rfl) (by first|exact Or.inl rfl|exact Or.inr rfl) (by first|exact .inl rfl|exact .inr rfl) (by rfl) (by rfl) (by rfl))) bz)
   (ai (bi 2 sc_sLspaced.nd (cF K (cF K (pv 2) (bj K (pv 5) (aP c13 hr rfl (au (pv 0) (au am ah))))) (pv 4)))
   (aw (bi 3 sc_sLspaced.nd (rK (nj (K:=K) rfl) (pv 4) (@be _ _ _ _ (@fE _ _ _ (by rfl))) (by with_unfolding_all rfl))))))))
   (aw (aZ (cF K (pv 2) (bj K (@be _ _ _ _ (@fE _ _ _ (by rfl))) (aP c13 hr rfl (au (pv 0) (au am ah)))))))))),
  (av (aN (aA _))
   (av (aN (kN _))
   (av (jJ (fK (ab 1)) (cb 4) (av (aN (aI gm))
   (av (bX (rY (gI (ab 3)) (aT (ag nk (ab 4) (aI gm)))) (aN (aI gm)) bg)
   (av (aN (ag ro_addA (ag ro_addA (ab 2) (ag bH (ab 5) (bN (aa (ao _) ae)))) (ab 4)))
   (aN (ag nk (ab 4) (aI gm)))))))
   (bb (ag ro_addA (ab 2) (ag bH (aI gm) (bN (aa (ao _) ae))))))))⟩
theorem qj (M:Md P w K mg) (c13:cz P w K mg base):mv P w K mg base "_law_no_bead" pU KZ 1 kU:=fun hr=>⟨_,(ai (bi 2 sc_sLnobead.nd (oF (bp az (bp (aQ (aE (K:=K) rfl) az (pv 1)) (bp (aQ (aE (K:=K) rfl) (pv 1) az) (bp az (bp az (bp az (bp az (bp (aQ (aE (K:=K) rfl) (aQ (aE (K:=K) rfl) (pv 1) az) (pv 1)) (bp az (bp (aQ (aE (K:=K) rfl) az (pv 1)) bT rfl) rfl) rfl) rfl) rfl) rfl) rfl) rfl) rfl) rfl)))
   (ai (bi 2 sc_sLnobead.nd (aQ (aE (K:=K) rfl) (pv 2) (oF (bp (aQ (aE (K:=K) rfl) (pv 1) az) (bp az (bp az (bp az (bp az (bp az (bp az (bp az (bp az (bp az (bp az (bp az (bp (aQ (aE (K:=K) rfl) az (pv 1)) bT rfl) rfl) rfl) rfl) rfl) rfl) rfl) rfl) rfl) rfl) rfl) rfl) rfl))))
   (aw (aZ (bj K (pv 2) (aP c13 hr rfl (au (pv 0) (au (cL K M.n_len (pv 2)) ah)))))))),
  (av (aN (aI (aa (aA _) (aa (ag aF (aA _) (ab 1)) (aa (ag aF (ab 1) (aA _)) (aa (aA _) (aa (aA _) (aa (aA _) (aa (aA _) (aa (ag aF (ag aF (ab 1) (aA _)) (ab 1)) (aa (aA _) (aa (ag aF (aA _) (ab 1)) ae))))))))))))
   (av (aN (ag aF (ab 2) (aI (aa (ag aF (ab 1) (aA _)) (aa (aA _) (aa (aA _) (aa (aA _) (aa (aA _) (aa (aA _) (aa (aA _) (aa (aA _) (aa (aA _) (aa (aA _) (aa (aA _) (aa (aA _) (aa (ag aF (aA _) (ab 1)) ae))))))))))))))))
   (bb (ag bH (ab 2) (bN (aa (bF dM (aa (ab 2) ae)) ae))))))⟩
set_option maxHeartbeats 20000000 in
theorem mU (M:Md P w K mg) (c13:cz P w K mg base) (c23:iT P w K mg base):mv P w K mg base "_law_spoilt_set" di IJ 2 gf:=fun hr=>⟨_,(EN (bG (cX (bi 2 sc_sLspoiltset.nd (gk (gC (osc:=(ar di)) (ON:=IJ) (N:=EV) (k:=1) (caps:=[1]) (by decide +kernel) rfl rfl) rfl (gW rfl M.n_range (au (cL K M.n_len (pv 1)) ah)) (fun _ _ _ _=>(eJ 0 (by show(EV:List Str).Nodup;decide +kernel))) (fun _ _ _ _=>kj (gM (pk (K:=K) rfl) (bj K (pv 1) (pv 0)) (@be _ _ _ _ (@fE _ _ _ (by rfl))) (by with_unfolding_all rfl))) (fun _ _ _ _=>(pv 0)))))
   (bG (cX (Hw 3 (gC (osc:=(ar di)) (ON:=IJ) (N:=["_law_k","_law_marks"]) (k:=1) (caps:=[2]) (by decide +kernel) rfl rfl) rfl sc_sLspoiltset.nd (gW rfl M.n_range (au (cL K M.n_len (pv 1)) ah)) (fun _ _ _ _=>(eJ 0 (by show(["_law_k","_law_marks"]:List Str).Nodup;decide +kernel))) (fun _ _ _ _=>kj (gM (nj (K:=K) rfl) (pv 0) (pv 1) (by with_unfolding_all rfl))) (fun _ _ _ _=>(pv 0))))
   (bG (cX (bi 4 sc_sLspoiltset.nd (bj K (pv 2) (aP c13 hr rfl (au (pv 0) (au (cL K M.n_len (pv 2)) ah))))))
   (bG (cX (bi 5 sc_sLspoiltset.nd (bj K (pv 3) (aP c13 hr rfl (au (pv 0) (au (cL K M.n_len (pv 3)) ah))))))
   (bG (cX (bi 6 sc_sLspoiltset.nd (aP c13 hr rfl (au (pv 0) (au am ah)))))
   (bG (jU (bm de (pv 6) am) (fO (cX (aZ (aQ (aE (K:=K) rfl) (aX (bv (K:=K) rfl) (pv 1) bq (bh (pv 4))) (aX (bv (K:=K) rfl) (pv 1) (bh (aQ (aE (K:=K) rfl) (pv 4) am)) bq))))) gy)
   (bG (jU (bm de (pv 6) am) (bG (cX (bi 7 sc_sLspoiltset.nd (bj K az (nR PySem.F.plainAttrs_str PySem.F.slot_str_find PySem.F.type_str_find Ez az (au (bj K (pv 1) (pv 4)) ah)))))
   (fO (cX (aZ (aQ (aE (K:=K) rfl) (aQ (aE (K:=K) rfl) (aX (bv (K:=K) rfl) (pv 1) bq (bh (pv 4))) (be (au (pv 7) ah))) (aX (bv (K:=K) rfl) (pv 1) (bh (aQ (aE (K:=K) rfl) (pv 4) am)) bq)))))) gy)
   (bG (jU (bm de (pv 6) am) (fO (cX (aZ (aQ (aE (K:=K) rfl) (aQ (aE (K:=K) rfl) (aX (bv (K:=K) rfl) (pv 1) bq (bh (pv 4))) (be (au (bj K (pv 1) (pv 4)) ah))) (aX (bv (K:=K) rfl) (pv 1) (bh (pv 4)) bq))))) gy)
   (bG (jU (bm de (pv 6) am) (bG (cX (bi 8 sc_sLspoiltset.nd (aQ (aE (K:=K) rfl) (be (au am ah)) (gk (gC (osc:=(ar di)) (ON:=IJ) (N:=EV) (k:=1) (caps:=[1]) (by decide +kernel) rfl rfl) rfl (fJ (K:=K) rfl (pv 2)) (fun _ _ _ _=>(eJ 0 (by show(EV:List Str).Nodup;decide +kernel))) (fun _ _ _ _=>kj (gM (pk (K:=K) rfl) (bj K (pv 1) (pv 0)) (be (au az (au az ah))) (by with_unfolding_all rfl))) (fun _ _ _ _=>(aQ (aE (K:=K) rfl) (pv 0) am))))))
   (bG (cX (bi 4 sc_sLspoiltset.nd (bj K (pv 8) (aP c13 hr rfl (au (pv 0) (au (cL K M.n_len (pv 8)) ah))))))
   (bG (xC 9 sc_sLspoiltset.nd om)
   (bG (cX (bi 9 sc_sLspoiltset.nd (aQ (aE (K:=K) rfl) (pv 9) (vV qu))))
   (fO (cX (aZ (aQ (aE (K:=K) rfl) (aQ (aE (K:=K) rfl) (aX (bv (K:=K) rfl) (pv 1) bq (bh (pv 4))) (bj K (pv 9) (aP c13 hr rfl (au (pv 0) (au am ah))))) (aX (bv (K:=K) rfl) (pv 1) (bh (pv 4)) bq))))))))) gy)
   (bG (jU (bm de (pv 6) am) (fO (cX (aZ (aQ (aE (K:=K) rfl) (aQ (aE (K:=K) rfl) (aX (bv (K:=K) rfl) (pv 1) bq (bh (pv 5))) (be (au (aP c23 hr rfl (au (pv 0) (au az ah))) ah))) (aX (bv (K:=K) rfl) (pv 1) (bh (aQ (aE (K:=K) rfl) (pv 5) am)) bq))))) gy)
   (bG (jU (bm de (pv 6) am) (fO (cX (aZ (aQ (aE (K:=K) rfl) (aQ (aE (K:=K) rfl) (aX (bv (K:=K) rfl) (pv 1) bq (bh (pv 5))) (be (au (aP c23 hr rfl (au (pv 0) (au az ah))) ah))) (aX (bv (K:=K) rfl) (pv 1) (bh (pv 5)) bq))))) gy)
   (bG (jU (bm de (pv 6) am) (fO (cX (aZ (aQ (aE (K:=K) rfl) (aQ (aE (K:=K) rfl) (aX (bv (K:=K) rfl) (pv 1) bq (bh (pv 5))) (be (au az (au (nR PySem.F.plainAttrs_str PySem.F.slot_str_strip PySem.F.type_str_strip Ca (bj K (pv 1) (pv 5)) (au az ah)) ah)))) (aX (bv (K:=K) rfl) (pv 1) (bh (aQ (aE (K:=K) rfl) (pv 5) am)) bq))))) gy)
   (bG (jU (bm de (pv 6) am) (bG (xC 10 sc_sLspoiltset.nd (vN (oA (K:=K) rfl) qv (aP c13 hr rfl (au (pv 0) (au am ah))) (fun _ _=>rfl)))
   (bG (cX (bi 10 sc_sLspoiltset.nd (aQ (aE (K:=K) rfl) (aQ (aE (K:=K) rfl) (aX (bv (K:=K) rfl) (pv 10) bq (bh am)) (be (au (bj K (pv 1) (pv 5)) ah))) (aX (bv (K:=K) rfl) (pv 10) (bh am) bq))))
   (fO (cX (aZ (aQ (aE (K:=K) rfl) (aQ (aE (K:=K) rfl) (aX (bv (K:=K) rfl) (pv 1) bq (bh (pv 5))) (pv 10)) (aX (bv (K:=K) rfl) (pv 1) (bh (aQ (aE (K:=K) rfl) (pv 5) am)) bq))))))) gy)
   (bG (cX (bi 11 sc_sLspoiltset.nd (dS (yM (K:=K) rfl rfl) rfl M.n_max PyProof.Rows.boot_max (au (gk (gC (osc:=(ar di)) (ON:=IJ) (N:=EW) (k:=1) (caps:=[5]) (by decide +kernel) rfl rfl) rfl (fJ (K:=K) rfl (pv 2)) (fun _ _ _ _=>(eJ 0 (by show(EW:List Str).Nodup;decide +kernel))) (fun _ _ _ _=>kj (bm vG (pv 0) (pv 1))) (fun _ _ _ _=>(pv 0))) ah))))
   (bG (cX (bi 12 sc_sLspoiltset.nd (dS (yL (K:=K) rfl rfl) rfl M.n_min PyProof.Rows.boot_min (au (gk (gC (osc:=(ar di)) (ON:=IJ) (N:=EW) (k:=1) (caps:=[5]) (by decide +kernel) rfl rfl) rfl (fJ (K:=K) rfl (pv 2)) (fun _ _ _ _=>(eJ 0 (by show(EW:List Str).Nodup;decide +kernel))) (fun _ _ _ _=>kj (bm FM (pv 0) (pv 1))) (fun _ _ _ _=>(pv 0))) ah))))
   (fO (cX (aZ (aQ (aE (K:=K) rfl) (aX (bv (K:=K) rfl) (pv 1) bq (bh (aQ (aE (K:=K) rfl) (pv 11) am))) (aX (bv (K:=K) rfl) (pv 1) (bh (pv 12)) bq))))))))))))))))))))),
  (av (aN (fH (kl (aa (bF dM (aa (ab 1) ae)) ae)) (cb 0) (by decide) (aT (ag pp (ag bH (ab 1) (ab 0)) (aI gm))) (ab 0)))
   (av (aN (fH (kl (aa (bF dM (aa (ab 1) ae)) ae)) (cb 0) (by decide) (aT (ag nk (ab 0) (ab 1))) (ab 0)))
   (av (aN (ag bH (ab 2) (bN (aa (bF dM (aa (ab 2) ae)) ae))))
   (av (aN (ag bH (ab 3) (bN (aa (bF dM (aa (ab 3) ae)) ae))))
   (av (aN (bN (aa (ao _) ae)))
   (av (bX (aT (ag ro_eqA (ab 6) (ao _))) (bb (ag aF (aY bc (ab 1) bL (aU (ab 4))) (aY bc (ab 1) (aU (ag aF (ab 4) (ao _))) bL))) bg)
   (av (bX (aT (ag ro_eqA (ab 6) (ao _))) (av (aN (ag bH (aA _) (ul EA (aA _) (aa (ag bH (ab 1) (ab 4)) ae))))
   (bb (ag aF (ag aF (aY bc (ab 1) bL (aU (ab 4))) (aI (aa (ab 7) ae))) (aY bc (ab 1) (aU (ag aF (ab 4) (ao _))) bL)))) bg)
   (av (bX (aT (ag ro_eqA (ab 6) (ao _))) (bb (ag aF (ag aF (aY bc (ab 1) bL (aU (ab 4))) (aI (aa (ag bH (ab 1) (ab 4)) ae))) (aY bc (ab 1) (aU (ab 4)) bL))) bg)
   (av (bX (aT (ag ro_eqA (ab 6) (ao _))) (av (aN (ag aF (aI (aa (ao _) ae)) (fH (fK (ab 2)) (cb 0) (by decide) (aT (ag pp (ag bH (ab 1) (ab 0)) (aI (aa (aA _) (aa (aA _) ae))))) (ag aF (ab 0) (ao _)))))
   (av (aN (ag bH (ab 8) (bN (aa (bF dM (aa (ab 8) ae)) ae))))
   (av (aN (aI (aa (aI (aa (aA _) (aa (aA _) ae))) (aa (aI (aa (aA _) (aa (aA _) ae))) (aa (aI (aa (aA _) ae)) (aa (aI (aa (aA _) ae)) (aa (aI (aa (aA _) ae)) (aa (aI (aa (aA _) ae)) ae))))))))
   (av (aN (ag aF (ab 9) (aI (aa (aI (aa (aA _) ae)) (aa (aI (aa (aA _) ae)) (aa (aI (aa (aA _) ae)) (aa (aI (aa (aA _) ae)) (aa (aI (aa (aA _) (aa (aA _) ae))) ae))))))))
   (bb (ag aF (ag aF (aY bc (ab 1) bL (aU (ab 4))) (ag bH (ab 9) (bN (aa (ao _) ae)))) (aY bc (ab 1) (aU (ab 4)) bL))))))) bg)
   (av (bX (aT (ag ro_eqA (ab 6) (ao _))) (bb (ag aF (ag aF (aY bc (ab 1) bL (aU (ab 5))) (aI (aa (bN (aa (aA _) ae)) ae))) (aY bc (ab 1) (aU (ag aF (ab 5) (ao _))) bL))) bg)
   (av (bX (aT (ag ro_eqA (ab 6) (ao _))) (bb (ag aF (ag aF (aY bc (ab 1) bL (aU (ab 5))) (aI (aa (bN (aa (aA _) ae)) ae))) (aY bc (ab 1) (aU (ab 5)) bL))) bg)
   (av (bX (aT (ag ro_eqA (ab 6) (ao _))) (bb (ag aF (ag aF (aY bc (ab 1) bL (aU (ab 5))) (aI (aa (aA _) (aa (ul Cb (ag bH (ab 1) (ab 5)) (aa (aA _) ae)) ae)))) (aY bc (ab 1) (aU (ag aF (ab 5) (ao _))) bL))) bg)
   (av (bX (aT (ag ro_eqA (ab 6) (ao _))) (av (aN (ag bH (aI (aa (aI (aa (aA _) (aa (aA _) ae))) (aa (aI (aa (aA _) (aa (aA _) ae))) (aa (aI (aa (aA _) ae)) (aa (aI (aa (aA _) (aa (aA _) ae))) (aa (aI (aa (aA _) (aa (aA _) ae))) ae)))))) (bN (aa (ao _) ae))))
   (av (aN (ag aF (ag aF (aY bc (ab 10) bL (aU (ao _))) (aI (aa (ag bH (ab 1) (ab 5)) ae))) (aY bc (ab 10) (aU (ao _)) bL)))
   (bb (ag aF (ag aF (aY bc (ab 1) bL (aU (ab 5))) (ab 10)) (aY bc (ab 1) (aU (ag aF (ab 5) (ao _))) bL))))) bg)
   (av (aN (bF uA (aa (fH (fK (ab 2)) (cb 0) (by decide) (aT (ag vH (ab 0) (ab 1))) (ab 0)) ae)))
   (av (aN (bF uA (aa (fH (fK (ab 2)) (cb 0) (by decide) (aT (ag Ga (ab 0) (ab 1))) (ab 0)) ae)))
   (bb (ag aF (aY bc (ab 1) bL (aU (ag aF (ab 11) (ao _)))) (aY bc (ab 1) (aU (ab 12)) bL))))))))))))))))))⟩
set_option maxHeartbeats 20000000 in
theorem me (M:Md P w K mg) (c13:cz P w K mg base) (c23:iT P w K mg base):mv P w K mg base "_law_spoilt_line" jl K1 2 dO:=fun hr=>⟨_,(ai (bi 2 sc_sLspoiltline.nd (aP c13 hr rfl (au (pv 0) (au am ah))))
   (ai (bi 3 sc_sLspoiltline.nd (bj K (be (au am (au (aQ vm (cL K M.n_len (pv 1)) am) ah))) (aP c13 hr rfl (au (pv 0) (au am ah)))))
   (ai (bi 4 sc_sLspoiltline.nd (aQ (aE (K:=K) rfl) am (aP c13 hr rfl (au (pv 0) (au (aQ vm (cL K M.n_len (pv 1)) am) ah)))))
   (ai (b8 (bm de (pv 2) am) (aw (aZ (aQ (aE (K:=K) rfl) (aX (bv (K:=K) rfl) (pv 1) bq (bh (pv 3))) (aX (bv (K:=K) rfl) (pv 1) (bh (aQ (aE (K:=K) rfl) (pv 3) am)) bq)))) bz)
   (ai (b8 (bm de (pv 2) am) (aw (aZ (aQ (aE (K:=K) rfl) (aQ (aE (K:=K) rfl) (aX (bv (K:=K) rfl) (pv 1) bq (bh (pv 3))) (be (au (bj K (@be _ _ _ _ (@fE _ _ _ (by rfl))) (aP c13 hr rfl (au (pv 0) (au am ah)))) ah))) (aX (bv (K:=K) rfl) (pv 1) (bh (aQ (aE (K:=K) rfl) (pv 3) am)) bq)))) bz)
   (ai (b8 (bm de (pv 2) am) (ai (bi 5 sc_sLspoiltline.nd (aP c13 hr rfl (au (pv 0) (au (aQ (aE (K:=K) rfl) (cL K M.n_len (pv 1)) am) ah))))
   (aw (aZ (aQ (aE (K:=K) rfl) (aQ (aE (K:=K) rfl) (aX (bv (K:=K) rfl) (pv 1) bq (bh (pv 5))) (be (au az ah))) (aX (bv (K:=K) rfl) (pv 1) (bh (pv 5)) bq))))) bz)
   (ai (b8 (bm de (pv 2) am) (aw (aZ (vV (vN (oA (K:=K) rfl) (ce (bp (aQ (aE (K:=K) rfl) (be (au az ah)) (pv 1)) (bp (aQ (aE (K:=K) rfl) (pv 1) (be (au az ah))) (bp (aQ (aE (K:=K) rfl) (aQ (aE (K:=K) rfl) (be (au az ah)) (pv 1)) (be (au az ah))) bT rfl) rfl) rfl)) (aP c13 hr rfl (au (pv 0) (au am ah))) (fun _ _=>rfl))))) bz)
   (ai (b8 (bm de (pv 2) am) (aw (aZ (aQ (aE (K:=K) rfl) (aQ (aE (K:=K) rfl) (aX (bv (K:=K) rfl) (pv 1) bq (bh (pv 4))) (be (au (aP c23 hr rfl (au (pv 0) (au az ah))) ah))) (aX (bv (K:=K) rfl) (pv 1) (bh (pv 4)) bq)))) bz)
   (ai (b8 (bm de (pv 2) am) (aw (aZ (be ah))) bz)
   (ai (b8 (bm de (pv 2) am) (aw (aZ (aQ (aE (K:=K) rfl) (aQ (aE (K:=K) rfl) (aX (bv (K:=K) rfl) (pv 1) bq (bh (pv 4))) (be (au (bj K (@be _ _ _ _ (@fE _ _ _ (by rfl))) (aP c13 hr rfl (au (pv 0) (au am ah)))) ah))) (aX (bv (K:=K) rfl) (pv 1) (bh (pv 4)) bq)))) bz)
   (aw (aZ (aQ (aE (K:=K) rfl) (aQ (aE (K:=K) rfl) (aX (bv (K:=K) rfl) (pv 1) bq (bh (pv 4))) (be (au az (au az ah)))) (aX (bv (K:=K) rfl) (pv 1) (bh (pv 4)) bq)))))))))))))),
  (av (aN (bN (aa (ao _) ae)))
   (av (aN (ag bH (aI (aa (ao _) (aa (ag vB (bF dM (aa (ab 1) ae)) (ao _)) ae))) (bN (aa (ao _) ae))))
   (av (aN (ag aF (ao _) (bN (aa (ag vB (bF dM (aa (ab 1) ae)) (ao _)) ae))))
   (av (bX (aT (ag ro_eqA (ab 2) (ao _))) (bb (ag aF (aY bc (ab 1) bL (aU (ab 3))) (aY bc (ab 1) (aU (ag aF (ab 3) (ao _))) bL))) bg)
   (av (bX (aT (ag ro_eqA (ab 2) (ao _))) (bb (ag aF (ag aF (aY bc (ab 1) bL (aU (ab 3))) (aI (aa (ag bH (aI gm) (bN (aa (ao _) ae))) ae))) (aY bc (ab 1) (aU (ag aF (ab 3) (ao _))) bL))) bg)
   (av (bX (aT (ag ro_eqA (ab 2) (ao _))) (av (aN (bN (aa (ag aF (bF dM (aa (ab 1) ae)) (ao _)) ae)))
   (bb (ag aF (ag aF (aY bc (ab 1) bL (aU (ab 5))) (aI (aa (aA _) ae))) (aY bc (ab 1) (aU (ab 5)) bL)))) bg)
   (av (bX (aT (ag ro_eqA (ab 2) (ao _))) (bb (ag bH (aI (aa (ag aF (aI (aa (aA _) ae)) (ab 1)) (aa (ag aF (ab 1) (aI (aa (aA _) ae))) (aa (ag aF (ag aF (aI (aa (aA _) ae)) (ab 1)) (aI (aa (aA _) ae))) ae)))) (bN (aa (ao _) ae)))) bg)
   (av (bX (aT (ag ro_eqA (ab 2) (ao _))) (bb (ag aF (ag aF (aY bc (ab 1) bL (aU (ab 4))) (aI (aa (bN (aa (aA _) ae)) ae))) (aY bc (ab 1) (aU (ab 4)) bL))) bg)
   (av (bX (aT (ag ro_eqA (ab 2) (ao _))) (bb (aI ae)) bg)
   (av (bX (aT (ag ro_eqA (ab 2) (ao _))) (bb (ag aF (ag aF (aY bc (ab 1) bL (aU (ab 4))) (aI (aa (ag bH (aI gm) (bN (aa (ao _) ae))) ae))) (aY bc (ab 1) (aU (ab 4)) bL))) bg)
   (bb (ag aF (ag aF (aY bc (ab 1) bL (aU (ab 4))) (aI (aa (aA _) (aa (aA _) ae)))) (aY bc (ab 1) (aU (ab 4)) bL)))))))))))))⟩
theorem vb (M:Md P w K mg) (c10:qd P w K mg base) (c11:oa P w K mg base):Ir P w K mg base "_law_read" v0 Jx 6 ie:=fun hr=>⟨_,(ai (b8 (eE (pv 0)) (aw (aZ (iY c11 hr rfl (au (pv 1) ah)))) bz)
   (aw (aZ (iY c10 hr rfl (au (pv 1) ah))))),
  (fZ (uw (gI (ab 0)) (xp (aa (ab 1) ae)) (iA bg))
   (xp (aa (ab 1) ae)))⟩
theorem qk (Y0:Xb K mg "BadText" "StrandError" cB cS cg) (Z:Zs K mg cB c_Twice c_Lacks c_NoDeed c_NoKind c_NoRow c_NotLet) (M:Md P w K mg) (c26:md P w K mg base):mv P w K mg base "_law_refused" nF K2 7 kX:=fun hr=>⟨_,(ai (bi 2 sc_sLrefused.nd kL)
   (ai (Es (Cs:=fun c=>c=cB) 3 (IA Y0.hx) rfl rfl (Cm c26 hr rfl (au (pv 0) (au (pv 1) ah))) rfl Y0.mS sc_sLrefused.nd (fun a=>(ai (bi 2 sc_sLrefused.nd (i6 (dS (nl rfl Y0.xc KF Y0.xh) rfl M.n_isinstance L2.boot_isinstance (au (pv 3) (au (lF rfl Y0.mC) ah))) (i6 (dS (yK rfl Y0.xc KF Y0.xh) rfl M.n_isinstance L2.boot_isinstance (au (pv 3) (au (gx rfl M.n_ValueError Ey) ah))) (la (zd (dS (nl rfl Y0.xc KF Y0.xh) rfl M.n_isinstance L2.boot_isinstance (au (pv 3) (au (jA (au (lF rfl Z.m_Twice) (au (lF rfl Z.m_Lacks) ah))) ah))))))))
   (aw (bi 2 sc_sLrefused.nd (i6 (pv 2) (la (zd (dS (nl rfl Y0.xc KF Y0.xh) rfl M.n_isinstance L2.boot_isinstance (au (pv 3) (au (jA (au (lF rfl Z.m_NoDeed) (au (lF rfl Z.m_NoKind) (au (lF rfl Z.m_NoRow) (au (lF rfl Z.m_NotLet) ah))))) ah)))))))))))
   (aw (aZ (pv 2))))),
  (av (aN (kN _))
   (av (Et (aa (ab 0) (aa (ab 1) ae)) (av (aN (gO (Iu (Iz Y0.aC Z.j_BadText) (ab 3)) (gO (Iy (EB Y0.aC Z.j_VE) (ab 3)) (wP (xt (cs:=[c_Twice,c_Lacks]) (by simp) (xu Y0.aC Z.t_0) (ab 3))))))
   (aN (gO (ab 2) (wP (xt (cs:=[c_NoDeed,c_NoKind,c_NoRow,c_NotLet]) (by simp) (xu Y0.aC Z.t_1) (ab 3)))))) (IB Y0.aC))
   (bb (ab 2))))⟩
theorem Jm (M:Md P w K mg) (c12:qf P w K mg base) (c13:cz P w K mg base) (c16:oe P w K mg base) (c18:ma P w K mg base) (c19:rC P w K mg base) (c20:og P w K mg base) (c21:mR P w K mg base) (c22:mT P w K mg base) (c24:i4 P w K mg base) (c25:iH P w K mg base) (c26:md P w K mg base) (c27:kZ P w K mg base):mv P w K mg base "law" IL K3 8 GF:=fun hr=>⟨_,(ai (bi 1 sc_slaw.nd (aP c12 hr rfl (au (pv 0) ah)))
   (ai (bi 2 sc_slaw.nd (aP c16 hr rfl (au (pv 1) (au (aQ (aE (K:=K) rfl) am (aP c13 hr rfl (au (pv 1) (au am ah)))) ah))))
   (ai (bi 3 sc_slaw.nd (DP c19 hr rfl (au (pv 1) (au (pv 2) ah))))
   (ai (bi 4 sc_slaw.nd (aP c18 hr rfl (au (pv 1) (au (aX (bv (K:=K) rfl) (pv 2) (bh (aQ kn (aP c13 hr rfl (au (pv 1) (au am ah))) (cL K M.n_len (pv 2)))) bq) ah))))
   (ai (bi 5 sc_slaw.nd (be (au (aP c22 hr rfl (au (pv 1) (au (aP c21 hr rfl (au (pv 3) ah)) ah))) (au (aP c22 hr rfl (au (pv 1) (au (aQ (aE (K:=K) rfl) (aQ (aE (K:=K) rfl) (be (au az ah)) (fX (fY (K:=K) rfl rfl) rfl M.n_list dU (au (pv 4) ah))) (be (au az ah))) ah))) ah))))
   (ai (bi 6 sc_slaw.nd (be (au (aP c22 hr rfl (au (pv 1) (au (aP c24 hr rfl (au (pv 1) (au (aP c21 hr rfl (au (pv 3) ah)) ah))) ah))) ah)))
   (ai (dj (fP (pv 6) (aP c22 hr rfl (au (pv 1) (au (aP c25 hr rfl (au (pv 1) (au (aQ (aE (K:=K) rfl) (aQ (aE (K:=K) rfl) (be (au az ah)) (fX (fY (K:=K) rfl rfl) rfl M.n_list dU (au (pv 4) ah))) (be (au az ah))) ah))) ah)))))
   (ai (bi 7 sc_slaw.nd (vV (vN (oA (K:=K) rfl) (ce (bp ve (bp am (bp kL (bp (fX (fY (K:=K) rfl rfl) rfl M.n_list dU (au (pv 5) ah)) (bp (iz K M.n_tuple (pv 5)) (bp tY (bp (pv 3) (bp (pv 4) bT rfl) rfl) rfl) rfl) rfl) rfl) rfl) rfl)) (aP c13 hr rfl (au (pv 1) (au am ah))) (fun _ _=>rfl))))
   (ai (jy Aq rfl (gW rfl M.n_range (au am ah)) (eJ 8 sc_slaw.nd) (ai (b8 (PW.pt (nO (jw (eE (aP c27 hr rfl (au (gR (sD (K:=K) rfl hr.units) (pv 8) am) (au (bj K (pv 6) (pv 8)) ah))))) (mY (jw (eE (aP c27 hr rfl (au (gR (sD (K:=K) rfl hr.units) (pv 8) am) (au (bj K (pv 5) (aQ vm am (pv 8))) ah)))))))) (aw (aZ kL)) bz)
   (ai (b8 (jw (eE (aP c27 hr rfl (au (gR (sD (K:=K) rfl hr.units) (pv 8) am) (au (pv 7) ah))))) (aw (aZ kL)) bz)
   (aw (b8 (jw (eE (aP c20 hr rfl (au (aP c26.plain hr rfl (au (gR (sD (K:=K) rfl hr.units) (pv 8) am) (au (bj K (pv 5) (pv 8)) ah))) (au (bj K (jA (au (pv 3) (au (pv 4) ah))) (pv 8)) ah))))) (aw (aZ kL)) bz)))))
   (aw (aZ kL))))))))))),
  (av (aN (ir (aa (ab 0) ae)))
   (av (aN (bN (aa (ag aF (ao _) (bN (aa (ao _) ae))) ae)))
   (av (aN (H9 (fun _ _=>El.one (.bl _)) (aa (ab 2) ae)))
   (av (aN (bN (aa (aY bc (ab 2) (aU (ag kr (bN (aa (ao _) ae)) (bF dM (aa (ab 2) ae)))) bL) ae)))
   (av (aN (aI (aa (bN (aa (ir (aa (ab 3) ae)) ae)) (aa (bN (aa (ag aF (ag aF (aI (aa (aA _) ae)) (bF iV (aa (ab 4) ae))) (aI (aa (aA _) ae))) ae)) ae))))
   (av (aN (aI (aa (bN (aa (bN (aa (ir (aa (ab 3) ae)) ae)) ae)) ae)))
   (av (du (m8 dg (aa (bN (aa (bN (aa (ag aF (ag aF (aI (aa (aA _) ae)) (bF iV (aa (ab 4) ae))) (aI (aa (aA _) ae))) ae)) ae)) ae)))
   (av (aN (ag bH (aI (aa vy (aa (ao _) (aa (kN _) (aa (bF iV (aa (ab 5) ae)) (aa (bF fA (aa (ab 5) ae)) (aa ut (aa (ab 3) (aa (ab 4) ae))))))))) (bN (aa (ao _) ae))))
   (av (jJ (kl (aa (ao _) ae)) (cb 8) (av (bX (jI (iq (gI (eK (aa (ag sE (ab 8) (ao _)) (aa (ag bH (ab 6) (ab 8)) ae))))) (iq (gI (eK (aa (ag sE (ab 8) (ao _)) (aa (ag bH (ab 5) (ag vB (ao _) (ab 8))) ae)))))) (bb (kN _)) bg)
   (av (bX (iq (gI (eK (aa (ag sE (ab 8) (ao _)) (aa (ab 7) ae))))) (bb (kN _)) bg)
   (bX (iq (gI (eK (aa (ir (aa (ag sE (ab 8) (ao _)) (aa (ag bH (ab 5) (ab 8)) ae))) (aa (ag bH (m6 (aa (ab 3) (aa (ab 4) ae))) (ab 8)) ae))))) (bb (kN _)) bg))))
   (bb (kN _)))))))))))⟩
theorem FB {mc:Value} {k:Nat} (Y0:Xb K mg "BadText" "StrandError" cB cS cg) (sg:PySem.W.specialIn K (.ref cS) "__getattribute__"=some (some (.builtin "type.__getattribute__"))) (sr:PySem.W.readsIn K cS mc=true) (sf:PySem.W.findCls K (.ref cS) mc "__init__"=some (.val (.builtin "ValueError.__init__"))):∀{cdv:Value} {A:Around} {outer:List Env} {s:Shared} {H:Hp} {E:XK},Room k (A.deeper (PyProof.Rows.envOfC "BadText.__init__" (ar n6) s.heap.objs.size cg cdv))->PSs (dP ql P w K mg base ["self"] "BadText.__init__" (ar n6) cg cdv A outer s H E).nox (cO n6) (Gy cB) :=
 fun _=>aw (dj (Ek (mc:=mc) rfl Y0.xc rfl Y0.mS sg sr sf (au (pv 0) ah)))
end
set_option maxHeartbeats 0 in
theorem all_mk {l:PySem.W.OpenLaw} {w:World} {K:PySem.W.Frag} {h:Heap} {mg:Str->Option Value} {fa cB cS cg c_Twice c_Lacks c_NoDeed c_NoKind c_NoRow c_NotLet:Addr} (X:K.In h) (G:h.Ns mainGlobals mg) (hfa:mg "law"=some (.ref fa))
  (h1:FH K "is_name" oJ) (h2:FH K "is_turned" nB) (h3:FH K "name_of" sQ) (h4:FH K "is_bead" sR) (h5:FH K "beads_in" pR) (h6:FH K "words_of" mI) (h7:FH K "beads_of" mJ) (h8:FH K "read_strand" kc) (h9:FH K "strand_words" jj) (h10:FH K "refuse_twice" jk) (h11:FH K "read_set" mK) (h12:FH K "read_line" nC) (h13:FH K "_law_flow" vX) (h14:FH K "_law_pick" vY) (h15:FH K "_law_letters" kG) (h16:FH K "_law_name" vZ) (h17:FH K "_law_names" sS) (h18:FH K "_law_shuffled" lQ) (h19:FH K "_law_line" sT) (h20:FHD K "_law_set" CT [.bool true]) (h21:FH K "_law_alike" oK) (h22:FH K "_law_tokens" pS) (h23:FH K "_law_spaced" pT) (h24:FH K "_law_no_bead" pU) (h25:FH K "_law_spoilt_set" di) (h26:FH K "_law_spoilt_line" jl) (h27:FH K "_law_read" v0) (h28:FH K "_law_refused" nF) (h29:FH K "law" IL) {ct_LETTERS:Tok} (cv_LETTERS:PySem.W.nsIn K mainGlobals "LETTERS"=some (some (.str "abcdefghijklmnopqrstuvwxyz" ct_LETTERS))) {ct_LONGEST_NAME:Tok} (cv_LONGEST_NAME:PySem.W.nsIn K mainGlobals "LONGEST_NAME"=some (some (.int 6 ct_LONGEST_NAME))) {cA_KIND_OF:Addr} (ca_KIND_OF:PySem.W.nsIn K mainGlobals "KIND_OF"=some (some (.ref cA_KIND_OF))) (cg_KIND_OF:GD l.prog w K cA_KIND_OF [("[","open"),("(","ring")]) {cA_CLOSE_OF:Addr} (ca_CLOSE_OF:PySem.W.nsIn K mainGlobals "CLOSE_OF"=some (some (.ref cA_CLOSE_OF))) (cg_CLOSE_OF:GD l.prog w K cA_CLOSE_OF [("[","]"),("(",")")])
  {oc1:Value} {od1 an1:Option Addr} {mc0 kV1 dc1 pm1 cd1 ct1:Value} {sl1:Array (Option Value)}
  (aB:PySem.W.nsIn K mainGlobals "BadText"=some (some (.ref cB))) (aS:PySem.W.nsIn K mainGlobals "StrandError"=some (some (.ref cS))) (e_Twice:PySem.W.nsIn K mainGlobals "Twice"=some (some (.ref c_Twice))) (e_Lacks:PySem.W.nsIn K mainGlobals "Lacks"=some (some (.ref c_Lacks))) (e_NoDeed:PySem.W.nsIn K mainGlobals "NoDeed"=some (some (.ref c_NoDeed))) (e_NoKind:PySem.W.nsIn K mainGlobals "NoKind"=some (some (.ref c_NoKind))) (e_NoRow:PySem.W.nsIn K mainGlobals "NoRow"=some (some (.ref c_NoRow))) (e_NotLet:PySem.W.nsIn K mainGlobals "NotLet"=some (some (.ref c_NotLet))) (r_BadText:PySem.W.kitOne K (.ref cB) (.ref cB)=some true) (r_VE:PySem.W.kitOne K (.ref cB) (.type "ValueError")=some true) (t_0:PySem.W.kitAny K (.ref cB) [.ref c_Twice,.ref c_Lacks]=some false) (t_1:PySem.W.kitAny K (.ref cB) [.ref c_NoDeed,.ref c_NoKind,.ref c_NoRow,.ref c_NotLet]=some false)
  (xc9:XC K cB cS cg xN "ValueError.__init__" "object.__setattr__" "object" "ValueError" mVE)
  (ga9:PySem.W.findIn K (.ref cB) "__getattribute__"=some (some (.builtin "BaseException.__getattribute__"))) (gt9:PySem.W.findIn K (.ref cB) "__getattr__"=some none) (hd9:PySem.W.hasDictIn K cB=true) (ca9:PySem.W.findIn K (.ref cB) "__class__"=some (some (.builtin "object.__class__"))) (cm9:PySem.W.mroIn K cB (.type "object")=some true) (hx9:PySem.W.exmOne K (.ref cB) (.ref cS)=some true)
  (cn:PySem.W.specialIn K (.builtin "object.__class__") "__get__"=some (some (.builtin "getset_descriptor.__get__"))) (ck:PySem.W.takesIn K (.builtin "object.__class__")=some true)
  (sg:PySem.W.specialIn K (.ref cS) "__getattribute__"=some (some (.builtin "type.__getattribute__"))) (sr:PySem.W.readsIn K cS mc0=true) (sf:PySem.W.findCls K (.ref cS) mc0 "__init__"=some (.val (.builtin "ValueError.__init__")))
  (l1:K.lookup cg=some ⟨oc1,od1,.func (PySem.W.fnOf "__init__" "BadText.__init__" (fD n6) (cO n6) (ar n6) .none kV1 dc1 pm1 an1 cd1 ct1),sl1⟩) (c1':PySem.W.codeIn K cd1 "BadText.__init__"=true) (k1:PySem.W.keepIn K (.ref cg)=true)
  (z_ValueError:PySem.W.nsIn K mainGlobals "ValueError"=some none) (z_all:PySem.W.nsIn K mainGlobals "all"=some none) (z_bool:PySem.W.nsIn K mainGlobals "bool"=some none) (z_int:PySem.W.nsIn K mainGlobals "int"=some none) (z_isinstance:PySem.W.nsIn K mainGlobals "isinstance"=some none) (z_len:PySem.W.nsIn K mainGlobals "len"=some none) (z_list:PySem.W.nsIn K mainGlobals "list"=some none) (z_max:PySem.W.nsIn K mainGlobals "max"=some none) (z_min:PySem.W.nsIn K mainGlobals "min"=some none) (z_range:PySem.W.nsIn K mainGlobals "range"=some none) (z_str:PySem.W.nsIn K mainGlobals "str"=some none) (z_tuple:PySem.W.nsIn K mainGlobals "tuple"=some none) :
  ∃fd:FuncData,(∀(s:Shared) (v:Value),BindsTo s fd ⟨[v],[]⟩ [("_law_script",v)])/\∀base:Heap,K.In base->base.Ns mainGlobals mg->FnOk l.prog w K mg base ql 9 fa fd Ju (w6 K):=by
 have M:Md l.prog w K mg:=⟨PySem.W.mg_none_of X G z_ValueError,PySem.W.mg_none_of X G z_all,PySem.W.mg_none_of X G z_bool,PySem.W.mg_none_of X G z_int,PySem.W.mg_none_of X G z_isinstance,PySem.W.mg_none_of X G z_len,PySem.W.mg_none_of X G z_list,PySem.W.mg_none_of X G z_max,PySem.W.mg_none_of X G z_min,PySem.W.mg_none_of X G z_range,PySem.W.mg_none_of X G z_str,PySem.W.mg_none_of X G z_tuple,⟨_,PySem.W.mg_of X G cv_LETTERS⟩,⟨_,PySem.W.mg_of X G cv_LONGEST_NAME⟩,⟨_,PySem.W.mg_of X G ca_KIND_OF,cg_KIND_OF⟩,⟨_,PySem.W.mg_of X G ca_CLOSE_OF,cg_CLOSE_OF⟩⟩;refine h29.law X G hfa sc_slaw (fun _ _ _ _ _ _=>vd fun _=>rfl) Fz fun base=>?_;have Y0:Xb K mg "BadText" "StrandError" cB cS cg:=KI X G xc9 aB aS ga9 gt9 hd9 ca9 cn ck cm9 hx9;have Z:Zs K mg cB c_Twice c_Lacks c_NoDeed c_NoKind c_NoRow c_NotLet:=⟨PySem.W.mg_of X G e_Twice,PySem.W.mg_of X G e_Lacks,PySem.W.mg_of X G e_NoDeed,PySem.W.mg_of X G e_NoKind,PySem.W.mg_of X G e_NoRow,PySem.W.mg_of X G e_NotLet,r_BadText,r_VE,t_0,t_1⟩;have F1:Fun K "__init__" "BadText.__init__" n6 cg _:=⟨⟨_,_,_,_,_,_,_,_,_,rfl,l1,c1'⟩,k1⟩;have I0:CalJ0 l.prog w K mg base cB cg 1:=⟨_,_,Ct F1 EX rfl (FB Y0 sg sr sf),F1.binds (ps:=["self"]) (fun _ _ _ _ _ _=>vd fun _=>rfl)⟩;have c0:rA l.prog w K mg base:=h1.cal X G v4 (fun _ _ _ _ _ _=>vd fun _=>rfl) (wu M);have c1:n9 l.prog w K mg base:=h2.cal X G sU (fun _ _ _ _ _ _=>vd fun _=>rfl) (tI M);have c2:nN l.prog w K mg base:=h3.cal X G v5 (fun _ _ _ _ _ _=>vd fun _=>rfl) (wv M c1);have c3:rB l.prog w K mg base:=h4.cal X G v6 (fun _ _ _ _ _ _=>vd fun _=>rfl) (ww M c0 c2);have c4:qc l.prog w K mg base:=h5.cal X G sc_sbeadsin (fun _ _ _ _ _ _=>vd fun _=>rfl) (u3 M);have c5:lZ l.prog w K mg base:=q9 h6 X G sc_swordsof (fun _ _ _ _ _ _=>xi fun _ _=>rfl) (u4 Y0 I0 M);have c6:l0 l.prog w K mg base:=q9 h7 X G uJ (fun _ _ _ _ _ _=>vd fun _=>rfl) (u5 Y0 I0 M c3);have c7:kY l.prog w K mg base:=q9 h8 X G sc_sreadstrand (fun _ _ _ _ _ _=>vd fun _=>rfl) (qh Y0 I0 M c6);have c8:kg l.prog w K mg base:=h9.cal X G sc_sstrandwords (fun _ _ _ _ _ _=>vd fun _=>rfl) (oq M);have c9:ig l.prog w K mg base:=h10.cal X G sc_srefusetwice (fun _ _ _ _ _ _=>vd fun _=>rfl) (ou M c2 c4);have c10:qd l.prog w K mg base:=q9 h11 X G sc_sreadset (fun _ _ _ _ _ _=>vd fun _=>rfl) (u6 M c5 c7 c8 c9);have c11:oa l.prog w K mg base:=q9 h12 X G sc_sreadline (fun _ _ _ _ _ _=>vd fun _=>rfl) (tJ Y0 I0 M c5 c6 c9);have c12:qf l.prog w K mg base:=h13.cal X G yS (fun _ _ _ _ _ _=>vd fun _=>rfl) (u7 M);have c13:cz l.prog w K mg base:=h14.calI X G sc_sLpick (fun _ _ _ _ _ _=>xi fun _ _=>rfl) (u8 M);have c14:iS l.prog w K mg base:=h15.calI X G sV (fun _ _ _ _ _ _=>xi fun _ _=>rfl) (qi M c13)
 have c15:qg l.prog w K mg base:=h16.calI X G sc_sLname (fun _ _ _ _ _ _=>xi fun _ _=>rfl) (u9 M c13 c14);have c16:oe l.prog w K mg base:=h17.calI X G sc_sLnames (fun _ _ _ _ _ _=>xi fun _ _=>rfl) (tK M c13 c14 c15);have c17:kh l.prog w K mg base:=h18.calI X G sc_sLshuffled (fun _ _ _ _ _ _=>xi fun _ _=>rfl) (oy M c13);have c18:ma l.prog w K mg base:=h19.calI X G yT (fun _ _ _ _ _ _=>xi fun _ _=>rfl) (va M c13 c17);have c19:rC l.prog w K mg base:=h20.calI X G sc_sLset (fun _ _ _ _ _ _ _ us hl=>match us,(show us.length=2 by simpa using hl) with|[_,_],_=>⟨_,rfl,rfl⟩) (.cons rfl .nil) (wx M c13 c18)
 have c20:og l.prog w K mg base:=h21.alike X G v7 (fun _ _ _ _ _ _=>xi fun _ _=>rfl) 20 (fun n u h=>yV h) (fun n gs hn=>tL M) 4 (by decide)
 have c21:mR l.prog w K mg base:=h22.cal X G sc_sLtokens (fun _ _ _ _ _ _=>vd fun _=>rfl) (qy M);have c22:mT l.prog w K mg base:=h23.calI X G sc_sLspaced (fun _ _ _ _ _ _=>xi fun _ _=>rfl) (qz M c13);have c23:iT l.prog w K mg base:=h24.calI X G sc_sLnobead (fun _ _ _ _ _ _=>xi fun _ _=>rfl) (qj M c13);have c24:i4 l.prog w K mg base:=h25.calI X G sc_sLspoiltset (fun _ _ _ _ _ _=>xi fun _ _=>rfl) (mU M c13 c23);have c25:iH l.prog w K mg base:=h26.calI X G sc_sLspoiltline (fun _ _ _ _ _ _=>xi fun _ _=>rfl) (me M c13 c23);have c26:md l.prog w K mg base:=q9 h27 X G yU (fun _ _ _ _ _ _=>xi fun _ _=>rfl) (vb M c10 c11);have c27:kZ l.prog w K mg base:=h28.cal X G sc_sLrefused (fun _ _ _ _ _ _=>xi fun _ _=>rfl) (qk Y0 Z M c26);intro _ _ _ _ _ _ _;exact Jm M c12 c13 c16 c18 c19 c20 c21 c22 c24 c25 c26 c27
end K05
open PySem PySem.W PyProof.Rows
set_option maxRecDepth 100000 in
set_option maxHeartbeats 0 in
theorem PySem.Challenge.cw_strandwright_k05_what_writes_none_holds : PySem.Challenge.rw_strandwright_k05_what_writes_none.Holds := by
 w_on;o_law;z_head;(case hw=>w_witness2)
 k_fill
 refine VF.walkZ (l:=PySem.Challenge.rw_strandwright_k05_what_writes_none) (k:=9) rfl rfl ⟨rfl,by decide,by decide⟩ (by decide) ?K ?F
 case K=>intro _;rfl
 case F =>
  intro w mg fa h KX G hmg;refine' K05.all_mk (mc0:=.type "type") KX G hmg (VF.fh ?a1 ?l1 ?c1 ?k1) (VF.fh ?a2 ?l2 ?c2 ?k2) (VF.fh ?a3 ?l3 ?c3 ?k3) (VF.fh ?a4 ?l4 ?c4 ?k4) (VF.fh ?a5 ?l5 ?c5 ?k5) (VF.fh ?a6 ?l6 ?c6 ?k6) (VF.fh ?a7 ?l7 ?c7 ?k7) (VF.fh ?a8 ?l8 ?c8 ?k8) (VF.fh ?a9 ?l9 ?c9 ?k9) (VF.fh ?a10 ?l10 ?c10 ?k10) (VF.fh ?a11 ?l11 ?c11 ?k11) (VF.fh ?a12 ?l12 ?c12 ?k12) (VF.fh ?a13 ?l13 ?c13 ?k13) (VF.fh ?a14 ?l14 ?c14 ?k14) (VF.fh ?a15 ?l15 ?c15 ?k15) (VF.fh ?a16 ?l16 ?c16 ?k16) (VF.fh ?a17 ?l17 ?c17 ?k17) (VF.fh ?a18 ?l18 ?c18 ?k18) (VF.fh ?a19 ?l19 ?c19 ?k19) (VF22.fhd ?a20 ?l20 ?c20 ?k20 ?t20) (VF.fh ?a21 ?l21 ?c21 ?k21) (VF.fh ?a22 ?l22 ?c22 ?k22) (VF.fh ?a23 ?l23 ?c23 ?k23) (VF.fh ?a24 ?l24 ?c24 ?k24) (VF.fh ?a25 ?l25 ?c25 ?k25) (VF.fh ?a26 ?l26 ?c26 ?k26) (VF.fh ?a27 ?l27 ?c27 ?k27) (VF.fh ?a28 ?l28 ?c28 ?k28) (VF.fh ?a29 ?l29 ?c29 ?k29) ?cv_LETTERS ?cv_LONGEST_NAME ?ca_KIND_OF (VF22.gd_mk2 ?cb_KIND_OF ?cc_KIND_OF ?cd_KIND_OF) ?ca_CLOSE_OF (VF22.gd_mk2 ?cb_CLOSE_OF ?cc_CLOSE_OF ?cd_CLOSE_OF) ?aB ?aS ?e_Twice ?e_Lacks ?e_NoDeed ?e_NoKind ?e_NoRow ?e_NotLet ?r_BadText ?r_VE ?t_0 ?t_1 (VX.xc_mk ?xl9 (VX.nsOk_of ?xn9 ?xt9) ?xi9 ?xl29 (VX.nsOk_of ?xn29 ?xt29) ?xi29 ?xst9 ?xlf9 ?xfc9 ?xkp9) ?ga9 ?gt9 ?hd9 ?ca9 ?cm9 ?hx9 ?cn ?ck ?sg ?sr ?sf ?ul1 ?uc1 ?uk1 ?z_ValueError ?z_all ?z_bool ?z_int ?z_isinstance ?z_len ?z_list ?z_max ?z_min ?z_range ?z_str ?z_tuple
  (case aB=>k_is)
  (case aS=>k_is)
  (case e_Twice=>k_is)
  (case e_Lacks=>k_is)
  (case e_NoDeed=>k_is)
  (case e_NoKind=>k_is)
  (case e_NoRow=>k_is)
  (case e_NotLet=>k_is)
  (case xl9=>k_is)
  (case xn9=>k_is)
  (case xt9=>exact rfl)
  (case xi9=>k_is)
  (case xlf9=>k_is)
  (case xfc9=>rfl)
  (case xl29=>k_is)
  (case xn29=>k_is)
  (case xt29=>exact rfl)
  (case hx9=>kts_exm)
  (case r_BadText=>kit_is)
  (case r_VE=>kit_is)
  (case t_0=>kit_is)
  (case t_1=>kit_is)
  all_goals try k_is
  all_goals decide

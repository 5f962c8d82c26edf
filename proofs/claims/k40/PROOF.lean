import PyProof.Rows.All
import Wide.All
import OpenK.AllK
import Wide.FinOn
import Lean
import PyProof.EqAt
import PyProof.EqKinds
import PyProof.TupleCall
import KE.KRevIter
import KE.KUnpack
import KE.KIntText
import PySem.Challenge.RW_strandwright_k40_rings_of_points
set_option maxHeartbeats 2000000
set_option Elab.async false
set_option linter.all false
set_option maxRecDepth 100000
set_option genSizeOfSpec false
namespace PySem.W.Fast
def tw3997516010858711953:=0
def tw11674834968457859598:=0
def tw14615561339313804929:=0
def tw4576470577533401266:=0
def tw2189573454786479887:=0
def tw12163025843058932032:=0
def tw14972426382550701989:=0
def tw15423247522824080085:=0
def tw15259411441797504501:=0
def tw16149691927689010338:=0
def tw10130330169878729794:=0
def tw1606164431429621629:=0
def tw13402580697825505780:=0
def tw2374973400075069685:=0
def tw8722116497912829047:=0
def tw10699117440682470967:=0
def tw8307891779375806990:=0
def tw1002295741539789275:=0
def tw17769750027402905749:=0
def tw8014757967128607368:=0
end PySem.W.Fast
abbrev Aa:=@PySem.wpAny_bind
abbrev Ab:=@PySem.Heap.get?_push_of_some
abbrev Ac:=@PySem.wpAny_pure
abbrev Ad:=@decide_eq_false
abbrev Ae:=@if_pos
abbrev Af:=@if_neg
abbrev Ag:=@decide_eq_true
abbrev Ah:=@PySem.Heap.get?_push_size
abbrev Ai:=@PySem.Heap.lt_size
abbrev Aj:=@PySem.PassesOwn.never
abbrev Ak:=@PySem.wpAny_loadPart'
abbrev Al:=@PyProof.Rows.wpS_bind
abbrev Am:=@PySem.wpAny_call_entry
abbrev An:=@PySem.wpAny_callSpecial?_slot
abbrev Ao:=@of_decide_eq_true
abbrev Ap:=@PySem.wpAny_field
abbrev Aq:=@PyProof.Rows.callWith_type1
abbrev Ar:=@PyProof.Rows.wpS_pure
abbrev As:=@PySem.wpAny_newObj_type
abbrev At:=@PyProof.Rows.boot_abs
abbrev Au:=@PySem.wpAny_holding
abbrev Av:=@PySem.wpAny_truthy_bool
abbrev Aw:=@List.Pairwise.imp_of_mem
abbrev Ax:=@PySem.AutoSeq1.wpAny_loadPart'
abbrev Ay:=@PySem.wpAny_seqItems
abbrev Az:=@PySem.wpAny_mono
abbrev AA:=@PySem.wpAny_typeNameOfWhole_keyiter
abbrev AB:=@PySem.wpAny_setField_rec
abbrev AC:=@PySem.wpAny_passesOwn
abbrev AD:=@PyProof.Rows.listItems_at
abbrev AE:=@List.range_succ
abbrev AF:=@PySem.wpAny_rule
abbrev AG:=@PySem.wpAny_getItem_str_slice
abbrev AH:=@PyProof.Rows.wpS_forRange
abbrev AI:=@PySem.wpAny_typeOf
abbrev AJ:=@PySem.Heap.size_push
abbrev AK:=@PySem.wpAny_isInstance
abbrev AL:=@PySem.wpAny_forIn_list
abbrev AM:=@PySem.call_meets
abbrev AN:=@List.nodup_range
abbrev AO:=@Array.size_range
abbrev AQ:=@PySem.wpAny_attempt
abbrev AR:=@List.any_cons
abbrev AT:=@PySem.wpAny_specialOf
abbrev AU:=@List.forIn_cons
abbrev AV:=@List.append_nil
abbrev AW:=@List.length_reverse
abbrev AX:=@PySem.Heap.SameBut.update
abbrev AY:=@Nat.zero_add
abbrev AZ:=@Nat.ne_of_gt
abbrev A0:=@Nat.le_of_lt
abbrev A3:=@PySem.SeqAt.EqAt.of_refs
abbrev A4:=@PySem.Obj.data_mapFields
abbrev A5:=@Nat.sub_add_cancel
abbrev A6:=@List.zip_cons_cons
abbrev A7:=@List.perm_ext_iff_of_nodup
abbrev A8:=@List.Nodup.sublist
abbrev A9:=@List.mem_of_find?_eq_some
abbrev Ba:=@List.getElem?_append_left
abbrev Bb:=@PySem.sizeLine_eq
abbrev Bc:=@Option.isSome_map
abbrev Bd:=@Nat.lt_succ_of_lt
abbrev Be:=@PyProof.Rows.listUpdate_at
abbrev Bg:=@List.all_cons
abbrev Bh:=@Nat.lt_of_not_le
abbrev Bi:=@Nat.le_of_not_lt
abbrev Bj:=@List.zipIdx_cons
abbrev Bk:=@List.filter_cons
abbrev Bl:=@List.ext_getElem
abbrev Bm:=@Nat.lt_trans
abbrev Bo:=@Nat.add_comm
abbrev Bp:=@PySem.Heap.get?_update_other
abbrev Bq:=@PySem.wpAny_execs_nil
abbrev Br:=@PySem.post_val_or_str
abbrev Bs:=@PySem.codeAny_builtin
abbrev Bt:=@PySem.Heap.get?_update_self
abbrev Bu:=@PyProof.Rows.wpS_mono
abbrev Bv:=@PySem.wpAny_updateSeq_pair
abbrev Bw:=@PySem.wpAny_setField
abbrev Bx:=@List.getElem?_set_ne
abbrev By:=@List.getElem?_mapIdx
abbrev Bz:=@List.mem_map_of_mem
abbrev BB:=@List.flatten_append
abbrev BC:=@List.filterMap_cons
abbrev BD:=@PySem.Heap.get?_update_ne
abbrev BE:=@PySem.wpAny_onRaise
abbrev BF:=@PySem.wpAny_newList
abbrev BG:=@PySem.wpAny_tupleItemsOf
abbrev BH:=@PySem.wpAny_Call_Name_kw
abbrev BI:=@PySem.SeqAt.EqAt.str_int
abbrev BJ:=@PySem.SeqAt.EqAt.int_str
abbrev BK:=@List.map_singleton
abbrev BL:=@Bool.false_eq_true
abbrev BM:=@Array.toList_range
abbrev BN:=@PySem.wpAny_pyIter_list
abbrev BO:=@PySem.wpAny_dictEntries
abbrev BP:=@PySem.Txt.slice_le
abbrev BQ:=@List.getElem?_map
abbrev BR:=@PyProof.Rows.slot_tuple_getitem
abbrev BS:=@List.eraseIdxIfInBounds_toArray
abbrev BT:=@decide_eq_decide
abbrev BU:=@Nat.not_le_of_lt
abbrev BV:=@List.length_take
abbrev BW:=@List.getElem_inj
abbrev BX:=@PySem.wpAny_letGo
abbrev BY:=@PySem.wpAny_dictEpoch
abbrev BZ:=@Nat.not_lt_zero
abbrev B0:=@Nat.min_eq_left
abbrev B1:=@List.of_mem_zip
abbrev B2:=@List.map_append
abbrev B3:=@List.find?_some
abbrev B4:=@PySem.wpAny_listPart
abbrev B5:=@PySem.typeIs_str
abbrev B6:=@PySem.isSubtype_stop
abbrev B7:=@PySem.SeqAt.RcNeAt.lists_lengths
abbrev B8:=@List.getElem?_append_right
abbrev B9:=@List.forIn_nil
abbrev Ca:=@List.foldl_nil
abbrev Cb:=@PySem.Calls.Name_function_global
abbrev Cc:=@Bool.and_false
abbrev Cd:=@PySem.Calls.call_function_entry
abbrev Ce:=@Array.getElem_mem_toList
abbrev Cf:=@List.getElem?_replicate
abbrev Cg:=@List.range_succ_eq_map
abbrev Ch:=@List.length_pos_of_mem
abbrev Ci:=@List.flatten_singleton
abbrev Cj:=@List.flatMap_singleton
abbrev Ck:=@List.drop_eq_nil_of_le
abbrev Co:=@List.getElem?_toArray
abbrev Cq:=@List.dropLast_eq_take
abbrev Cr:=@List.Pairwise.sublist
abbrev Za:=@List.getElem?_eq_getElem
abbrev Ya:=@List.length_map
abbrev Xa:=@Nat.le_refl
abbrev Wa:=@List.mem_map
abbrev Va:=@List.length_append
abbrev Qa:=@Option.bind_some
abbrev Yb:=@List.size_toArray
abbrev Xb:=@List.mem_of_getElem?
abbrev Wb:=@BQ
abbrev Vb:=@List.getElem?_eq_some_iff
abbrev Qb:=@List.mem_range
abbrev Zc:=@Nat.lt_of_lt_of_le
abbrev Yc:=@List.mem_cons_of_mem
abbrev Xc:=@Option.map_eq_some_iff
abbrev Wc:=@List.length_range
abbrev Vc:=@List.length_singleton
abbrev Qc:=@Bool.false_ne_true
abbrev Zd:=@List.length_cons
abbrev Yd:=@List.getD_eq_getElem?_getD
abbrev Xd:=@List.mem_cons
abbrev Wd:=@List.mem_cons_self
abbrev Vd:=@List.map_cons
abbrev Qd:=@Array.length_toList
abbrev Ze:=@Nat.le_trans
abbrev Ye:=@List.mem_singleton
abbrev Xe:=@List.map_map
abbrev We:=@BL
abbrev Ve:=@B2
abbrev Qe:=@List.getElem?_eq_none
abbrev Zf:=@Bool.eq_iff_iff
abbrev Yf:=@List.mem_append_right
abbrev Xf:=@Nat.ne_of_lt
abbrev Wf:=@List.map_congr_left
abbrev Vf:=@List.mem_append
abbrev Qf:=@List.pairwise_map
abbrev Zg:=@List.length_nil
abbrev Yg:=@List.foldl_cons
abbrev Xg:=@Bool.and_eq_true
abbrev Wg:=@Nat.succ_pos
abbrev Vg:=@List.nodup_cons
abbrev Qg:=@List.getElem?_drop
abbrev Zh:=@List.mem_flatten
abbrev Yh:=@Nat.lt_irrefl
abbrev Xh:=@List.find?_cons
abbrev Wh:=@Nat.zero_le
abbrev Vh:=@B8
abbrev Qh:=@List.pairwise_lt_range
abbrev Zi:=@Array.getElem?_toList
abbrev Yi:=@List.mem_iff_getElem
abbrev Xi:=@List.flatMap_cons
abbrev Wi:=@List.nodup_append
abbrev Vi:=@Nat.add_le_add_left
abbrev Qi:=@List.getElem?_range
abbrev Zj:=@Nat.le_add_right
abbrev Yj:=@List.getElem_mem
abbrev Xj:=@Int.emod_lt_of_pos
abbrev Wj:=@Ba
abbrev Vj:=@List.drop_eq_getElem_cons
abbrev Qj:=@Array.getElem?_eq_getElem
abbrev Zk:=@List.ext_getElem?
abbrev Yk:=@List.append_assoc
abbrev Xk:=@Int.eq_ofNat_of_zero_le
abbrev Wk:=@Option.bind_eq_some_iff
abbrev Vk:=@List.filter_sublist
abbrev Qk:=@List.getElem?_set_self
abbrev Zl:=@List.mem_filter
abbrev Yl:=@Int.emod_nonneg
abbrev Xl:=@Int.toNat_natCast
abbrev Wl:=@List.flatten_cons
abbrev Vl:=@Option.isSome_iff_exists
abbrev Ql:=@Cf
abbrev Zm:=@Nat.lt_of_le_of_lt
abbrev Ym:=@List.eq_nil_of_length_eq_zero
abbrev Xm:=@Nat.lt_of_succ_lt
abbrev Wm:=@List.getElem?_set
abbrev Vm:=@List.length_replicate
abbrev Qm:=@List.mem_append_left
abbrev Zn:=@List.length_drop
abbrev Yn:=@List.all_eq_true
abbrev Xn:=@List.getElem?_of_mem
namespace PySem
theorem Runs.toks {M:Model} {Γ:Ctx} {p:Pos} {t:Sem Fin} {fs:List Frame} {s s':Shared} {e:End} (h:Runs M Γ p t fs s e s'):s.toks<=s'.toks:=by
 induction h with
 | done=>exact Xa _
 | raise=>exact Xa _
 | yield=>exact Xa _
 | fresh _ ih=>exact Nat.le_of_succ_le ih
 | call _ _ ih1 ih2=>exact Ze ih1 ih2
 | resumeFresh _ _ _ _ ih1 ih2=>exact Ze ih1 ih2
 | resumeSuspended _ _ _ _ ih1 ih2=>exact Ze ih1 ih2
 | segRet _ _ ih1 ih2=>exact Ze ih1 ih2
 | segGen _ _ ih1 ih2=>exact Ze ih1 ih2
 | segSuspGen _ _ _ _ ih1 ih2=>exact Ze ih1 ih2
 | _=>assumption
theorem Wakes.toks {M:Model} {Γ:Ctx} {p:Pos} {g:Nat} {r:Resume} {s s':Shared} {res:GenResult} (h:Wakes M Γ p g r s res s'):s.toks<=s'.toks:=by
 unfold Wakes at h;split at h
 ·exact h.elim
 ·split at h
  ·obtain⟨e,s1,h1,_,_,rfl⟩:=h;exact h1.toks
  ·rw[h.2];exact Xa _
  ·rw[h.2];exact Xa _
 ·obtain⟨e,s1,h1,_,_,rfl⟩:=h;exact h1.toks
 ·rw[h.2];exact Xa _
 ·rw[h.2];exact Xa _
open Sem in
theorem Hh {α:Type} {M:Model} {Γ:Ctx} {Q:α->Pos->Shared->Prop} {E:Value->Pos->Shared->Prop} {n:Nat} (t:Sem α):∀{p:Pos} {s:Shared},n<=s.toks->wp M Γ t (fun a p' s'=>n<=s'.toks->Q a p' s') (fun e p' s'=>n<=s'.toks->E e p' s') p s->wp M Γ t Q E p s:=by
 induction t with
 | pure a=>intro p s hs h;rw[wp]at h ⊢;exact h hs
 | raise e=>intro p s hs h;rw[wp]at h ⊢;exact h hs
 | unsupported w=>intro p s hs h;rw[wp]at h;exact h.elim
 | finish e=>intro p s hs h;rw[wp]at h;exact h.elim
 | rule tag k ih=>intro p s hs h;rw[wp]at h ⊢;exact ih _ hs h
 | «at» pos k ih=>intro p s hs h;rw[wp]at h ⊢;exact ih _ hs h
 | load a part k ih=>intro p s hs h;rw[wp]at h ⊢;obtain⟨o,e,h⟩:=h;exact⟨o,e,ih _ hs h⟩
 | update a part f k ih=>intro p s hs h;rw[wp]at h ⊢;exact⟨h.1,ih _ hs h.2⟩
 | alloc o k ih=>intro p s hs h;rw[wp]at h ⊢;exact ih _ hs h
 | loadIfAlive a k ih=>intro p s hs h;rw[wp]at h ⊢;exact ih _ hs h
 | point l k ih=>intro p s hs h;rw[wp]at h ⊢;exact ih _ hs h
 | register a k ih=>intro p s hs h;rw[wp]at h;exact h.elim
 | fresh k ih=>intro p s hs h;rw[wp]at h ⊢;exact ih _ (Nat.le_succ_of_le hs) h
 | ask k ih=>intro p s hs h;rw[wp]at h ⊢;exact ih _ hs h
 | choose src n k ih=>intro p s hs h;rw[wp]at h ⊢;exact⟨h.1,ih _ hs h.2⟩
 | os q l k ih=>intro p s hs h;rw[wp]at h ⊢;exact ih _ hs h
 | call c hd g l k ih=>intro p s hs h;rw[wp]at h ⊢;obtain⟨r,s',h1,h2⟩:=h;exact⟨r,s',h1,ih _ (Ze hs h1.toks) h2⟩
 | handled own k ih=>intro p s hs h;rw[wp]at h ⊢;exact ih _ hs h
 | newGen c k ih=>intro p s hs h;rw[wp]at h ⊢;exact ih _ hs h
 | genState g k ih=>intro p s hs h;rw[wp]at h ⊢;obtain⟨st,e,h⟩:=h;exact⟨st,e,ih _ hs h⟩
 | resume g r l k ih=>intro p s hs h;rw[wp]at h ⊢;obtain⟨res,s',h1,h2⟩:=h;exact⟨res,s',h1,ih _ (Ze hs h1.toks) h2⟩
 | yield v g l k ih=>intro p s hs h;rw[wp]at h;exact h.elim
 | stack k ih=>intro p s hs h;rw[wp]at h ⊢;exact ih _ hs h
 | fork c k ih=>intro p s hs h;rw[wp]at h;exact h.elim
 | thread k ih=>intro p s hs h;rw[wp]at h ⊢;exact ih _ hs h
 | await a t b l k ih=>intro p s hs h;rw[wp]at h;exact h.elim
theorem bw {α:Type} {M:Model} {A:Around} {t:Sem α} {Q:α->Shared->Prop} {E:Value->Shared->Prop} {s:Shared} (h:wpAny M A t (fun a s'=>s.toks<=s'.toks->Q a s') (fun e s'=>s.toks<=s'.toks->E e s') s):wpAny M A t Q E s :=
 fun Γ p hi=>Hh t (Xa _) (h Γ p hi)
theorem rm {M:Model} {A:Around} {c:Code} {R:Result->Shared->Prop} {s:Shared} (h:codeAny M A c (fun r s'=>s.toks<=s'.toks->R r s') s):codeAny M A c R s:=fun Γ p hc hb=>by
 obtain⟨r,s',h1,h2⟩:=h Γ p hc hb;exact⟨r,s',h1,h2 h1.toks⟩
end PySem
namespace L2
open PySem PySem.Spec PyProof.Rows
abbrev Key:=Sum Int Str
def nq:Key->Value->Bool
 | .inl k,v=>Value.isInt k v
 | .inr x,v=>Value.isStrOf x v
def Jm (w:World):Key->Int
 | .inl k=>hashInt k
 | .inr x=>hashStr w x
theorem bu:∀{k:Key} {v:Value},nq k v=true->(∃i t,k=Sum.inl i/\v=Value.int i t)∨(∃x t,k=Sum.inr x/\v=Value.str x t)
 | .inl i,v,h=>by
  obtain⟨t,e⟩:=Value.isInt_shape (k:=i) (v:=v) h;exact .inl ⟨i,t,rfl,e⟩
 | .inr x,v,h=>by
  obtain⟨t,e⟩:=Value.isStrOf_shape (x:=x) (v:=v) h;exact .inr ⟨x,t,rfl,e⟩
theorem uH (i:Int) (t:Tok):nq (.inl i) (.int i t)=true:=by simp[nq,Value.isInt]
theorem uI (x:Str) (t:Tok):nq (.inr x) (.str x t)=true:=by simp[nq,Value.isStrOf]
theorem Ei (a b:Int):decide ((Sum.inl a:Key)=Sum.inl b)=(a == b):=by
 by_cases e:a=b
 ·subst e;simp
 ·have h:¬ (Sum.inl a:Key)=Sum.inl b:=fun q=>e (Sum.inl.inj q);rw[Ad h];exact(beq_eq_false_iff_ne.mpr e).symm
theorem Ej (a b:Str):decide ((Sum.inr a:Key)=Sum.inr b)=decide (a=b):=by
 by_cases e:a=b
 ·subst e;simp
 ·have h:¬ (Sum.inr a:Key)=Sum.inr b:=fun q=>e (Sum.inr.inj q);rw[Ad h,Ad e]
theorem Ek (a:Int) (b:Str):decide ((Sum.inl a:Key)=Sum.inr b)=false:=Ad (fun q=>nomatch q)
theorem Em (a:Str) (b:Int):decide ((Sum.inr a:Key)=Sum.inl b)=false:=Ad (fun q=>nomatch q)
def aF (prog:Program) (w:World):PySem.KeyKind prog w Key where
 is:=nq
 hash:=Jm w
 inj:=fun v a b ha hb=>by
  rcases bu ha with⟨i,t,rfl,rfl⟩|⟨x,t,rfl,rfl⟩
  ·rcases bu hb with⟨j,u,rfl,e⟩|⟨y,u,rfl,e⟩
   ·injection e with e1 _;rw[e1]
   ·exact nomatch e
  ·rcases bu hb with⟨j,u,rfl,e⟩|⟨y,u,rfl,e⟩
   ·exact nomatch e
   ·injection e with e1 _;rw[e1]
 byValue:=fun k v h=>by
  rcases bu h with⟨i,t,rfl,rfl⟩|⟨x,t,rfl,rfl⟩<;>rfl
 pyHash:=fun hv h=>by
  rcases bu hv with⟨i,t,rfl,rfl⟩|⟨x,t,rfl,rfl⟩
  ·exact wpAny_pyHash_int h
  ·exact wpAny_pyHash_str h
 eqBool:=fun hu hv h=>by
  rcases bu hu with⟨i,t,rfl,rfl⟩|⟨x,t,rfl,rfl⟩
  ·rcases bu hv with⟨j,u,rfl,rfl⟩|⟨y,u,rfl,rfl⟩
   ·rw[Ei]at h;exact wpAny_eqBool_int h
   ·rw[Ek]at h;exact BJ i t y u _ _ _ _ h
  ·rcases bu hv with⟨j,u,rfl,rfl⟩|⟨y,u,rfl,rfl⟩
   ·rw[Em]at h;exact BI x t j u _ _ _ _ h
   ·rw[Ej]at h;exact wpAny_eqBool_str h
 «strs»:=fun k x t v h=>by
  rcases bu h with⟨i,u,rfl,e⟩|⟨y,u,rfl,e⟩
  ·exact nomatch e
  ·injection e with e1 _
   subst e1;cases v<;>rfl
theorem pL (prog:Program) (w:World) (i:Int) (t:Tok):(aF prog w).is (.inl i) (.int i t)=true:=uH i t
theorem pM (prog:Program) (w:World) (x:Str) (t:Tok):(aF prog w).is (.inr x) (.str x t)=true:=uI x t
end L2
namespace VN
open PySem
section
variable {prog:Program} {w:World} {K:Type} [DecidableEq K] (knd:KeyKind prog w K)
inductive Nst (h:Heap):List (List K)->List Value->Prop
 | nil:Nst h [] []
 | cons {k:List K} {ks:List (List K)} {b:Addr} {vs:List Value}:IsTupleKey knd h k b->Nst h ks vs->Nst h (k::ks) (Value.ref b::vs)
def IsN (h:Heap) (ks:List (List K)) (a:Addr):Prop:=∃o its n,h.get? a=some o/\o.cls=.type "tuple"/\o.data=.seq its n/\Nst knd h ks its.toList
variable {knd}
theorem Nst.one {h:Heap} {x y:List (List K)} {vs:List Value} (p:Nst knd h x vs):Nst knd h y vs->x=y:=by
 induction p generalizing y with
 | nil=>intro q;cases q;rfl
 | cons p1 _ ih =>
  intro q;cases q with
  | cons q1 q2=>rw[p1.inj q1,ih q2]
theorem Nst.len {h:Heap} {x:List (List K)} {vs:List Value} (p:Nst knd h x vs):vs.length=x.length:=by
 induction p with
 | nil=>rfl
 | cons _ _ ih=>rw[Zd,Zd,ih]
theorem Nst.stay {h h':Heap} {x:List (List K)} {vs:List Value} (p:Nst knd h x vs) (f:∀k b,IsTupleKey knd h k b->IsTupleKey knd h' k b):Nst knd h' x vs:=by
 induction p with
 | nil=>exact .nil
 | cons p1 _ ih=>exact .cons (f _ _ p1) ih
theorem IsN.ty {s:Shared} {ks:List (List K)} {a:Addr} (x:IsN knd s.heap ks a):s.TypeIs (.ref a) "tuple":=by
 obtain⟨o,_,_,e,c,_⟩:=x;exact⟨o,e,c⟩
theorem IsN.one {h:Heap} {a:Addr} {x y:List (List K)} (p:IsN knd h x a) (q:IsN knd h y a):x=y:=by
 obtain⟨o1,i1,n1,e1,_,d1,p1⟩:=p;obtain⟨o2,i2,n2,e2,_,d2,p2⟩:=q;rw[e1]at e2;cases e2;rw[d1]at d2;cases d2;exact p1.one p2
theorem IsN.stay {h h':Heap} {k:List (List K)} {a d:Addr} {o:Obj} {es ep} (x:IsN knd h k a) (ho:h.get? d=some o) (hd:o.data=.dict es ep) (hs:Heap.SameBut d h h'):IsN knd h' k a:=by
 obtain⟨o1,i1,n1,e1,c1,d1,p1⟩:=x;refine⟨o1,i1,n1,?_,c1,d1,p1.stay fun k b z=>z.keeps ho hd hs⟩;refine(hs.2 a fun z=>?_).trans e1;rw[z,ho]at e1;cases e1;rw[hd]at d1;cases d1
def vO (knd:KeyKind prog w K) (ks:List (List K)):Int:=reduceHash (Builtin.Tuple.tupleHashOf (ks.map (tupleKeyHash knd)))
def vP (ks:List (List K)):Nat:=(ks.map fun k=>k.length+1).sum+1
variable {A:Around} {E:Value->Shared->Prop} {s:Shared}
theorem Ep {ks:List (List K)} {a:Addr} {Q:Int->Shared->Prop} (hu:A.units<cLine) (hv:A.in1.units<cLine) (x:IsN knd s.heap ks a) (q:Q (vO knd ks) { s with toks:=s.toks+vP ks }):wpAny (model prog w) A (pyHash (.ref a)) Q E s:=by
 have ty:=x.ty;obtain⟨o,its,n,e,_,d,p⟩:=x;unfold pyHash
 try unfold pyHashByItsType
 try refine Aa (wpAny_cRoomFor_or (.inr hu) ?_)
 refine Aa (AT ty F.slot_tuple_hash.lookup ?_);rw[show(some (Value.builtin "tuple.__hash__") == some Value.none)=false from by decide +kernel]
 simp only[We,if_false];refine Aa (AT ty F.slot_tuple_hash.lookup ?_);simp only[Option.isNone_some,We,if_false];refine Aa (wpAny_callSpecialIfBoundUnlessNone?_slot ty F.slot_tuple_hash (Am F.slot_tuple_hash ty F.entry_tuple_hash ?_ (F.args_tuple_hash_1 _)));show wpAny _ A.in1 (Builtin.Tuple.tupleItemsOf (.ref a) >>= fun its=>_) _ E s;refine Aa (BG e d (Aa ?_));rw[← Array.forIn_toList];refine AL _ (fun vs (b:Array Int) s'=>∃g r,g++r=ks/\Nst knd s.heap r vs/\b.toList=g.map (tupleKeyHash knd)/\s'={ s with toks:=s.toks+(g.map fun k=>k.length+1).sum }) _ ?_ ?_ _ _ ⟨[],ks,rfl,p,rfl,rfl⟩
 ·rintro x vs b s' ⟨g,r,e1,p1,e2,rfl⟩;cases p1 with
  | @cons k r c _ k1 p2 =>
   refine Aa (wpAny_pyHash_tuple hv (show IsTupleKey knd s.heap k c from k1) ?_);refine Ac ⟨g++[k],r,by rw[← e1];simp,p2,by simp[e2],?_⟩
   simp only[Ve,List.sum_append,BK,List.sum_singleton,Nat.add_assoc]
 ·rintro b s' ⟨g,r,e1,p1,e2,rfl⟩;cases p1;rw[AV]at e1;subst e1;show wpAny _ A.in1 (retInt (Builtin.Tuple.tupleHashOf b.toList)) _ E _;rw[e2];refine wpAny_ret_mkInt ?_;dsimp only;unfold vO reduceHash at q;generalize Builtin.Tuple.tupleHashOf (g.map (tupleKeyHash knd))=t at q ⊢;unfold pyHashByItsType.reduced;have q':∀z,Q z { s with toks:=s.toks+vP g }->Q z { s with toks:=s.toks+(g.map fun k=>k.length+1).sum+1 }:=fun z y=>y;split at q
  ·next c =>
   rw[Ae c];exact Ac (q' _ q)
  ·next c =>
   rw[Af c];exact Aa (AF (Ac (q' _ q)))
theorem pN (m:Nat) {its:Array Value} {o:Obj} {n:Nat} {a:Addr} {Q:Bool->Shared->Prop} (ty:s.TypeIs (.ref a) "tuple") (e:s.heap.get? a=some o) (d:o.data=.seq its n) (h:∀v∈its.toList,∀Q':Bool->Shared->Prop,Q' true s->wpAny (model prog w) A (eqIsQuiet m v) Q' E s) (q:Q true s):wpAny (model prog w) A (eqIsQuiet (m+1) (.ref a)) Q E s:=by
 unfold eqIsQuiet;refine Aa (AT ty F.slot_tuple_eq.lookup ?_);show wpAny _ A (isInstance (.ref a) (.type "tuple") >>= fun b=>_) Q E s;refine Aa (AK ty isSubtype_tuple_tuple ?_);simp only[Bool.not_true,We,if_false];refine Aa (Ay e d (Aa ?_));show wpAny _ A (forIn its _ _) _ E s;rw[← Array.forIn_toList];refine AL _ (fun r b s'=>s'=s/\b.1=none/\∀v∈r,v∈its.toList) _ ?_ ?_ _ _ ⟨rfl,rfl,fun v z=>z⟩
 ·rintro v r b s' ⟨rfl,_,hr⟩;refine Aa (h v (hr v (Wd ..)) _ ?_);rw[Af (by decide)]
  exact Ac ⟨rfl,rfl,fun u hu=>hr u (Yc _ hu)⟩
 ·rintro⟨b,u⟩ s' ⟨rfl,hb,_⟩;cases (show b=none from hb);exact Ac q
theorem sH (m:Nat) {ks:List K} {a:Addr} {Q:Bool->Shared->Prop} (x:IsTupleKey knd s.heap ks a) (q:Q true s):wpAny (model prog w) A (eqIsQuiet (m+1) (.ref a)) Q E s:=by
 have ty:=x.typeIs;obtain⟨o,its,n,e,_,d,p⟩:=x;refine pN m ty e d (fun v hv Q' q'=>?_) q;rw[eqIsQuiet_byValue m (p.byValue v hv)];exact Ac q'
theorem Nst.each {h:Heap} {x:List (List K)} {vs:List Value} (p:Nst knd h x vs):∀v∈vs,∃k b,v=.ref b/\IsTupleKey knd h k b:=by
 induction p with
 | nil=>intro v hv;cases hv
 | cons p1 _ ih =>
  intro v hv;rcases Xd.mp hv with rfl|hv
  ·exact⟨_,_,rfl,p1⟩
  ·exact ih v hv
theorem y3 {ks:List (List K)} {a:Addr} {Q:Bool->Shared->Prop} (x:IsN knd s.heap ks a) (q:Q true s):wpAny (model prog w) A (eqIsQuiet 8 (.ref a)) Q E s:=by
 have ty:=x.ty;obtain⟨o,its,n,e,_,d,p⟩:=x;refine pN 7 ty e d (fun v hv Q' q'=>?_) q;obtain⟨k,b,rfl,z⟩:=p.each v hv;exact sH 6 z q'
theorem Jn {x y:List (List K)} {a b:Addr} {P:Fin->Shared->Prop} (hv:A.units<cLine) (p:IsN knd s.heap x a) (r:IsN knd s.heap y b) (q:P (.done (.ret (.bool (decide (x=y))))) s):wpAny (model prog w) A (Builtin.«tuple.__eq__» ⟨[.ref a,.ref b],[]⟩) P E s:=by
 have ty:=r.ty;obtain⟨o1,i1,n1,e1,_,d1,p1⟩:=p;obtain⟨o2,i2,n2,e2,_,d2,p2⟩:=r;show wpAny _ A (isInstance (.ref b) (.type "tuple") >>= fun z=>_) P E s;refine Aa (AK ty isSubtype_tuple_tuple ?_);simp only[Bool.not_true,We,if_false];refine Aa (BG e1 d1 (Aa (BG e2 d2 (Aa ?_))));refine AL _ (fun r c s'=>s'=s/\c.1=none/\∃x' y' u v,r=u.zip v/\Nst knd s.heap x' u/\Nst knd s.heap y' v/\(x'=y'↔x=y)/\(u.length=v.length↔i1.size=i2.size)) _ ?_ ?_ _ _ ⟨rfl,rfl,x,y,i1.toList,i2.toList,rfl,p1,p2,Iff.rfl,by rw[Qd,Qd]⟩
 ·rintro⟨g,g'⟩ r c s' ⟨rfl,_,x',y',u,v,ez,h1,h2,hx,hl⟩;cases h1 with
  | nil=>cases ez
  | @cons k1 ks1 c1 vs1 k1' t1 =>
   cases h2 with
   | nil=>cases ez
   | @cons k2 ks2 c2 vs2 k2' t2 =>
    cases ez;refine Aa (wpAny_eqBool_tuple hv k1' k2' ?_);by_cases c:k1=k2
    ·rw[Ag c,Af (by decide)]
     refine Ac ⟨rfl,rfl,ks1,ks2,vs1,vs2,rfl,t1,t2,?_,?_⟩
     ·rw[← hx,c];simp
     ·rw[← hl];simp
    ·have no:decide (x=y)=false:=Ad fun z=>c (List.cons.inj (hx.mpr z)).1;rw[no]at q;rw[Ad c,Ae (by decide)]
     exact Aa (Ac (Ac (Ac q)))
 ·rintro⟨c,_⟩ s' ⟨rfl,hc,x',y',u,v,ez,h1,h2,hx,hl⟩;cases (show c=none from hc);have fin:decide (i1.size=i2.size)=decide (x=y):=by
   rw[BT,← hl,← hx];cases h1 with
   | nil =>
    cases h2 with
    | nil=>simp
    | cons _ _=>simp
   | cons _ _ =>
    cases h2 with
    | nil=>simp
    | cons _ _=>cases ez
  rw[← fin]at q;refine Ac ?_;show P (.done (.ret (.bool (i1.size == i2.size)))) s';rw[show(i1.size == i2.size)=decide (i1.size=i2.size) from rfl];exact q
theorem Hi {x y:List (List K)} {a b:Addr} {Q:Bool->Shared->Prop} (hu:A.units<cLine) (hv:A.in1.units<cLine) (p:IsN knd s.heap x a) (r:IsN knd s.heap y b) (q:Q (decide (x=y)) s):wpAny (model prog w) A (eqBool (.ref a) (.ref b)) Q E s:=by
 unfold eqBool
 try with_reducible refine Au ?_
 by_cases c:a=b
 ·subst c;have:=p.one r;subst this;rw[Ag rfl]at q;rw[show(Value.ref a == Value.ref a)=true from by simp,Ae rfl]
  exact Aa (AF (Ac q))
 ·rw[show(Value.ref a == Value.ref b)=false from by simp[c],Af (by decide)]
  exact Aa (wpAny_richCompare_same_room (op:=.Eq) p.ty r.ty F.slot_tuple_eq (Am F.slot_tuple_eq p.ty F.entry_tuple_eq (Jn hv p r ⟨_,rfl,nofun,Av q⟩) (F.args_tuple_eq_2 _ _)) hu)
end
end VN
namespace L2
open PySem PySem.Spec PyProof.Rows VN
abbrev aN:=List Key ⊕ List (List Key)
section
variable {prog:Program} {w:World}
def Jo (h:Heap):aN->Addr->Prop
 | .inl ks,a=>IsTupleKey (aF prog w) h ks a
 | .inr ks,a=>ks≠[]/\IsN (aF prog w) h ks a
theorem vQ {ks:List Key} {vs:List Value} (p:ItemsAre (aF prog w) ks vs):∀v∈vs,(∃i t,v=.int i t)∨∃x t,v=.str x t:=by
 induction p with
 | nil=>intro v hv;cases hv
 | cons p1 _ ih =>
  intro v hv;rcases Xd.mp hv with rfl|hv
  ·rcases bu p1 with⟨i,t,_,e⟩|⟨x,t,_,e⟩
   ·exact .inl ⟨i,t,e⟩
   ·exact .inr ⟨x,t,e⟩
  ·exact ih v hv
theorem rp {h:Heap} {a:Addr} {x:List Key} {y:List (List Key)} (p:IsTupleKey (aF prog w) h x a) (q:y≠[]/\IsN (aF prog w) h y a):False:=by
 obtain⟨o1,i1,n1,e1,_,d1,p1⟩:=p;obtain⟨hy,o2,i2,n2,e2,_,d2,p2⟩:=q;rw[e1]at e2;cases e2;rw[d1]at d2;cases d2;have b:=vQ p1;cases hl:i1.toList with
 | nil =>
  rw[hl]at p2;cases p2;exact hy rfl
 | cons v r =>
  rw[hl]at p2 b;cases p2 with
  | cons _ _ =>
   rcases b _ (Wd ..) with⟨_,_,z⟩|⟨_,_,z⟩<;>cases z
theorem vR {A:Around} {s:Shared} {x:List Key} {y:List (List Key)} {a b:Addr} (hu:A.units<cLine) (hv:A.in1.units<cLine) (p:IsTupleKey (aF prog w) s.heap x a) (q:y≠[]/\IsN (aF prog w) s.heap y b):SeqAt.EqAt A s (.ref a) (.ref b) false/\SeqAt.EqAt A s (.ref b) (.ref a) false:=by
 have ne:a≠b:=fun z=>by subst z;exact rp p q
 obtain⟨o1,i1,n1,e1,c1,d1,p1⟩:=p;obtain⟨hy,o2,i2,n2,e2,c2,d2,p2⟩:=q;have t1:s.heap.IsTuple a i1:=⟨o1,e1,c1,n1,d1⟩;have t2:s.heap.IsTuple b i2:=⟨o2,e2,c2,n2,d2⟩;have b1:=vQ p1;have b2:=p2.each;have at1:∀j (h:j<i1.size),(∃i t,i1[j]=.int i t)∨∃x t,i1[j]=.str x t:=fun j h=>b1 _ (Ce h);have at2:∀j (h:j<i2.size),∃(c:Addr) (its:Array Value),i2[j]=.ref c/\s.heap.IsTuple c its:=fun j h=>by
  obtain⟨k,c,e,z⟩:=b2 _ (Ce h);obtain⟨o,its,n,e3,c3,d3,_⟩:=z;exact⟨c,its,e,o,e3,c3,n,d3⟩
 have n0:0<i2.size:=by
  have:=p2.len;rw[Qd]at this;rw[this];exact List.length_pos_iff.mpr hy
 have fin:∀(k m:Nat),0<m->((List.range (min k m)).all (fun _=>false)&&k == m)=false:=fun k m hm=>by
  by_cases c:k=0
  ·subst c;have:(0 == m)=false:=by rw[beq_eq_false_iff_ne];lia
   rw[this,Cc]
  ·rw[Bool.and_eq_false_iff];left;rw[List.all_eq_false];exact⟨0,Qb.mpr (by lia),by decide⟩
 constructor
 ·refine A3 ne ?_;rw[← fin i1.size i2.size n0];refine SeqAt.RcAt.tuples t1 t2 hu fun j h1 h2=>?_;obtain⟨c,its,e,t⟩:=at2 j h2;rw[e];rcases at1 j h1 with⟨i,tt,z⟩|⟨x,tt,z⟩<;>rw[z]
  ·exact SeqAt.EqAt.int_tuple _ _ t hv
  ·exact SeqAt.EqAt.str_tuple _ _ t hv
 ·refine A3 (Ne.symm ne) ?_;have fin2:((List.range (min i2.size i1.size)).all (fun _=>false)&&i2.size == i1.size)=false:=by
   rw[Nat.min_comm,show(i2.size == i1.size)=(i1.size == i2.size) from Bool.beq_comm ..];exact fin _ _ n0
  rw[← fin2];refine SeqAt.RcAt.tuples t2 t1 hu fun j h1 h2=>?_;obtain⟨c,its,e,t⟩:=at2 j h1;rw[e];rcases at1 j h2 with⟨i,tt,z⟩|⟨x,tt,z⟩<;>rw[z]
  ·exact SeqAt.EqAt.tuple_int _ _ t hv
  ·exact SeqAt.EqAt.tuple_str _ _ t hv
end
def iy (prog:Program) (w:World):HeapKind prog w aN where
 is:=Jo (prog:=prog) (w:=w)
 hash:=fun k=>match k with|.inl ks=>tupleKeyHash (aF prog w) ks|.inr ks=>vO (aF prog w) ks
 draws:=fun k=>match k with|.inl ks=>ks.length+1|.inr ks=>vP ks
 room:=fun A=>A.units<cLine/\A.in1.units<cLine
 inj:=fun {h a x y} p q=>by
  cases x with
  | inl x =>
   cases y with
   | inl y=>exact congrArg Sum.inl (IsTupleKey.inj (show IsTupleKey (aF prog w) h x a from p) (show IsTupleKey (aF prog w) h y a from q))
   | inr y=>exact(rp (show IsTupleKey (aF prog w) h x a from p) q).elim
  | inr x =>
   cases y with
   | inl y=>exact(rp (show IsTupleKey (aF prog w) h y a from q) p).elim
   | inr y=>exact congrArg Sum.inr (IsN.one (show IsN (aF prog w) h x a from p.2) (show IsN (aF prog w) h y a from q.2))
 keeps:=fun {h h' k a d o es ep} x ho hd hs=>by
  cases k with
  | inl k=>exact IsTupleKey.keeps (show IsTupleKey (aF prog w) h k a from x) ho hd hs
  | inr k=>exact⟨x.1,IsN.stay x.2 ho hd hs⟩
 pyHash:=fun {A E s k a Q} hu x q=>by
  cases k with
  | inl k=>exact wpAny_pyHash_tuple hu.1 (show IsTupleKey (aF prog w) s.heap k a from x) q
  | inr k=>exact Ep hu.1 hu.2 x.2 q
 eqBool:=fun {A E s x y a b Q} hu p r q=>by
  cases x with
  | inl x =>
   cases y with
   | inl y=>exact wpAny_eqBool_tuple hu.1 (show IsTupleKey (aF prog w) s.heap x a from p) (show IsTupleKey (aF prog w) s.heap y b from r) (by rw[show decide (x=y)=decide ((Sum.inl x:aN)=Sum.inl y) from by simp];exact q)
   | inr y=>exact(vR hu.1 hu.2 (show IsTupleKey (aF prog w) s.heap x a from p) r).1 _ _ _ _ (by rw[show decide ((Sum.inl x:aN)=Sum.inr y)=false from Ad nofun]at q;exact q)
  | inr x =>
   cases y with
   | inl y=>exact(vR hu.1 hu.2 (show IsTupleKey (aF prog w) s.heap y b from r) p).2 _ _ _ _ (by rw[show decide ((Sum.inr x:aN)=Sum.inl y)=false from Ad nofun]at q;exact q)
   | inr y=>exact Hi hu.1 hu.2 p.2 r.2 (by rw[show decide (x=y)=decide ((Sum.inr x:aN)=Sum.inr y) from by simp];exact q)
 quiet:=fun {A E s k a Q} x q=>by
  cases k with
  | inl k=>exact sH 7 (show IsTupleKey (aF prog w) s.heap k a from x) q
  | inr k=>exact y3 x.2 q
theorem iU {prog:Program} {w:World} {A:Around} (hu:A.units+2<cLine):(iy prog w).room A.in1:=⟨Xm hu,hu⟩
end L2
namespace L2
open PySem PySem.Spec PyProof.Rows
inductive V where
 | non|bl (b:Bool)|int (i:Int)|str (x:Str)|byt (b:Array UInt8)|flt (b:UInt64)|ref (a:Addr)|ty (n:String)
 deriving DecidableEq
def RelV:V->Value->Prop
 | .non,u=>u=Value.none
 | .bl b,u=>u=Value.bool b
 | .int i,u=>∃t,u=Value.int i t
 | .str x,u=>∃t,u=Value.str x t
 | .byt b,u=>∃t,u=Value.bytes b t
 | .flt b,u=>∃t,u=Value.float b t
 | .ref a,u=>u=Value.ref a
 | .ty n,u=>u=Value.type n
abbrev Vals:List V->List Value->Prop:=Paired RelV
theorem Vals.length {xs:List V} {us:List Value} (r:Vals xs us):xs.length=us.length:=Paired.length r
theorem Vals.get:∀{xs:List V} {us:List Value} {i:Nat} {x:V},Vals xs us->xs[i]?=some x->∃u,us[i]?=some u/\RelV x u
 | _,_,_,_,.nil,e=>by simp at e
 | _,_,0,_,.cons r _,e=>by simp at e;subst e;exact⟨_,rfl,r⟩
 | _,_,i+1,x,.cons _ t,e=>by
  obtain⟨u,h1,h2⟩:=Vals.get (i:=i) (x:=x) t (by simpa using e)
  exact⟨u,by simpa using h1,h2⟩
theorem Vals.set {x:V} {u:Value} (r:RelV x u):∀{xs:List V} {us:List Value} (i:Nat),Vals xs us->Vals (xs.set i x) (us.set i u)
 | _,_,_,.nil=>.nil
 | _,_,0,.cons _ t=>.cons r t
 | _,_,i+1,.cons q t=>.cons q (Vals.set r i t)
theorem Vals.append:∀{xs ys:List V} {us ws:List Value},Vals xs us->Vals ys ws->Vals (xs++ys) (us++ws)
 | _,_,_,_,.nil,s=>s
 | _,_,_,_,.cons r t,s=>.cons r (Vals.append t s)
theorem Vals.take:∀{xs:List V} {us:List Value} (n:Nat),Vals xs us->Vals (xs.take n) (us.take n)
 | _,_,0,_=>.nil
 | _,_,_+1,.nil=>.nil
 | _,_,n+1,.cons r t=>.cons r (Vals.take n t)
theorem Vals.drop:∀{xs:List V} {us:List Value} (n:Nat),Vals xs us->Vals (xs.drop n) (us.drop n)
 | _,_,0,r=>r
 | _,_,_+1,.nil=>.nil
 | _,_,n+1,.cons _ t=>Vals.drop n t
def RelO:Option V->Option Value->Prop
 | some v,some u=>RelV v u
 | none,none=>True
 | _,_=>False
def KV {κ:Type}:List (κ×V)->List (κ×Value)->Prop:=Paired fun(p:κ×V) (q:κ×Value)=>p.1=q.1/\RelV p.2 q.2
def kV:Key->V
 | .inl i=>.int i
 | .inr x=>.str x
inductive HO where
  | lst (xs:List V)
  | tup (xs:List V)
  | dK (kvs:List (Key×V))|dT (ep:Nat×List Addr) (kvs:List (aN×V))
  | set (S:Int->Bool) (n:Nat)
  | ins (C dx:Addr) (fs:List (Str×V))
  | own (x:Addr)
  | xd (fs:List (Str×V))
  | met (f x:Addr)
  | rng (lo hi:Int)
  | frz (o:Obj) (u:HO)
  | tbl (ps:Array Value)
  | ext (φ:Heap->Prop)
abbrev Hp:=Addr->Option HO
def TupK (H:Hp) (a:Addr):aN->Prop
 | .inl ks=>H a=some (.tup (ks.map kV))
 | .inr ks=>ks≠[]/\∃bs:List Addr,H a=some (.tup (bs.map V.ref))/\Paired (fun b k=>H b=some (.tup (List.map kV k))) bs ks
def upd (H:Hp) (a:Addr) (o:HO):Hp:=fun b=>if b=a then some o else H b
theorem aD {H:Hp} {a:Addr} {o:HO}:upd H a o a=some o:=by unfold upd;rw[Ae rfl]
theorem aB {H:Hp} {a b:Addr} {o:HO} (h:b≠a):upd H a o b=H b:=by unfold upd;rw[Af h]
theorem Dc {H:Hp} {a b:Addr} {o u:HO} (h:H a=some o) (h':H b=some u) (d:o≠u):a≠b:=by
 intro e;subst e;rw[h]at h';exact d (Option.some.inj h')
theorem aU {H:Hp} {a b:Addr} {o:HO} (h:H a=some o) (h':H b=none):a≠b:=by
 intro e;subst e;rw[h]at h';cases h'
section
variable (P:Program) (w:World)
def ObjOk (H:Hp) (h:Heap) (a:Addr):HO->Prop
 | .lst xs=>xs.length<=sizeLine/\∃(its:List Value) (n:Nat),Vals xs its/\h.get? a=some { cls:=.type "list",data:=.seq its.toArray n }
 | .tup xs=>xs.length<=sizeLine/\∃its:List Value,Vals xs its/\IsTup h a its.toArray
 | .dK kvs=>kvs.length<=sizeLine/\(a == sysModules)=false/\∃vs,KV kvs vs/\h.DictOf (aF P w) a vs
 | .dT ep kvs=>kvs.length<=sizeLine/\(a == sysModules)=false/\∃xs:List (aN×Addr×Value),
   Paired (fun(p:aN×V) (q:aN×Addr×Value)=>p.1=q.1/\TupK H q.2.1 p.1/\RelV p.2 q.2.2) kvs xs /\
   xs.map (·.2.1)=ep.2/\∃o es,h.get? a=some o/\o.ExactDict/\o.data=.dict es ep.1/\es.toList=xs.map (entryOfKey (iy P w))/\(xs.map (·.1)).Nodup
 | .set S n=>h.SetOf (intKind P w) a S n
 | .ins C dx fs=>H dx=some (.own a)/\fs.length<=1000/\dx≠a/\h.get? a=some (PySem.W.instObj C dx) /\
   ∃mA,h.Ns1 dx mA/\(∀f,RelO (fs.lookup f) (mA f))/\PySem.Within mA (fs.map (·.1))
 | .own _=>∃o,h.get? a=some o
 | .xd fs=>∃mA,h.Ns1 a mA/\∀f,RelO (fs.lookup f) (mA f)
 | .rng lo hi=>∃t u v,h.get? a=some { cls:=.type "range",data:=.fields #[.int lo t,.int hi u,.int 1 v] }
 | .frz o u=>h.get? a=some o/\ObjOk H h a u
 | .tbl ps=>h.get? a=some { cls:=.none,data:=.fields ps }
 | .met f x=>h.get? a=some (PySem.W.methodObj (.ref f) (.ref x))
 | .ext φ=>φ h/\(∃o,h.get? a=some o)/\∀h1 h2:Heap,φ h1->(∀o,h1.get? a=some o->h2.get? a=some o)->φ h2
def HOk (H:Hp) (h:Heap):Prop:=∀a o,H a=some o->ObjOk P w H h a o
end
section
variable {P:Program} {w:World} {H H':Hp} {h h':Heap} {a:Addr} {o:HO}
theorem ObjOk.lt (x:ObjOk P w H h a o):a<h.objs.size:=by
 cases o with
 | lst xs=>obtain⟨_,_,_,_,e⟩:=x;exact Ai e
 | tup xs=>obtain⟨_,_,_,p⟩:=x;exact p.lt
 | dK kvs=>obtain⟨_,_,_,_,o,_,_,e,_⟩:=x;exact Ai e
 | dT ep kvs=>obtain⟨_,_,_,_,_,o,_,e,_⟩:=x;exact Ai e
 | set S n=>obtain⟨o,_,_,_,e,_⟩:=x;exact Ai e
 | ins C dx fs=>obtain⟨_,_,_,e,_⟩:=x;exact Ai e
 | own y=>obtain⟨_,e⟩:=x;exact Ai e
 | xd fs=>obtain⟨_,⟨_,_,_,e,_⟩,_⟩:=x;exact Ai e
 | rng lo hi=>obtain⟨_,_,_,e⟩:=x;exact Ai e
 | frz ob u=>obtain⟨e,_⟩:=x;exact Ai e
 | tbl ps=>exact Ai (show h.get? a=some _ from x)
 | met f y=>exact Ai (show h.get? a=some _ from x)
 | ext φ=>obtain⟨_,⟨_,e⟩,_⟩:=x;exact Ai e
theorem Paired.mapP {α β:Type} {F G:α->β->Prop}:∀{l₁:List α} {l₂:List β},Paired F l₁ l₂->(∀a b,F a b->G a b)->Paired G l₁ l₂
 | _,_,.nil,_=>.nil
 | _,_,.cons r t,f=>.cons (f _ _ r) (Paired.mapP t f)
theorem TupK.stay (ht:∀b xs,H b=some (.tup xs)->H' b=some (.tup xs)):∀{k:aN},TupK H a k->TupK H' a k
 | .inl _,h=>ht _ _ h
 | .inr _,h=>let ⟨n,bs,e,r⟩:=h;⟨n,bs,ht _ _ e,Paired.mapP r fun _ _ z=>ht _ _ z⟩
theorem ObjOk.stay (x:ObjOk P w H h a o) (k:∀b u,(b=a∨H b=some (.own a))->h.get? b=some u->h'.get? b=some u)
  (ho:∀b,H b=some (.own a)->H' b=some (.own a)) (ht:∀b xs,H b=some (.tup xs)->H' b=some (.tup xs)):ObjOk P w H' h' a o:=by
 induction o with
 | lst xs=>obtain⟨z,its,n,r,e⟩:=x;exact⟨z,its,n,r,k _ _ (.inl rfl) e⟩
 | tup xs=>obtain⟨z,its,r,ob,e,c⟩:=x;exact⟨z,its,r,ob,k _ _ (.inl rfl) e,c⟩
 | dK kvs=>obtain⟨z,y,vs,r,ob,es,ep,e,c⟩:=x;exact⟨z,y,vs,r,ob,es,ep,k _ _ (.inl rfl) e,c⟩
 | dT ep kvs =>
  obtain⟨z,y,xs,r,ra,ob,es,e,c⟩:=x;exact⟨z,y,xs,Paired.mapP r fun p q z=>⟨z.1,TupK.stay ht z.2.1,z.2.2⟩,ra,ob,es,k _ _ (.inl rfl) e,c⟩
 | set S n=>obtain⟨ob,es,ep,t,e,c⟩:=x;exact⟨ob,es,ep,t,k _ _ (.inl rfl) e,c⟩
 | ins C dx fs =>
  obtain⟨d,z,ne,e,mA,⟨od,es,ep,e2,c⟩,r⟩:=x;exact⟨ho _ d,z,ne,k _ _ (.inl rfl) e,mA,⟨od,es,ep,k _ _ (.inr d) e2,c⟩,r⟩
 | own y=>obtain⟨ob,e⟩:=x;exact⟨ob,k _ _ (.inl rfl) e⟩
 | xd fs=>obtain⟨mA,⟨od,es,ep,e,c⟩,r⟩:=x;exact⟨mA,⟨od,es,ep,k _ _ (.inl rfl) e,c⟩,r⟩
 | rng lo hi=>obtain⟨t,u,v,e⟩:=x;exact⟨t,u,v,k _ _ (.inl rfl) e⟩
 | frz ob u ih=>obtain⟨e,q⟩:=x;exact⟨k _ _ (.inl rfl) e,ih q⟩
 | tbl ps =>
  have e:h.get? a=some { cls:=.none,data:=.fields ps }:=x;show h'.get? a=some { cls:=.none,data:=.fields ps };exact k a _ (.inl rfl) e
 | met f y =>
  have e:h.get? a=some (PySem.W.methodObj (.ref f) (.ref y)):=x;show h'.get? a=some (PySem.W.methodObj (.ref f) (.ref y));exact k a _ (.inl rfl) e
 | ext φ=>obtain⟨p,⟨o,e⟩,st⟩:=x;exact⟨st _ _ p fun o q=>k _ _ (.inl rfl) q,⟨o,k _ _ (.inl rfl) e⟩,st⟩
theorem HOk.lt (x:HOk P w H h) (e:H a=some o):a<h.objs.size:=(x a o e).lt
theorem HOk.fresh (x:HOk P w H h) (e:h.objs.size<=a):H a=none:=by
 cases q:H a with
 | none=>rfl
 | some u=>exact absurd (Zc (x.lt q) e) (Yh _)
theorem HOk.kept (x:HOk P w H h) (k:∀b u,h.get? b=some u->h'.get? b=some u):HOk P w H h':=fun a o e =>
 (x a o e).stay (fun b u _ q=>k b u q) (fun _ q=>q) fun _ _ q=>q
theorem HOk.laid (x:HOk P w H h) (k:∀b u,h.get? b=some u->h'.get? b=some u) (hp:h.objs.size<=a) (new:ObjOk P w (upd H a o) h' a o):HOk P w (upd H a o) h':=fun b u e=>by
 have hn:=x.fresh hp;by_cases hb:b=a
 ·subst hb;rw[aD]at e;cases e;exact new
 ·rw[aB hb]at e;exact(x b u e).stay (fun c v _ q=>k c v q) (fun c q=>by rw[aB (aU q hn)];exact q) fun c xs q=>by rw[aB (aU q hn)];exact q
end
def Rd (H:Hp) (a:Addr) (u:HO):Prop:=H a=some u∨∃o,H a=some (.frz o u)
theorem Rd.ok {P:Program} {w:World} {H:Hp} {h:Heap} {a:Addr} {u:HO} (r:Rd H a u) (x:HOk P w H h):ObjOk P w H h a u:=by
 rcases r with r|⟨o,r⟩
 ·exact x a u r
 ·obtain⟨_,q⟩:=x a _ r;exact q
def Hj:Option HO->Prop
 | some (.lst _)=>True
 | some (.dK _)=>True
 | some (.dT _ _)=>True
 | some (.set _ _)=>True
 | some (.ins _ _ _)=>True
 | some (.ext _)=>True
 | _=>False
section
variable {P:Program} {w:World} {H:Hp} {h h':Heap} {x e:Addr} {o':HO}
theorem HOk.write (ok:HOk P w H h) (mu:Hj (H x)) (he:e=x∨H e=some (.own x)) (k:∀b u,b≠e->h.get? b=some u->h'.get? b=some u) (heo:∃u,h'.get? e=some u)
  (new:ObjOk P w (upd H x o') h' x o'):HOk P w (upd H x o') h':=fun b u q=>by
 have nown:∀c y,H c=some (.own y)->c≠x:=fun c y r z=>by subst z;rw[r]at mu;exact mu
 have ntup:∀c xs,H c=some (.tup xs)->c≠x:=fun c xs r z=>by subst z;rw[r]at mu;exact mu
 by_cases hb:b=x
 ·subst hb;rw[aD]at q;cases q;exact new
 ·rw[aB hb]at q;by_cases hbe:b=e
  ·have q':H b=some (.own x):=by
    rcases he with z|z
    ·exact absurd (hbe.trans z) hb
    ·rw[hbe];exact z
   rw[q]at q';cases q';obtain⟨v,hv⟩:=heo;exact⟨v,by rw[hbe];exact hv⟩
  ·refine(ok b u q).stay (fun c v hc r=>k c v ?_ r) (fun c r=>by rw[aB (nown c b r)];exact r) fun c xs r=>by rw[aB (ntup c xs r)];exact r
   rcases hc with rfl|hc
   ·exact hbe
   ·rintro rfl;rcases he with z|z
    ·exact nown c b hc z
    ·rw[hc]at z;cases z;exact hb rfl
end
structure Un (fs ex:List Addr) (H H':Hp) (h h':Heap):Prop where
 keep:∀b o,h.get? b=some o->H b=none->b∉fs->b∉ex->h'.get? b=some o
 slot:∀b o,h.get? b=some o->H b=none->b∈fs->b∉ex->∃sl,h'.get? b=some { o with slots:=sl }
 free:∀b o,h.get? b=some o->H b=none->b∉ex->H' b=none
 there:∀b o,h.get? b=some o->b∉ex->∃o',h'.get? b=some o'
 tups:∀b xs,H b=some (.tup xs)->H' b=some (.tup xs)
 frzs:∀b o u,H b=some (.frz o u)->H' b=some (.frz o u)
 tbls:∀b ps,H b=some (.tbl ps)->∃more,H' b=some (.tbl (ps++more))
section
variable {fs fs' ex ex':List Addr} {H H1 H2:Hp} {h h1 h2 h':Heap} {a x e:Addr} {o:HO}
theorem Un.any (u:Un fs ex H H1 h h1) {b:Addr} {ob:Obj} (q:h.get? b=some ob) (n:H b=none) (hx:b∉ex):∃sl,h1.get? b=some { ob with slots:=sl }:=by
 by_cases hb:b∈fs
 ·exact u.slot b ob q n hb hx
 ·exact⟨ob.slots,u.keep b ob q n hb hx⟩
theorem Un.kept (k:∀b u,h.get? b=some u->h'.get? b=some u):Un fs ex H H h h' :=
 ⟨fun b ob q _ _ _=>k b ob q,fun b ob q _ _ _=>⟨ob.slots,k b ob q⟩,fun _ _ _ n _=>n,fun b ob q _=>⟨ob,k b ob q⟩,fun _ _ q=>q,fun _ _ _ q=>q,fun _ ps q=>⟨#[],by rw[q];simp⟩⟩
theorem Un.refl:Un fs ex H H h h:=Un.kept fun _ _ q=>q
theorem Un.laid (k:∀b u,h.get? b=some u->h'.get? b=some u) (hp:h.objs.size<=a) (hn:H a=none):Un fs ex H (upd H a o) h h' where
 keep:=fun b u q _ _ _=>k b u q
 slot:=fun b u q _ _ _=>⟨u.slots,k b u q⟩
 free:=fun b u q n _=>by rw[aB (Xf (Zc (Ai q) hp))];exact n
 there:=fun b u q _=>⟨u,k b u q⟩
 tups:=fun b xs q=>by rw[aB (aU q hn)];exact q
 frzs:=fun b u xs q=>by rw[aB (aU q hn)];exact q
 tbls:=fun b ps q=>⟨#[],by rw[aB (aU q hn),q];simp⟩
theorem Un.write (mu:Hj (H x)) (he:e=x∨H e=some (.own x)) (k:∀b u,b≠e->h.get? b=some u->h'.get? b=some u) (heo:∃u,h'.get? e=some u):Un fs ex H (upd H x o) h h':=by
 have hx:∀b,H b=none->b≠x:=fun b n z=>by subst z;rw[n]at mu;exact mu
 have hb:∀b,H b=none->b≠e:=fun b n z=>by
  subst z;rcases he with r|r
  ·exact hx b n r
  ·rw[n]at r;cases r
 have hm:∀b u,H b=some u->¬ Hj (some u)->b≠x:=fun b u q nm z=>by subst z;rw[q]at mu;exact nm mu
 refine⟨fun b u q n _ _=>k b u (hb b n) q,fun b u q n _ _=>⟨u.slots,k b u (hb b n) q⟩,fun b u q n _=>by rw[aB (hx b n)];exact n,fun b u q _=>?_,
  fun b xs q=>by rw[aB (hm b _ q fun z=>z)];exact q,fun b u xs q=>by rw[aB (hm b _ q fun z=>z)];exact q,fun b ps q=>⟨#[],by rw[aB (hm b _ q fun z=>z),q];simp⟩⟩
 by_cases hbe:b=e
 ·subst hbe;exact heo
 ·exact⟨u,k b u hbe q⟩
end
def Ja (h:Heap) (H:Hp):List Addr:=(List.range h.objs.size).filter fun a=>(H a).isSome
def oh (h:Heap) (H:Hp):Heap:=PySem.W.hideAll h (Ja h H)
theorem uJ (h:Heap) (H:Hp):(oh h H).objs.size=h.objs.size:=PySem.W.hideAll_size _ _
theorem vS {h:Heap} {H:Hp} {b:Addr} {o:Obj} (e:h.get? b=some o) (n:H b=none):(oh h H).get? b=some o :=
 PySem.W.hideAll_get _ e fun hm=>by
  have q:(H b).isSome=true:=(Zl.mp hm).2;rw[n]at q;simp at q
theorem y4 {h:Heap} {H:Hp} {b:Addr} {o:Obj} (e:(oh h H).get? b=some o):h.get? b=some o/\H b=none:=by
 have e':h.get? b=some o:=PySem.W.of_hideAll (Ja h H) e;refine⟨e',?_⟩;cases q:H b with
 | none=>rfl
 | some x =>
  have hm:b∈Ja h H:=Zl.mpr ⟨Qb.mpr (Ai e'),by simp[q]⟩
  have z:(oh h H).get? b=none:=PySem.W.hideAll_none (Ja h H) hm;rw[z]at e;cases e
end L2
namespace L2
open PySem PySem.Spec PyProof.Rows
structure Mod (K:PySem.W.Frag) (mg:Str->Option Value) (base:Heap):Prop where
 kin:K.In base
 glob:base.Ns mainGlobals mg
 blt:∃mb,base.Ns builtinsNs mb/\∀x:Str,x≠"__name__"->mb x=bootBuiltins x
 nolimit:base.NoLimit
structure Cx where
 prog:Program
 w:World
 K:PySem.W.Frag
 mg:Str->Option Value
 base:Heap
 A:Around
 N:List Str
 s₀:Shared
 H₀:Hp
 env:Env
 outer:List Env
 stack:List Env
 ex:List Addr
 fn:Str->Bool
 calm:Bool
 pn:List (Addr×Obj)
 xe:Value->Shared->Prop
def rq (l:List Env):List Addr:=l.filterMap (·.frame)
abbrev Cx.fs (X:Cx):List Addr:=rq X.outer
def Jp (sc:Scope) (x:Str):Prop:=sc.names.lookup x=some .local∨sc.names.lookup x=some .cell∨sc.names.lookup x=some .free
def Loc (sc:Scope) (x:Str):Prop:=sc.names.lookup x=some .local∨sc.names.lookup x=some .cell
def Look (env:Env) (h:Heap) (m:Str->Option Value) (x:Str) (u:Value):Prop :=
 (env.kindOf x=some .local/\m x=some u)∨((env.kindOf x=some .cell∨env.kindOf x=some .free)/\∃c,env.cells.lookup x=some c/\h.IsCell c (some u))
structure Cx.Ok (X:Cx):Prop where
 mod:Mod X.K X.mg X.base
 kind:X.env.scope.kind=.function
 glob:X.env.globals=mainGlobals
 blt:X.env.builtins=builtinsNs
 above:X.s₀.heap.objs.size<=X.env.locals
 inj:∀x y c,X.env.cells.lookup x=some c->X.env.cells.lookup y=some c->x=y
 has:∀x,(X.env.kindOf x=some .cell∨X.env.kindOf x=some .free)->∃c,X.env.cells.lookup x=some c
 cab:∀x c,X.fn x=true->X.env.cells.lookup x=some c->X.s₀.heap.objs.size<=c
 hd:X.calm=true->X.A.handled=none
 frames:X.A.frames=some X.stack
 stk:X.stack=X.outer∨(X.stack=X.env::X.outer/\X.env.frame=some X.env.locals)
 exf:∀b∈X.ex,b≠X.env.locals/\∀x c,X.env.cells.lookup x=some c->c≠b
 bs:∀b o,X.base.get? b=some o->X.s₀.heap.get? b=some o/\X.H₀ b=none
 bsz:X.base.objs.size<=X.s₀.heap.objs.size
 noex:∀b o,X.base.get? b=some o->b∉X.ex
 exfs:∀b∈X.ex,b∉X.fs
 funs:X.s₀.heap.FunFrames X.base X.outer
 frf:∀b∈X.fs,X.H₀ b=none
structure Inv (X:Cx) (pins:List (Addr×Obj)) (σ:List (Option V)) (H:Hp) (s:Shared):Prop where
 ok:X.Ok
 os:s.os=X.s₀.os
 bare:AllBare s.gens
 base:Un X.fs X.ex X.H₀ H X.s₀.heap s.heap
 loc:∃m,s.heap.Ns X.env.locals m/\∀(i:Nat) (x:Str) (v:V),X.N[i]?=some x->σ[i]?=some (some v)->Jp X.env.scope x->∃u,RelV v u/\Look X.env s.heap m x u
 cell:∀x c,X.env.cells.lookup x=some c->∃v,s.heap.IsCell c v
 free:H X.env.locals=none
 freeC:∀x c,X.env.cells.lookup x=some c->H c=none
 pin:∀p∈X.pn++pins,s.heap.get? p.1=some p.2/\H p.1=none/\p.1≠X.env.locals/\p.1∉X.fs/\∀v,p.2.data≠.cell v
 hok:HOk X.prog X.w H s.heap
 len:σ.length=X.N.length
 tk:0<s.toks
theorem Inv.tkl' {X:Cx} {pins:List (Addr×Obj)} {σ:List (Option V)} {H:Hp} {s:Shared} {n:Nat} (I:Inv X pins σ H s) (h:s.toks<=n):0<n:=Zc I.tk h
theorem Inv.tkl {X:Cx} {pins:List (Addr×Obj)} {σ:List (Option V)} {H:Hp} {s:Shared} {n:Nat} (h:s.toks<=n) (I:Inv X pins σ H s):0<n:=Zc I.tk h
section
variable {X:Cx} {pins:List (Addr×Obj)} {σ:List (Option V)} {H H':Hp} {s:Shared} {h':Heap}
theorem Cx.Ok.nofr (ok:X.Ok) {b:Addr} {o:Obj} (e:X.base.get? b=some o):b∉X.fs:=fun hb=>by
 have:=(ok.funs.mem hb).1;rw[e]at this;cases this
theorem Inv.bs (I:Inv X pins σ H s):∀b o,X.base.get? b=some o->s.heap.get? b=some o/\H b=none:=fun b o e =>
 ⟨I.base.keep b o (I.ok.bs b o e).1 (I.ok.bs b o e).2 (I.ok.nofr e) (I.ok.noex b o e),I.base.free b o (I.ok.bs b o e).1 (I.ok.bs b o e).2 (I.ok.noex b o e)⟩
theorem Inv.bk (I:Inv X pins σ H s):∀b o,X.base.get? b=some o->s.heap.get? b=some o:=fun b o e=>(I.bs b o e).1
theorem Inv.mod (I:Inv X pins σ H s):Mod X.K X.mg X.base:=I.ok.mod
theorem Inv.kIn (I:Inv X pins σ H s):X.K.In s.heap:=I.ok.mod.kin.keeps I.bk
theorem Inv.lt (I:Inv X pins σ H s):X.env.locals<s.heap.objs.size:=let ⟨_,hn,_⟩:=I.loc;hn.lt
theorem Inv.sz (I:Inv X pins σ H s):X.s₀.heap.objs.size<=s.heap.objs.size:=Ze I.ok.above (A0 I.lt)
theorem Inv.nofs (I:Inv X pins σ H s) {a:Addr} (h:s.heap.objs.size<=a):a∉X.fs:=fun hb=>by
 obtain⟨_,o,ho,_⟩:=I.ok.funs.mem hb;exact absurd (Zc (Ai ho) (Ze I.sz h)) (Yh _)
theorem Inv.cne (I:Inv X pins σ H s):∀x c,X.env.cells.lookup x=some c->c≠X.env.locals:=fun x c e z=>by
 obtain⟨v,o,ho,hd⟩:=I.cell x c e;obtain⟨m,⟨o',es,ep,ho',hd',_⟩,_⟩:=I.loc;rw[z,ho']at ho;cases ho;rw[hd']at hd;cases hd
theorem Inv.funs (I:Inv X pins σ H s):s.heap.FunFrames X.base X.outer:=by
 have all:∀(l:List Env),(∀b∈rq l,b∈X.fs)->X.s₀.heap.FunFrames X.base l->s.heap.FunFrames X.base l:=by
  intro l;induction l with
  | nil=>intro _ _;trivial
  | cons env r ih =>
   intro hs hl;obtain⟨hk,⟨L,o,hf,hn,ho,hd⟩,hr⟩:=hl;have hL:L∈X.fs:=hs L (by unfold rq;rw[BC,hf];exact Wd)
   obtain⟨sl,e⟩:=I.base.slot L o ho (I.ok.frf L hL) hL fun z=>I.ok.exfs L z hL;exact⟨hk,⟨L,_,hf,hn,e,hd⟩,ih (fun b hb=>hs b (by unfold rq;rw[BC,hf];exact Yc _ hb)) hr⟩
 exact all X.outer (fun _ hb=>hb) I.ok.funs
theorem Inv.stack (I:Inv X pins σ H s):s.heap.FunFrames X.base X.stack:=by
 rcases I.ok.stk with e|⟨e,hf⟩
 ·rw[e];exact I.funs
 ·rw[e];obtain⟨m,hn,_⟩:=I.loc;refine .cons (by rw[I.ok.kind];decide) hf hn ?_ I.funs
  exact Heap.get?_none_of_le (Ze I.ok.bsz I.ok.above)
theorem Inv.stkSub (I:Inv X pins σ H s):∀b∈rq X.stack,b∈X.env.locals::X.fs:=fun b hb=>by
 rcases I.ok.stk with e|⟨e,hf⟩
 ·rw[e]at hb;exact Yc _ hb
 ·rw[e]at hb;unfold rq at hb;rw[BC,hf]at hb;exact hb
theorem Inv.stkFree (I:Inv X pins σ H s):∀b∈rq X.stack,H b=none:=fun b hb=>by
 rcases Xd.mp (I.stkSub b hb) with e|hb
 ·rw[e];exact I.free
 ·obtain⟨_,o,ho,_⟩:=I.ok.funs.mem hb;exact I.base.free b o ho (I.ok.frf b hb) fun z=>I.ok.exfs b z hb
theorem Inv.step {g':Array GenState} {t':Nat} {d':Drawn} {ch:List Addr} (I:Inv X pins σ H s)
  (hch:∀b∈ch,(b∈X.ex∨X.s₀.heap.objs.size<=b)/\b≠X.env.locals/\(∀x c,X.env.cells.lookup x=some c->c≠b)/\∀p∈X.pn++pins,p.1≠b)
  (keep:∀b o,b≠X.env.locals->b∉X.fs->b∉ch->s.heap.get? b=some o->H b=none->h'.get? b=some o)
  (slot:∀b o,b≠X.env.locals->b∈X.fs->b∉ch->s.heap.get? b=some o->H b=none->∃sl,h'.get? b=some { o with slots:=sl }) (free:∀b o,b∉ch->s.heap.get? b=some o->H b=none->H' b=none)
  (there:∀b o,b∉ch->s.heap.get? b=some o->∃o',h'.get? b=some o')
  (tups:∀b xs,H b=some (.tup xs)->H' b=some (.tup xs)) (frzs:∀b o u,H b=some (.frz o u)->H' b=some (.frz o u)) (tbls:∀b ps,H b=some (.tbl ps)->∃more,H' b=some (.tbl (ps++more)))
  (ns:∀m,s.heap.Ns X.env.locals m->h'.Ns X.env.locals m) (hok:HOk X.prog X.w H' h') (hg:AllBare g') (ht:0<t':=by first|assumption|exact Wg _|exact Inv.tk (by assumption)|exact Inv.tkl (by assumption) (by assumption)|lia) :
  Inv X pins σ H' { s with heap:=h',gens:=g',drawn:=d',toks:=t' }:=by
 have neL:∀b o,X.s₀.heap.get? b=some o->b≠X.env.locals:=fun b o e=>Xf (Zc (Ai e) I.ok.above);have neC:∀b o,X.s₀.heap.get? b=some o->b∉X.ex->b∉ch:=fun b o e hx hb=>by
  rcases(hch b hb).1 with z|z
  ·exact hx z
  ·exact absurd (Zc (Ai e) z) (Yh _)
 have cellK:∀x c,X.env.cells.lookup x=some c->∀v,s.heap.IsCell c v->h'.IsCell c v:=fun x c e v ⟨o,ho,hd⟩=>by
  have nch:c∉ch:=fun z=>(hch c z).2.2.1 x c e rfl;by_cases hc:c∈X.fs
  ·obtain⟨sl,q⟩:=slot c o (I.cne x c e) hc nch ho (I.freeC x c e);exact⟨_,q,hd⟩
  ·exact⟨o,keep c o (I.cne x c e) hc nch ho (I.freeC x c e),hd⟩
 refine⟨I.ok,I.os,hg,⟨fun b o e n hb hx=>?_,fun b o e n hb hx=>?_,fun b o e n hx=>?_,fun b o e hx=>?_,fun b xs e=>tups b xs (I.base.tups b xs e),fun b o xs e=>frzs b o xs (I.base.frzs b o xs e),fun b ps e=>?_⟩,?_,fun x c e=>?_,?_,fun x c e=>?_,fun p hp=>?_,hok,I.len,ht⟩
 ·exact keep b o (neL b o e) hb (neC b o e hx) (I.base.keep b o e n hb hx) (I.base.free b o e n hx)
 ·obtain⟨sl,e1⟩:=I.base.slot b o e n hb hx;obtain⟨sl',e2⟩:=slot b _ (neL b o e) hb (neC b o e hx) e1 (I.base.free b o e n hx);exact⟨sl',e2⟩
 ·obtain⟨o',e1⟩:=I.base.there b o e hx;exact free b o' (neC b o e hx) e1 (I.base.free b o e n hx)
 ·obtain⟨o',e1⟩:=I.base.there b o e hx;exact there b o' (neC b o e hx) e1
 ·obtain⟨m1,e1⟩:=I.base.tbls b ps e;obtain⟨m2,e2⟩:=tbls b _ e1;exact⟨m1++m2,by rw[e2,Array.append_assoc]⟩
 ·obtain⟨m,hn,hl⟩:=I.loc;refine⟨m,ns m hn,fun i x v e1 e2 e3=>?_⟩;obtain⟨u,r,l⟩:=hl i x v e1 e2 e3;refine⟨u,r,?_⟩;rcases l with l|⟨k,c,e,z⟩
  ·exact .inl l
  ·exact .inr ⟨k,c,e,cellK x c e _ z⟩
 ·obtain⟨v,z⟩:=I.cell x c e;exact⟨v,cellK x c e v z⟩
 ·obtain⟨m,⟨o,_,_,ho,_⟩,_⟩:=I.loc;exact free _ o (fun z=>(hch _ z).2.1 rfl) ho I.free
 ·obtain⟨v,o,ho,hd⟩:=I.cell x c e;exact free c o (fun z=>(hch c z).2.2.1 x c e rfl) ho (I.freeC x c e)
 ·obtain⟨e,n,ne,nf,d⟩:=I.pin p hp;have nch:p.1∉ch:=fun z=>(hch p.1 z).2.2.2 p hp rfl;exact⟨keep p.1 p.2 ne nf nch e n,free p.1 p.2 nch e n,ne,nf,d⟩
theorem Inv.un {t':Nat} (I:Inv X pins σ H s) (u:Un X.fs [] H H' s.heap h') (hok:HOk X.prog X.w H' h') (ht:0<t':=by first|assumption|exact Wg _|exact Inv.tk (by assumption)|exact Inv.tkl (by assumption) (by assumption)|lia):Inv X pins σ H' { s with heap:=h',toks:=t' }:=by
 obtain⟨m,⟨o,es,ep,ho,r⟩,_⟩:=id I.loc;obtain⟨sl,hL⟩:=u.any ho I.free (by simp)
 exact I.step (g':=s.gens) (d':=s.drawn) (ch:=[]) (fun _ z=>nomatch z) (fun b o _ hb _ e n=>u.keep b o e n hb (by simp)) (fun b o _ hb _ e n=>u.slot b o e n hb (by simp)) (fun b o _ e n=>u.free b o e n (by simp)) (fun b o _ e=>u.there b o e (by simp)) u.tups u.frzs u.tbls (fun m' hm=>by
  obtain⟨o',es',ep',ho',r'⟩:=hm;rw[ho]at ho';cases ho'
  exact⟨_,es',ep',hL,r'⟩) hok I.bare
theorem Inv.call {g':Array GenState} {t':Nat} {d':Drawn} {ch:List Addr} (I:Inv X pins σ H s) (u:Un (rq X.stack) ch H H' s.heap h') (hok:HOk X.prog X.w H' h') (hg:AllBare g')
  (hch:∀b∈ch,(b∈X.ex∨X.s₀.heap.objs.size<=b)/\b≠X.env.locals/\(∀x c,X.env.cells.lookup x=some c->c≠b)/\∀p∈X.pn++pins,p.1≠b) (ht:0<t':=by first|assumption|exact Wg _|exact Inv.tk (by assumption)|exact Inv.tkl (by assumption) (by assumption)|lia) :
  Inv X pins σ H' { s with heap:=h',gens:=g',drawn:=d',toks:=t' }:=by
 obtain⟨m,⟨o,es,ep,ho,r⟩,_⟩:=id I.loc;obtain⟨sl,hL⟩:=u.any ho I.free fun z=>(hch _ z).2.1 rfl
 exact I.step (ch:=ch) hch (fun b o hL hb hc e n=>u.keep b o e n (fun z=>(Xd.mp (I.stkSub b z)).elim hL hb) hc) (fun b o _ _ hc e n=>u.any e n hc) (fun b o hc e n=>u.free b o e n hc) (fun b o hc e=>u.there b o e hc) u.tups u.frzs u.tbls (fun m' hm=>by
  obtain⟨o',es',ep',ho',r'⟩:=hm;rw[ho]at ho';cases ho'
  exact⟨_,es',ep',hL,r'⟩) hok hg
theorem Inv.turned {t':Nat} {it:Addr} (I:Inv X pins σ H s) (k:∀b o,b≠it->s.heap.get? b=some o->h'.get? b=some o) (hn:H it=none) (hL:it≠X.env.locals)
  (h1:it∈X.ex∨X.s₀.heap.objs.size<=it) (h2:∀x c,X.env.cells.lookup x=some c->c≠it) (h3:∀p∈X.pn++pins,p.1≠it) (ht:0<t':=by first|assumption|exact Wg _|exact Inv.tk (by assumption)|exact Inv.tkl (by assumption) (by assumption)|lia):Inv X pins σ H { s with heap:=h',toks:=t' }:=by
 have nit:∀b u,H b=some u->b≠it:=fun b u e z=>by rw[z,hn]at e;cases e
 refine I.step (g':=s.gens) (d':=s.drawn) (ch:=[it]) (fun b hb=>?_) (fun b o _ _ hc e _=>k b o (fun z=>hc (by simp[z])) e) (fun b o _ _ hc e _=>⟨o.slots,k b o (fun z=>hc (by simp[z])) e⟩) (fun _ _ _ _ n=>n)
  (fun b o hc e=>⟨o,k b o (fun z=>hc (by simp[z])) e⟩) (fun _ _ e=>e) (fun _ _ _ e=>e) (fun b ps e=>⟨#[],by rw[e];simp⟩) (fun m hm=>?_) (fun b u e=>?_) I.bare
 ·have e:b=it:=by simpa using hb
  subst e;exact⟨h1,hL,h2,h3⟩
 ·obtain⟨o,es,ep,ho,r⟩:=hm;exact⟨o,es,ep,k _ o (Ne.symm hL) ho,r⟩
 ·refine(I.hok b u e).stay (fun c v hc q=>k c v ?_ q) (fun _ q=>q) fun _ _ q=>q;rcases hc with z|z
  ·rw[z];exact nit b u e
  ·exact nit c _ z
theorem Inv.tok (I:Inv X pins σ H s) (t':Nat) (ht:0<t':=by first|assumption|exact Wg _|exact Inv.tk (by assumption)|exact Inv.tkl (by assumption) (by assumption)|lia):Inv X pins σ H { s with toks:=t' }:=I.un (h':=s.heap) (t':=t') Un.refl I.hok
theorem Inv.kept {t':Nat} (I:Inv X pins σ H s) (k:∀b u,s.heap.get? b=some u->h'.get? b=some u) (ht:0<t':=by first|assumption|exact Wg _|exact Inv.tk (by assumption)|exact Inv.tkl (by assumption) (by assumption)|lia):Inv X pins σ H { s with heap:=h',toks:=t' }:=I.un (Un.kept k) (I.hok.kept k)
theorem Inv.laid {a:Addr} {o:HO} {t':Nat} (I:Inv X pins σ H s) (k:∀b u,s.heap.get? b=some u->h'.get? b=some u) (hp:s.heap.objs.size<=a) (new:ObjOk X.prog X.w (upd H a o) h' a o) (ht:0<t':=by first|assumption|exact Wg _|exact Inv.tk (by assumption)|exact Inv.tkl (by assumption) (by assumption)|lia) :
  Inv X pins σ (upd H a o) { s with heap:=h',toks:=t' }:=I.un (Un.laid k hp (I.hok.fresh hp)) (I.hok.laid k hp new)
theorem Inv.write {x e:Addr} {o:HO} {t':Nat} (I:Inv X pins σ H s) (mu:Hj (H x)) (he:e=x∨H e=some (.own x)) (k:∀b u,b≠e->s.heap.get? b=some u->h'.get? b=some u) (heo:∃u,h'.get? e=some u)
  (new:ObjOk X.prog X.w (upd H x o) h' x o) (ht:0<t':=by first|assumption|exact Wg _|exact Inv.tk (by assumption)|exact Inv.tkl (by assumption) (by assumption)|lia):Inv X pins σ (upd H x o) { s with heap:=h',toks:=t' }:=I.un (Un.write mu he k heo) (I.hok.write mu he k heo new)
theorem Inv.weak {σ':List (Option V)} (I:Inv X pins σ H s) (hl:σ'.length=σ.length) (w:∀(i:Nat) v,σ'[i]?=some (some v)->σ[i]?=some (some v)):Inv X pins σ' H s :=
 ⟨I.ok,I.os,I.bare,I.base,let ⟨m,hn,hl'⟩:=I.loc;⟨m,hn,fun i x v e1 e2 e3=>hl' i x v e1 (w i v e2) e3⟩,I.cell,I.free,I.freeC,I.pin,I.hok,hl.trans I.len,I.tk⟩
theorem Inv.pins_of {pins':List (Addr×Obj)} (I:Inv X pins σ H s) (h:∀p∈pins',s.heap.get? p.1=some p.2/\H p.1=none/\p.1≠X.env.locals/\p.1∉X.fs/\∀v,p.2.data≠.cell v):Inv X pins' σ H s :=
 ⟨I.ok,I.os,I.bare,I.base,I.loc,I.cell,I.free,I.freeC,fun p hp=>(Vf.mp hp).elim (fun z=>I.pin p (Qm _ z)) (h p),I.hok,I.len,I.tk⟩
theorem pP {N:List Str} (hN:N.Nodup) {i j:Nat} {x:Str} (a:N[i]?=some x) (b:N[j]?=some x):i=j:=by
 obtain⟨h1,e1⟩:=Vb.mp a;obtain⟨h2,e2⟩:=Vb.mp b;exact(BW hN).mp (e1.trans e2.symm)
theorem uK {M:Model} {A:Around} {E:Value->Shared->Prop} {i:Nat} {x:Str} {v:V} {u:Value} {Q:Unit->Shared->Prop} (I:Inv X pins σ H s) (hN:X.N.Nodup) (hi:X.N[i]?=some x) (hx:Loc X.env.scope x) (r:RelV v u)
  (h:∀s',Inv X pins (σ.set i (some v)) H s'->(∃a,Heap.SameBut a s.heap s'.heap/\(a=X.env.locals∨X.env.cells.lookup x=some a))->(∃m,s'.heap.Ns X.env.locals m/\Look X.env s'.heap m x u)->Q () s') (hf:X.fn x=true∨X.env.scope.names.lookup x=some .local:=by first|exact .inl rfl|exact .inr rfl|assumption):wpAny M A (storeName X.env x u) Q E s:=by
 obtain⟨m,hn,hl⟩:=id I.loc;have hcls:(X.env.scope.kind == .class||(X.env.scope.kind == .module&&X.env.locals != X.env.globals))=false:=by rw[I.ok.kind];rfl
 have hiσ:i<σ.length:=by rw[I.len];exact(Vb.mp hi).1
 have cne:=I.cne;have tracked:∀{a:Addr} {h':Heap},(∃o,s.heap.get? a=some o/\H a=none)->Heap.SameBut a s.heap h'->HOk X.prog X.w H h':=fun {a h'} ha hs b ob e=>by
  obtain⟨_,_,hfree⟩:=ha;refine(I.hok b ob e).stay (fun c w' hc q=>(hs.2 c ?_).trans q) (fun _ q=>q) fun _ _ q=>q;rintro rfl;rcases hc with rfl|hc
  ·rw[hfree]at e;cases e
  ·rw[hfree]at hc;cases hc
 rcases hx with hk|hk
 ·refine wpAny_storeName_local hk hn (fun h' hn' hs=>?_) hcls;obtain⟨oL,_,_,hoL,_⟩:=id hn;refine h _ ⟨I.ok,I.os,I.bare,⟨fun b o e n hb hx=>?_,fun b o e n hb hx=>?_,I.base.free,fun b o e hx=>?_,I.base.tups,I.base.frzs,I.base.tbls⟩,⟨_,hn',fun j y v' e1 e2 e3=>?_⟩,fun y c e=>?_,I.free,I.freeC,fun p hp=>?_,tracked ⟨oL,hoL,I.free⟩ hs,by simpa using I.len,Wg _⟩ ⟨_,hs,.inl rfl⟩ ⟨_,hn',.inl ⟨hk,by simp⟩⟩
  ·exact(hs.2 b (Xf (Zc (Ai e) I.ok.above))).trans (I.base.keep b o e n hb hx)
  ·obtain⟨sl,e1⟩:=I.base.slot b o e n hb hx;exact⟨sl,(hs.2 b (Xf (Zc (Ai e) I.ok.above))).trans e1⟩
  ·obtain⟨o',e1⟩:=I.base.there b o e hx;exact⟨o',(hs.2 b (Xf (Zc (Ai e) I.ok.above))).trans e1⟩
  ·by_cases hj:j=i
   ·subst hj;rw[hi]at e1;cases e1;rw[Qk hiσ]at e2;cases e2;exact⟨u,r,.inl ⟨hk,by simp⟩⟩
   ·rw[Bx (Ne.symm hj)]at e2;obtain⟨u',r',q⟩:=hl j y v' e1 e2 e3;refine⟨u',r',?_⟩;rcases q with⟨k,e⟩|⟨k,c,e,z⟩
    ·refine .inl ⟨k,?_⟩;have:y≠x:=fun e=>hj (pP hN e1 (e ▸ hi));simp[this,e]
    ·exact .inr ⟨k,c,e,z.sameBut hs (cne y c e)⟩
  ·obtain⟨w',z⟩:=I.cell y c e;exact⟨w',z.sameBut hs (cne y c e)⟩
  ·obtain⟨e,n,ne,nf,d⟩:=I.pin p hp;exact⟨(hs.2 p.1 ne).trans e,n,ne,nf,d⟩
 ·have hfn:X.fn x=true:=by
   rcases hf with z|z
   ·exact z
   ·rw[z]at hk;cases hk
  obtain⟨c,hc⟩:=I.ok.has x (.inl hk);obtain⟨w',z⟩:=I.cell x c hc;refine wpAny_storeName_cell I.ok.kind hk hc z (fun h' hc' hs=>?_);obtain⟨oc,hoc,hocd⟩:=id z;refine h { s with heap:=h' } ⟨I.ok,I.os,I.bare,⟨fun b o e n hb hx=>?_,fun b o e n hb hx=>?_,I.base.free,fun b o e hx=>?_,I.base.tups,I.base.frzs,I.base.tbls⟩,⟨m,hn.sameBut hs (Ne.symm (cne x c hc)),fun j y v' e1 e2 e3=>?_⟩,fun y c' e=>?_,I.free,I.freeC,fun p hp=>?_,tracked ⟨oc,hoc,I.freeC x c hc⟩ hs,by simpa using I.len,I.tk⟩ ⟨c,hs,.inr hc⟩ ⟨m,hn.sameBut hs (Ne.symm (cne x c hc)),.inr ⟨.inl hk,c,hc,hc'⟩⟩
  ·exact(hs.2 b (Xf (Zc (Ai e) (I.ok.cab x c hfn hc)))).trans (I.base.keep b o e n hb hx)
  ·obtain⟨sl,e1⟩:=I.base.slot b o e n hb hx;exact⟨sl,(hs.2 b (Xf (Zc (Ai e) (I.ok.cab x c hfn hc)))).trans e1⟩
  ·obtain⟨o',e1⟩:=I.base.there b o e hx;exact⟨o',(hs.2 b (Xf (Zc (Ai e) (I.ok.cab x c hfn hc)))).trans e1⟩
  ·by_cases hj:j=i
   ·subst hj;rw[hi]at e1;cases e1;rw[Qk hiσ]at e2;cases e2;exact⟨u,r,.inr ⟨.inl hk,c,hc,hc'⟩⟩
   ·rw[Bx (Ne.symm hj)]at e2;obtain⟨u',r',q⟩:=hl j y v' e1 e2 e3;refine⟨u',r',?_⟩;rcases q with q|⟨k,c',e,z'⟩
    ·exact .inl q
    ·refine .inr ⟨k,c',e,z'.sameBut hs ?_⟩;rintro rfl;exact hj (pP hN e1 (I.ok.inj _ _ _ e hc ▸ hi))
  ·by_cases hcc:c'=c
   ·subst hcc;exact⟨_,hc'⟩
   ·obtain⟨w2,z2⟩:=I.cell y c' e;exact⟨w2,z2.sameBut hs hcc⟩
  ·obtain⟨e,n,ne,nf,d⟩:=I.pin p hp;refine⟨(hs.2 p.1 ?_).trans e,n,ne,nf,d⟩;intro q;rw[q,hoc]at e;have q':oc=p.2:=Option.some.inj e;exact d w' (by rw[← q'];exact hocd)
theorem vT {M:Model} {A:Around} {E:Value->Shared->Prop} {i:Nat} {x:Str} {v:V} {u:Value} {Q:Unit->Shared->Prop} (I:Inv X pins σ H s) (hN:X.N.Nodup) (hi:X.N[i]?=some x) (hx:Loc X.env.scope x) (r:RelV v u)
  (h:∀s',Inv X pins (σ.set i (some v)) H s'->Q () s') (hf:X.fn x=true∨X.env.scope.names.lookup x=some .local:=by first|exact .inl rfl|exact .inr rfl|assumption):wpAny M A (storeName X.env x u) Q E s :=
 uK I hN hi hx r (fun s' I' _ _=>h s' I') hf
theorem Inv.call' {s':Shared} {ch:List Addr} (I:Inv X pins σ H s) (ho:s'.os=s.os) (u:Un (rq X.stack) ch H H' s.heap s'.heap) (hok:HOk X.prog X.w H' s'.heap) (hg:AllBare s'.gens)
  (hch:∀b∈ch,(b∈X.ex∨X.s₀.heap.objs.size<=b)/\b≠X.env.locals/\(∀x c,X.env.cells.lookup x=some c->c≠b)/\∀p∈X.pn++pins,p.1≠b) (ht:0<s'.toks):Inv X pins σ H' s':=by
 obtain⟨h',g',d',t',o'⟩:=s';have e:o'=s.os:=ho;subst e;exact I.call (g':=g') (t':=t') (d':=d') u hok hg hch ht
end
abbrev XK:=Value->Option Addr->Hp->Prop
abbrev St:=List (Option V)
abbrev VK:=V->Hp->Prop
abbrev TE:=St->Hp->VK->Prop
abbrev TT:=St->Hp->(Bool->Hp->Prop)->Prop
abbrev TA:=St->Hp->(List V->Hp->Prop)->Prop
structure Ends where
 nx:St->Hp->Prop
 rt:VK
 bk:St->Hp->Prop:=fun _ _=>False
 ct:St->Hp->Prop:=fun _ _=>False
abbrev TS:=Ends->St->Hp->Prop
inductive EP (X:Cx) (pins:List (Addr×Obj)) (σ:St) (Q:VK) (u:Value) (s':Shared):Prop
 | mk (v:V) (H':Hp) (I:Inv X pins σ H' s') (r:RelV v u) (q:Q v H')
def TP (X:Cx) (pins:List (Addr×Obj)) (σ:St) (Q:Bool->Hp->Prop) (b:Bool) (s':Shared):Prop:=∃H',Inv X pins σ H' s'/\Q b H'
inductive AP (X:Cx) (pins:List (Addr×Obj)) (σ:St) (Q:List V->Hp->Prop) (us:List Value) (s':Shared):Prop
 | mk (vs:List V) (H':Hp) (I:Inv X pins σ H' s') (r:Vals vs us) (q:Q vs H')
def SP (X:Cx) (pins:List (Addr×Obj)) (D:Ends) (f:Flow) (s':Shared):Prop :=
 match f with
 | .next=>∃σ' H',Inv X pins σ' H' s'/\D.nx σ' H'
 | .brk=>∃σ' H',Inv X pins σ' H' s'/\D.bk σ' H'
 | .cont=>∃σ' H',Inv X pins σ' H' s'/\D.ct σ' H'
 | .ret u=>∃v σ' H',Inv X pins σ' H' s'/\RelV v u/\D.rt v H'
def PE (X:Cx) (e:Expr) (t:TE):Prop :=
 ∀(pins:List (Addr×Obj)) (s:Shared) (σ:St) (H:Hp) (Q:VK),Inv X pins σ H s->t σ H Q->wpAny (model X.prog X.w) X.A (eval e X.env) (EP X pins σ Q) X.xe s
def PT (X:Cx) (e:Expr) (t:TT):Prop :=
 ∀(pins:List (Addr×Obj)) (s:Shared) (σ:St) (H:Hp) (Q:Bool->Hp->Prop),Inv X pins σ H s->t σ H Q->wpAny (model X.prog X.w) X.A (isTrue e X.env (eval e X.env)) (TP X pins σ Q) X.xe s
def PW (X:Cx) (e:Expr) (t:TT):Prop :=
 ∀(whole:Sem Value) (pins:List (Addr×Obj)) (s:Shared) (σ:St) (H:Hp) (Q:Bool->Hp->Prop),Inv X pins σ H s->t σ H Q->wpAny (model X.prog X.w) X.A (isTrue e X.env whole) (TP X pins σ Q) X.xe s
theorem PW.pt {X:Cx} {e:Expr} {t:TT} (h:PW X e t):PT X e t:=h _
def PA (X:Cx) (es:List Expr) (t:TA):Prop :=
 ∀(pos:Pos) (pins:List (Addr×Obj)) (s:Shared) (σ:St) (H:Hp) (Q:List V->Hp->Prop),Inv X pins σ H s->t σ H Q->wpAny (model X.prog X.w) X.A (spliced (backTo pos (starEach es X.env))) (AP X pins σ Q) X.xe s
def PS (X:Cx) (st:Stmt) (t:TS):Prop :=
 ∀(pins:List (Addr×Obj)) (s:Shared) (σ:St) (H:Hp) (D:Ends),Inv X pins σ H s->t D σ H->wpAny (model X.prog X.w) X.A (exec st X.env) (SP X pins D) X.xe s
def PSs (X:Cx) (st:List Stmt) (t:TS):Prop :=
 ∀(pins:List (Addr×Obj)) (s:Shared) (σ:St) (H:Hp) (D:Ends),Inv X pins σ H s->t D σ H->wpAny (model X.prog X.w) X.A (execs st X.env) (SP X pins D) X.xe s
theorem bM {α:Type} {t:Sem α} {Q Q':α->Shared->Prop} {M:Model} {A:Around} {E:Value->Shared->Prop} {s:Shared} (h:wpAny M A t Q E s) (hQ:∀a s,Q a s->Q' a s):wpAny M A t Q' E s:=Az h hQ fun _ _ x=>x
end L2
namespace L2
open PySem PySem.Spec PyProof.Rows
section
variable {X:Cx}
def jm (i:Nat):TE:=fun σ H Q=>∃v,σ[i]?=some (some v)/\Q v H
def tC (v:V):TE:=fun _ H Q=>Q v H
theorem Et {i:Nat} {x:Str} {pos:Pos} (hN:X.N[i]?=some x) (hv:Jp X.env.scope x) (hd:(x == ("__debug__":Str))=false:=by decide) (hcd:(x == ("__classdict__":Str))=false:=by decide):PE X (.Name x pos) (jm i):=by
 intro pins s σ H Q I h;obtain⟨v,e,h⟩:=h;obtain⟨m,hn,hl⟩:=I.loc;obtain⟨u,r,l⟩:=hl i x v hN e hv;have fin:EP X pins σ Q u s:=⟨v,H,I,r,h⟩;rcases l with⟨hk,hm⟩|⟨hk,c,hc,hcell⟩
 ·exact wpAny_Name (wpAny_loadName_local I.ok.kind hk hn hm fin) hd
 ·rcases hk with hk|hk
  ·exact wpAny_Name (wpAny_loadName_cell I.ok.kind hk hc hcell fin) hd
  ·exact wpAny_Name (wpAny_loadName_free I.ok.kind hk hc hcell fin hcd) hd
theorem ah {i j pos}:PE X (.Constant (.int i) j pos) (tC (.int i)):=fun _ _ _ H _ I h=>wpAny_Constant_int ⟨.int i,H,I.tok _,⟨_,rfl⟩,h⟩
theorem jn {b j pos}:PE X (.Constant (.bool b) j pos) (tC (.bl b)):=fun _ _ _ H _ I h=>Constant_bool ⟨.bl b,H,I,rfl,h⟩
def Gl (X:Cx) (x:Str):Prop:=X.env.kindOf x=some .globalImplicit
theorem sI {E:Value->Shared->Prop} {pins:List (Addr×Obj)} {s:Shared} {σ:St} {H:Hp} {x:Str} {u:Value} {pos:Pos} {Q:Value->Shared->Prop} (I:Inv X pins σ H s) (hg:Gl X x) (hm:X.mg x=some u) (h:Q u s)
  (hd:(x == ("__debug__":Str))=false:=by decide):wpAny (model X.prog X.w) X.A (eval (.Name x pos) X.env) Q E s :=
 Cb I.ok.kind hg (Calls.loadGlobal_global (by rw[I.ok.glob];exact I.mod.glob.keeps I.bk) hm h) hd
theorem fI {E:Value->Shared->Prop} {pins:List (Addr×Obj)} {s:Shared} {σ:St} {H:Hp} {x:Str} {u:Value} {pos:Pos} {Q:Value->Shared->Prop} (I:Inv X pins σ H s) (hg:Gl X x) (hm:X.mg x=none) (hv:bootBuiltins x=some u) (h:Q u s)
  (hn:x≠"__name__":=by decide) (hd:(x == ("__debug__":Str))=false:=by decide):wpAny (model X.prog X.w) X.A (eval (.Name x pos) X.env) Q E s:=by
 obtain⟨mb,h1,h2⟩:=I.mod.blt;exact Cb I.ok.kind hg (Calls.loadGlobal_builtin (by rw[I.ok.glob];exact I.mod.glob.keeps I.bk) hm (by rw[I.ok.blt];exact h1.keeps I.bk) ((h2 x hn).trans hv) h) hd
theorem y6 {x:Str} {v:V} {u:Value} {pos:Pos} (hg:Gl X x) (hm:X.mg x=some u) (r:RelV v u) (hd:(x == ("__debug__":Str))=false:=by decide):PE X (.Name x pos) (tC v) :=
 fun _ _ _ H _ I h=>sI I hg hm ⟨v,H,I,r,h⟩ hd
theorem y7 {x:Str} {v:V} {u:Value} {pos:Pos} (hg:Gl X x) (hm:X.mg x=none) (hv:bootBuiltins x=some u) (r:RelV v u) (hn:x≠"__name__":=by decide) (hd:(x == ("__debug__":Str))=false:=by decide):PE X (.Name x pos) (tC v) :=
 fun _ _ _ H _ I h=>fI I hg hm hv ⟨v,H,I,r,h⟩ hn hd
variable {a b:Expr} {ta tb:TE} {pos:Pos}
def tB (t:TE):TT:=fun σ H Q=>t σ H fun x H1=>∃c,x=.bl c/\Q c H1
theorem oj {e:Expr} {t:TE} (h:PE X e t) (he:∀whole,isTrue e X.env whole=(do let v ← whole;standAt e.pos;holding [v] (truthy v)):=by intro _;rfl):PT X e (tB t):=by
 intro pins s σ H Q I hw;refine isTrue_plain (bM (h pins s σ H _ I hw) fun v s1 zz9=>?_) (he _);obtain⟨x,H1,I1,r1,q1⟩:=zz9;obtain⟨d,rfl,q⟩:=q1;cases r1;exact Av ⟨H1,I1,q⟩
variable {tA tB':TT} {rest:List Expr}
def Hk (t u:TT):TT:=fun σ H Q=>t σ H fun c H1=>if c=true then u σ H1 Q else Q false H1
def JO (t u:TT):TT:=fun σ H Q=>t σ H fun c H1=>if c=true then Q true H1 else u σ H1 Q
def Hl (t:TT):TT:=fun σ H Q=>t σ H fun c H1=>Q (!c) H1
theorem y8 (ha:PT X a tA):PW X (.BoolOp .And [a] pos) tA:=by
 intro wh pins s σ H Q I h;refine isTrue_and (bM (ha pins s σ H Q I h) fun c s1 e=>?_);cases c with
 | true=>exact isTrue_and_nil e
 | false=>exact e
theorem rz (ha:PT X a tA):PW X (.BoolOp .Or [a] pos) tA:=by
 intro wh pins s σ H Q I h;refine isTrue_or (bM (ha pins s σ H Q I h) fun c s1 e=>?_);cases c with
 | false=>exact isTrue_or_nil e
 | true=>exact e
theorem Eu (ha:PT X a tA) (hb:PW X (.BoolOp .And (b::rest) pos) tB'):PW X (.BoolOp .And (a::b::rest) pos) (Hk tA tB'):=by
 intro wh pins s σ H Q I h;refine isTrue_and (bM (ha pins s σ H _ I h) fun c s1 zz9=>?_);obtain⟨H1,I1,q1⟩:=zz9;cases c with
 | true=>exact hb wh pins s1 σ H1 Q I1 q1
 | false=>exact⟨H1,I1,q1⟩
theorem sJ (ha:PT X a tA) (hb:PW X (.BoolOp .Or (b::rest) pos) tB'):PW X (.BoolOp .Or (a::b::rest) pos) (JO tA tB'):=by
 intro wh pins s σ H Q I h;refine isTrue_or (bM (ha pins s σ H _ I h) fun c s1 zz9=>?_);obtain⟨H1,I1,q1⟩:=zz9;cases c with
 | true=>exact⟨H1,I1,q1⟩
 | false=>exact hb wh pins s1 σ H1 Q I1 q1
theorem ol (ha:PT X a tA):PT X (.UnaryOp .Not a pos) (Hl tA):=by
 intro pins s σ H Q I h;exact isTrue_not (ha pins s σ H (fun c H1=>Q (!c) H1) I h)
def Dd (ta tb:TE):TE:=fun σ H Q=>ta σ H fun x H1=>∃c,x=.bl c/\if c=true then tb σ H1 Q else Q (.bl false) H1
def De (ta:TE):TE:=fun σ H Q=>ta σ H fun x H1=>∃c,x=.bl c/\Q (.bl (!c)) H1
theorem Ev {op} {t:TE} (h:PE X a t):PE X (.BoolOp op [a] pos) t:=fun pins s σ H Q I hw=>BoolOp_one (h pins s σ H Q I hw)
theorem Ew (ha:PE X a ta) (hb:PE X (.BoolOp .And (b::rest) pos) tb):PE X (.BoolOp .And (a::b::rest) pos) (Dd ta tb):=by
 intro pins s σ H Q I h;refine BoolOp_and (bM (ha pins s σ H _ I h) fun v s1 zz9=>?_);obtain⟨x,H1,I1,r1,q1⟩:=zz9;obtain⟨c,rfl,q1⟩:=q1;cases r1;refine Av ?_;cases c with
 | true=>exact hb pins s1 σ H1 Q I1 q1
 | false=>exact⟨.bl false,H1,I1,rfl,q1⟩
theorem Ex (ha:PE X a ta):PE X (.UnaryOp .Not a pos) (De ta):=by
 intro pins s σ H Q I h;refine UnaryOp_ (bM (ha pins s σ H _ I h) fun v s1 zz9=>?_);obtain⟨x,H1,I1,r1,q1⟩:=zz9;obtain⟨c,rfl,q1⟩:=q1;cases r1;exact not_of (Av ⟨.bl (!c),H1,I1,rfl,q1⟩)
def JP (t:TT) (ta tb:TE):TE:=fun σ H Q=>t σ H fun c H1=>if c=true then ta σ H1 Q else tb σ H1 Q
theorem pQ {c:Expr} (hc:PT X c tA) (ha:PE X a ta) (hb:PE X b tb):PE X (.IfExp c a b pos) (JP tA ta tb):=by
 intro pins s σ H Q I h;refine wpAny_IfExp (bM (hc pins s σ H _ I h) fun d s1 zz9=>?_);obtain⟨H1,I1,q1⟩:=zz9;cases d with
 | true=>exact ha pins s1 σ H1 Q I1 q1
 | false=>exact hb pins s1 σ H1 Q I1 q1
end
end L2
namespace L2
open PySem PySem.Spec PyProof.Rows
def eY (K:PySem.W.Frag) (H:Hp) (a:Addr) (xs:List V):Prop :=
 Rd H a (.lst xs) ∨
  ∃(o:Obj) (its:Array Value) (n:Nat),K.lookup a=some o/\o.cls=.type "list"/\o.dict=none/\o.data=.seq its n/\its.size<=sizeLine/\Vals xs its.toList
def iz (K:PySem.W.Frag) (H:Hp) (a:Addr) (xs:List V):Prop :=
 Rd H a (.tup xs) ∨
  ∃(o:Obj) (its:Array Value) (n:Nat),K.lookup a=some o/\o.cls=.type "tuple"/\o.data=.seq its n/\its.size<=sizeLine/\Vals xs its.toList
def Jq:Value->Option V
 | .none=>some .non
 | .bool b=>some (.bl b)
 | .int i _=>some (.int i)
 | .str x _=>some (.str x)
 | .bytes b _=>some (.byt b)
 | .float b _=>some (.flt b)
 | .ref a=>some (.ref a)
 | .type n=>some (.ty n)
 | _=>none
theorem RelV.abs {x:V} {u:Value} (r:RelV x u):Jq u=some x:=by
 cases x with
 | non=>cases r;rfl
 | bl _=>cases r;rfl
 | int _=>obtain⟨t,rfl⟩:=r;rfl
 | str _=>obtain⟨t,rfl⟩:=r;rfl
 | byt _=>obtain⟨t,rfl⟩:=r;rfl
 | flt _=>obtain⟨t,rfl⟩:=r;rfl
 | ref _=>cases r;rfl
 | ty _=>cases r;rfl
theorem RelV.inj {x y:V} {u:Value} (r:RelV x u) (q:RelV y u):x=y:=Option.some.inj (r.abs.symm.trans q.abs)
theorem Vals.inj:∀{xs ys:List V} {us:List Value},Vals xs us->Vals ys us->xs=ys
 | _,_,_,.nil,.nil=>rfl
 | _,_,_,.cons r t,.cons r' t'=>by rw[r.inj r',Vals.inj t t']
section
variable {X:Cx} {pins:List (Addr×Obj)} {σ:St} {H:Hp} {s:Shared} {a:Addr} {xs ys:List V}
theorem Inv.list (I:Inv X pins σ H s) (h:eY X.K H a xs):∃its:List Value,Vals xs its/\PlainL s.heap a its.toArray/\xs.length<=sizeLine:=by
 rcases h with h|⟨o,its,n,hk,hc,hd,hs,hz,r⟩
 ·obtain⟨z,its,n,r,e⟩:=h.ok I.hok;exact⟨its,r,⟨_,n,e,rfl,rfl,rfl⟩,z⟩
 ·refine⟨its.toList,r,⟨o,n,I.kIn a o hk,hc,hd,by simpa using hs⟩,?_⟩
  have e:=r.length;simp only[Qd]at e;lia
theorem Inv.tuple (I:Inv X pins σ H s) (h:iz X.K H a xs):∃its:List Value,Vals xs its/\IsTup s.heap a its.toArray/\xs.length<=sizeLine:=by
 rcases h with h|⟨o,its,n,hk,hc,hs,hz,r⟩
 ·obtain⟨z,its,r,p⟩:=h.ok I.hok;exact⟨its,r,p,z⟩
 ·refine⟨its.toList,r,⟨o,I.kIn a o hk,hc,n,by simpa using hs⟩,?_⟩
  have e:=r.length;simp only[Qd]at e;lia
theorem Inv.list_inj (I:Inv X pins σ H s) (h:eY X.K H a xs) (h':eY X.K H a ys):xs=ys:=by
 obtain⟨its,r,⟨o,n,e,_,_,d⟩,_⟩:=I.list h;obtain⟨its',r',⟨o',n',e',_,_,d'⟩,_⟩:=I.list h';rw[e]at e';cases e';rw[d]at d';injection d' with d1 _;have:its=its':=by simpa using congrArg Array.toList d1
 subst this;exact r.inj r'
theorem Inv.tuple_inj (I:Inv X pins σ H s) (h:iz X.K H a xs) (h':iz X.K H a ys):xs=ys:=by
 obtain⟨its,r,⟨o,e,_,n,d⟩,_⟩:=I.tuple h;obtain⟨its',r',⟨o',e',_,n',d'⟩,_⟩:=I.tuple h';rw[e]at e';cases e';rw[d]at d';injection d' with d1 _;have:its=its':=by simpa using congrArg Array.toList d1
 subst this;exact r.inj r'
end
abbrev Cx.wish (X:Cx) (E:Value->Shared->Prop):Cx:={ X with xe:=E }
abbrev Cx.nox (X:Cx):Cx:=X.wish fun _ _=>False
theorem Cx.Ok.wish {X:Cx} (ok:X.Ok) (E:Value->Shared->Prop):(X.wish E).Ok :=
 ⟨ok.mod,ok.kind,ok.glob,ok.blt,ok.above,ok.inj,ok.has,ok.cab,ok.hd,ok.frames,ok.stk,ok.exf,ok.bs,ok.bsz,ok.noex,ok.exfs,ok.funs,ok.frf⟩
theorem Cx.Ok.unwish {X:Cx} {E:Value->Shared->Prop} (ok:(X.wish E).Ok):X.Ok :=
 ⟨ok.mod,ok.kind,ok.glob,ok.blt,ok.above,ok.inj,ok.has,ok.cab,ok.hd,ok.frames,ok.stk,ok.exf,ok.bs,ok.bsz,ok.noex,ok.exfs,ok.funs,ok.frf⟩
section
variable {X:Cx} {pins:List (Addr×Obj)} {σ:St} {H:Hp} {s:Shared} {E:Value->Shared->Prop}
theorem Inv.wish (I:Inv X pins σ H s) (E:Value->Shared->Prop):Inv (X.wish E) pins σ H s:=⟨I.ok.wish E,I.os,I.bare,I.base,I.loc,I.cell,I.free,I.freeC,I.pin,I.hok,I.len,I.tk⟩
theorem Inv.unwish (I:Inv (X.wish E) pins σ H s):Inv X pins σ H s:=⟨I.ok.unwish,I.os,I.bare,I.base,I.loc,I.cell,I.free,I.freeC,I.pin,I.hok,I.len,I.tk⟩
theorem SP.unwish {D:Ends} {f:Flow} {s':Shared} (h:SP (X.wish E) pins D f s'):SP X pins D f s':=by
 cases f with
 | next=>obtain⟨σ',H',I,q⟩:=h;exact⟨σ',H',I.unwish,q⟩
 | brk=>obtain⟨σ',H',I,q⟩:=h;exact⟨σ',H',I.unwish,q⟩
 | cont=>obtain⟨σ',H',I,q⟩:=h;exact⟨σ',H',I.unwish,q⟩
 | ret u=>obtain⟨v,σ',H',I,r,q⟩:=h;exact⟨v,σ',H',I.unwish,r,q⟩
theorem PSs.nox {st:List Stmt} {t:TS} (h:PSs X.nox st t):PSs X st t:=fun pins s σ H D I hw =>
 Az (h pins s σ H D (I.wish _) hw) (fun _ _ q=>q.unwish) fun _ _ z=>False.elim z
end
section
variable {X:Cx} {st:Stmt} {rest:List Stmt} {t u:TS} {e:Expr} {te:TE} {pos:Pos}
def lN:TS:=fun D σ H=>D.nx σ H
def lO (t u:TS):TS:=fun D σ H=>t { D with nx:=u D } σ H
theorem bV:PSs X [] lN:=fun _ _ σ H _ I h=>Bq ⟨σ,H,I,h⟩
theorem ag (h1:PS X st t) (h2:PSs X rest u):PSs X (st::rest) (lO t u):=by
 intro pins s σ H D I h;refine wpAny_execs_cons (bM (h1 pins s σ H { D with nx:=u D } I h) fun f s1 q=>?_);cases f with
 | next =>
  obtain⟨σ',H',I',q⟩:=q;exact h2 pins s1 σ' H' D I' q
 | ret v=>exact q
 | brk=>exact q
 | cont=>exact q
theorem au (h1:PS X st t):PSs X [st] t:=by
 intro pins s σ H D I h;refine wpAny_execs_cons (bM (h1 pins s σ H D I h) fun f s1 q=>?_);cases f with
 | next=>exact Bq q
 | ret v=>exact q
 | brk=>exact q
 | cont=>exact q
theorem Inv.quiet {pins:List (Addr×Obj)} {σ:St} {H:Hp} {s:Shared} (I:Inv X pins σ H s):interactive X.env=false:=by simp[interactive,I.ok.kind]
def vU (te:TE):TS:=fun D σ H=>te σ H fun _ H1=>D.nx σ H1
theorem cc (he:PE X e te) (hs:swapsWith e none pos.line X.env=pure false:=by rfl):PS X (.Expr e pos) (vU te):=by
 intro pins s σ H D I h;exact wpAny_Expr_any (bM (he pins s σ H _ I h) fun v s1 ⟨x,H1,I1,r1,q1⟩=>⟨σ,H1,I1,q1⟩) I.quiet hs
def Hm (te:TE):TS:=fun D σ H=>te σ H D.rt
theorem bq (he:PE X e te):PS X (.Return (some e) pos) (Hm te):=by
 intro pins s σ H D I h;exact wpAny_Return_some (bM (he pins s σ H _ I h) fun v s1 ⟨x,H1,I1,r1,q1⟩=>⟨x,σ,H1,I1,r1,q1⟩)
def rA (c:TT) (t u:TS):TS:=fun D σ H=>c σ H fun b H1=>if b=true then t D σ H1 else u D σ H1
theorem cZ {c:Expr} {a b:List Stmt} {tc:TT} (hc:PT X c tc) (ha:PSs X a t) (hb:PSs X b u):PS X (.If c a b pos) (rA tc t u):=by
 intro pins s σ H D I h;refine wpAny_If (bM (hc pins s σ H _ I h) fun d s1 zz9=>?_);obtain⟨H1,I1,q1⟩:=zz9;cases d with
 | true=>exact ha pins s1 σ H1 D I1 q1
 | false=>exact hb pins s1 σ H1 D I1 q1
end
abbrev TG:=V->St->Hp->(St->Hp->Prop)->Prop
abbrev Df:=List V->St->Hp->(St->Hp->Prop)->Prop
def PG (X:Cx) (target:Expr) (t:TG):Prop :=
 ∀(pins:List (Addr×Obj)) (s:Shared) (σ:St) (H:Hp) (v:V) (u:Value) (Q:St->Hp->Prop),Inv X pins σ H s->RelV v u->t v σ H Q ->
  wpAny (model X.prog X.w) X.A (assign target X.env u) (fun _ s'=>∃σ' H',Inv X pins σ' H' s'/\Q σ' H') X.xe s
def Hn (X:Cx) (ts:List Expr) (t:Df):Prop :=
 ∀(pins:List (Addr×Obj)) (s:Shared) (σ:St) (H:Hp) (vs:List V) (us:List Value) (Q:St->Hp->Prop),Inv X pins σ H s->Vals vs us->t vs σ H Q ->
  wpAny (model X.prog X.w) X.A (assignInOrder ((assignEach ts X.env).map (·.2)) us) (fun _ s'=>∃σ' H',Inv X pins σ' H' s'/\Q σ' H') X.xe s
abbrev vV:=V->V->V->Hp->(Hp->Prop)->Prop
def Ey (X:Cx) (t:vV):Prop :=
 ∀(pins:List (Addr×Obj)) (s:Shared) (σ:St) (H:Hp) (o i v:V) (ov iv u:Value) (Q:Hp->Prop),Inv X pins σ H s->RelV o ov->RelV i iv->RelV v u->t o i v H Q ->
  wpAny (model X.prog X.w) X.A (setItem ov iv u) (fun _ s'=>∃H',Inv X pins σ H' s'/\Q H') X.xe s
section
variable {X:Cx} {pos:Pos}
def kG (i:Nat):TG:=fun v σ H Q=>Q (σ.set i (some v)) H
theorem sK {i:Nat} {x:Str} (hN:X.N.Nodup) (hi:X.N[i]?=some x) (hx:Loc X.env.scope x) (hf:X.fn x=true∨X.env.scope.names.lookup x=some .local:=by first|exact .inl rfl|exact .inr rfl|assumption):PG X (.Name x pos) (kG i):=by
 intro pins s σ H v u Q I r h;exact wpAny_assign_Name (vT I hN hi hx r (fun s' I'=>⟨_,H,I',h⟩) hf)
def Ho:Df:=fun vs σ H Q=>vs=[]/\Q σ H
def Dg (t:TG) (u:Df):Df:=fun vs σ H Q=>∃v r,vs=v::r/\t v σ H fun σ' H'=>u r σ' H' Q
theorem om:Hn X [] Ho:=by
 intro pins s σ H vs us Q I r h;obtain⟨e,h⟩:=h;subst e;cases r;exact assignInOrder_nil ⟨σ,H,I,h⟩
theorem eZ {e:Expr} {es:List Expr} {t:TG} {u:Df} (h1:PG X e t) (h2:Hn X es u)
  (hs:(assignEach (e::es) X.env).map (·.2)=assign e X.env::(assignEach es X.env).map (·.2):=by rfl):Hn X (e::es) (Dg t u):=by
 intro pins s σ H vs us Q I r h;obtain⟨v,vr,e1,h⟩:=h;subst e1;cases r with
 | cons r rr =>
  rw[hs];refine assignInOrder_cons (bM (h1 pins s σ H _ _ _ I r h) fun _ s1 zz9=>?_);obtain⟨σ1,H1,I1,q1⟩:=zz9;exact h2 pins s1 σ1 H1 _ _ Q I1 rr q1
def Ez (K:PySem.W.Frag) (n:Nat) (t:Df):TG:=fun v σ H Q=>∃a xs,v=.ref a/\iz K H a xs/\xs.length=n/\t xs σ H Q
theorem EA {es:List Expr} {k:Nat} {t:Df} {n:Nat} (hc:X.calm=true) (h:Hn X es t)
  (hn:(assignEach es X.env).length=n:=by rfl) (hst:(assignEach es X.env).findIdx? (·.1)=none:=by rfl):PG X (.Tuple es k pos) (Ez X.K n t):=by
 intro pins s σ H v u Q I r hw;obtain⟨a,xs,e1,hq,hl,hw⟩:=hw;subst e1;cases r;obtain⟨its,rv,ht,hz⟩:=I.tuple hq;refine assign_Tuple_tuple (I.ok.hd hc) ht (by simp[hn,← hl,rv.length]) hst fun h' hx=>?_
 have I1:Inv X pins σ H { s with heap:=h' }:=I.kept (t':=s.toks) fun b o e=>hx b o (Xf (Ai e)) e;exact h pins _ σ H xs _ Q I1 (by simpa using rv) hw
def Hq (to ti:TE) (t:vV):TG:=fun v σ H Q=>to σ H fun o H1=>ti σ H1 fun i H2=>t o i v H2 fun H3=>Q σ H3
theorem eK {o i:Expr} {to ti:TE} {t:vV} (ho:PE X o to) (hi:PE X i ti) (hs:Ey X t)
  (ha:∀v,assign (.Subscript o i pos) X.env v=(do
   let ov ← holding [v] (eval o X.env)
   let iv ← holding [v,ov] (eval i X.env)
   standAt pos
   holding [v,ov,iv] (setItem ov iv v)
   release [v,ov,iv] []):=by intro _;rfl):PG X (.Subscript o i pos) (Hq to ti t):=by
 intro pins s σ H v u Q I r h;rw[ha];refine Aa (Au (bM (ho pins s σ H _ I h) fun ov s1 zz9=>?_));obtain⟨x,H1,I1,r1,q1⟩:=zz9;refine Aa (Au (bM (hi pins s1 σ H1 _ I1 q1) fun iv s2 zz9=>?_));obtain⟨y,H2,I2,r2,q2⟩:=zz9;refine Aa (wpAny_standAt (Aa (Au (bM (hs pins s2 σ H2 x y v ov iv u _ I2 r1 r2 r q2) fun _ s3 zz9=>?_))));obtain⟨H3,I3,q3⟩:=zz9;exact wpAny_release ⟨σ,H3,I3,q3⟩
def uL (te:TE) (g:TG):TS:=fun D σ H=>te σ H fun x H1=>g x σ H1 D.nx
theorem df {tg e:Expr} {te:TE} {g:TG} (he:PE X e te) (hg:PG X tg g) (hs:swapsWithSole [tg] e pos.line X.env=pure false:=by rfl) (hw:swappedStores [tg] e X.env=pure none:=by rfl)
  (h1:(assignEach [tg] X.env).map (·.2)=[assign tg X.env]:=by rfl):PS X (.Assign [tg] e pos) (uL te g):=by
 intro pins s σ H D I h;refine wpAny_Assign_stores (bM (he pins s σ H _ I h) fun v s1 zz9=>?_) hs hw;obtain⟨x,H1,I1,r1,q1⟩:=zz9;rw[h1];exact bM (hg pins s1 σ H1 x v _ I1 r1 q1) fun _ s2 q=>q
end
section
variable {X:Cx} {pos:Pos}
def vW (c:TT) (tb:TS):TS:=fun D σ H=>∃W:Nat->St->Hp->Prop,(∃m,W m σ H)/\∀m σ H,W m σ H ->
 c σ H fun b H1=>if b=true then ∃N:St->Hp->Prop,(∀σ' H',N σ' H'->∃m',m'<m/\W m' σ' H')/\tb { D with nx:=N,ct:=N,bk:=D.nx } σ H1 else D.nx σ H1
theorem pR {c:Expr} {body:List Stmt} {tc:TT} {tb:TS} (hp:PassesOwn (model X.prog X.w) X.A X.env X.xe) (hc:PT X c tc) (hb:PSs X body tb):PS X (.While c body [] pos) (vW tc tb):=by
 intro pins s σ H D I h;obtain⟨W,⟨m0,w0⟩,turn⟩:=h;refine wpAny_While (codeAny_whileLoop (fun n s'=>∃σ' H',Inv X pins σ' H' s'/\W n σ' H') ?_ m0 ⟨σ,H,I,w0⟩);rintro n s1 ⟨σ1,H1,I1,w1⟩;refine AC hp (bM (hc pins s1 σ1 H1 _ I1 (turn n σ1 H1 w1)) fun b s2 zz9=>?_);obtain⟨H2,I2,q2⟩:=zz9;cases b with
 | true =>
  obtain⟨N,hN,q2⟩:=q2;rw[Ae rfl];refine AC hp (bM (hb pins s2 σ1 H2 _ I2 q2) fun f s3 q3=>?_);cases f with
  | next =>
   obtain⟨σ3,H3,I3,n3⟩:=q3;obtain⟨m',hm,w3⟩:=hN σ3 H3 n3;exact⟨m',hm,σ3,H3,I3,w3⟩
  | cont =>
   obtain⟨σ3,H3,I3,n3⟩:=q3;obtain⟨m',hm,w3⟩:=hN σ3 H3 n3;exact⟨m',hm,σ3,H3,I3,w3⟩
  | brk=>exact q3
  | ret v=>exact q3
 | false =>
  rw[Af Qc];exact Bq ⟨σ1,H2,I2,q2⟩
end
structure It where
 go:Nat->Hp->Prop
 yld:Nat->Hp->V->Hp->Prop
 stop:Nat->Hp->Prop
def jX (X:Cx) (pins:List (Addr×Obj)) (H:Hp) (b:Addr):Prop :=
 H b=none/\b≠X.env.locals/\b∉X.fs/\(b∈X.ex∨X.s₀.heap.objs.size<=b)/\(∀x c,X.env.cells.lookup x=some c->c≠b)/\∀p∈X.pn++pins,p.1≠b
theorem Inv.fpOk {X:Cx} {pins:List (Addr×Obj)} {σ:St} {H H':Hp} {s:Shared} {b:Addr} (I:Inv X pins σ H s) (hb:s.heap.objs.size<=b) (hn:H' b=none):jX X pins H' b:=by
 refine⟨hn,AZ (Zc I.lt hb),I.nofs hb,.inr (Ze I.sz hb),fun x c e z=>?_,fun p hp z=>?_⟩
 ·obtain⟨v,q⟩:=I.cell x c e;exact absurd (Zc q.lt (by rw[z];exact hb)) (Yh _)
 ·exact absurd (Zc (Ai (I.pin p hp).1) (by rw[z];exact hb)) (Yh _)
structure Turn (P:Program) (w:World) (K:PySem.W.Frag) (tg:Expr) (J:It) (fp:List Addr) (it:Addr) (tn:Nat->Heap->Prop):Prop where
 mem:it∈fp
 obj:∀i h,tn i h->∀b∈fp,∃o,h.get? b=some o/\∀v,o.data≠.cell v
 keep:∀i h h',tn i h->(∀b∈fp,∀o,h.get? b=some o->h'.get? b=some o)->tn i h'
 item:∀(X:Cx),X.prog=P->X.w=w->X.K=K->X.calm=true->∀(i:Nat) (pins:List (Addr×Obj)) (s:Shared) (σ:St) (H:Hp) (E:Value->Shared->Prop),Inv X pins σ H s->(∀b∈fp,jX X pins H b)->tn i s.heap->J.go i H ->
  wpAny (model P w) X.A (pyNext (.ref it)) (fun r s1=>∃u,r=some u /\
   wpAny (model P w) X.A (letOwnedTupleGo tg (.ref it) u) (fun _ s2=>∃x H',Inv X pins σ H' s2/\RelV x u/\J.yld i H x H'/\tn (i+1) s2.heap/\∀b∈fp,H' b=none) E s1) E s
 done:∀(X:Cx),X.prog=P->X.w=w->X.K=K->X.calm=true->∀(i:Nat) (pins:List (Addr×Obj)) (s:Shared) (σ:St) (H:Hp) (E:Value->Shared->Prop),Inv X pins σ H s->(∀b∈fp,jX X pins H b)->tn i s.heap->J.stop i H ->
  wpAny (model P w) X.A (pyNext (.ref it)) (fun r s1=>r=none/\Inv X pins σ H s1) E s
 self:∀(A:Around) (i:Nat) (s:Shared) (Q:Value->Shared->Prop) (E:Value->Shared->Prop),tn i s.heap->Q (.ref it) s->wpAny (model P w) A (pyIter (.ref it)) Q E s
abbrev TI:=St->Hp->(It->Hp->Prop)->Prop
inductive PIE (X:Cx) (pins:List (Addr×Obj)) (σ:St) (tg:Expr) (R:It->Hp->Prop) (itv:Value) (s2:Shared):Prop
 | mk (it:Addr) (fp:List Addr) (tn:Nat->Heap->Prop) (J:It) (H':Hp) (e:itv=.ref it) (I:Inv X pins σ H' s2) (T:Turn X.prog X.w X.K tg J fp it tn) (t0:tn 0 s2.heap) (fo:∀b∈fp,jX X pins H' b) (r:R J H')
def PI (X:Cx) (tg iter:Expr) (wi:TI):Prop :=
 ∀(pins:List (Addr×Obj)) (s:Shared) (σ:St) (H:Hp) (R:It->Hp->Prop),Inv X pins σ H s->wi σ H R ->
  wpAny (model X.prog X.w) X.A (eval iter X.env) (fun v s1=>wpAny (model X.prog X.w) X.A (pyIter v) (PIE X pins σ tg R) X.xe s1) X.xe s
theorem lP {M : Model} {A : Around} {E : Value → Shared → Prop} {s : Shared} {tg : Expr} {it : Addr} {u : Value} {o : Obj} {n : String} {vs : Array Value} {Q : Unit → Shared → Prop} (ho : s.heap.get? it = some o) (hc : o.cls = .type n) (hd : o.data = .fields vs)
    (hn : ["enumerate", "zip", "dict_itemiterator", "dict_reverseitemiterator", "odict_iterator", "itertools.zip_longest", "itertools.pairwise"].contains n = false) (hQ : Q () s) : wpAny M A (letOwnedTupleGo tg (.ref it) u) Q E s := by
  unfold letOwnedTupleGo;cases tg <;> first
    | exact Ac hQ
    | (cases u <;> first
        | exact Ac hQ
        | (refine Aa (wpAny_load ho ?_)
           rw [hc, hd];show wpAny M A (if (["enumerate", "zip", "dict_itemiterator", "dict_reverseitemiterator", "odict_iterator", "itertools.zip_longest", "itertools.pairwise"].contains n && vs[0]? == some (rawInt _)) = true then _ else _) Q E s;rw [Af (by intro h; rw [hn, Bool.false_and] at h; cases h)]
           exact Ac hQ))
def JQ (K:PySem.W.Frag) (a:Addr):It :=
 ⟨fun i H=>∃xs x,eY K H a xs/\xs[i]?=some x,fun i H x H'=>H'=H/\∀xs,eY K H a xs->xs[i]?=some x,fun i H=>∃xs,eY K H a xs/\xs.length<=i⟩
def JR (K:PySem.W.Frag) (a:Addr):It :=
 ⟨fun i H=>∃xs x,iz K H a xs/\xs[i]?=some x,fun i H x H'=>H'=H/\∀xs,iz K H a xs->xs[i]?=some x,fun i H=>∃xs,iz K H a xs/\xs.length<=i⟩
def Jb (lo:Int) (n:Nat):It:=⟨fun i _=>i<n,fun i H x H'=>H'=H/\x=.int (lo+i),fun i _=>n<=i⟩
theorem uM {P:Program} {w:World} {K:PySem.W.Frag} {tg:Expr} (a it:Addr):Turn P w K tg (JQ K a) [it] it (fun i h=>h.IsListIter it a i) where
 mem:=by simp
 obj:=fun i h st b hb=>by
  have e:b=it:=by simpa using hb
  subst e;obtain⟨o,e,c,d⟩:=st;exact⟨o,e,fun v z=>by rw[d]at z;cases z⟩
 keep:=fun i h h' st k=>st.at fun o e=>k it (by simp) o e
 item:=by
  intro X hP hw hK hc i pins s σ H E I hf st hg;subst hP hw hK;obtain⟨xs,x,hq,hx⟩:=hg;obtain⟨its,rv,p,hz⟩:=I.list hq;obtain⟨u,hu,ru⟩:=rv.get hx;obtain⟨f0,f1,f2,f3,f4,f5⟩:=hf it (by simp)
  refine wpAny_pyNext_list_item st p.isList (x:=u) (by simpa using hu) fun h' st' sb=>?_
  have I1:Inv X pins σ H { s with heap:=h' }:=I.turned (t':=s.toks) (fun b o hb e=>(sb.2 b hb).trans e) f0 f1 f3 f4 f5;obtain⟨o,e,c,d⟩:=id st';exact⟨u,rfl,lP (s:={ s with heap:=h' }) e c d (by decide) ⟨x,H,I1,ru,⟨rfl,fun ys hy=>by rw[I.list_inj hy hq];exact hx⟩,st',fun b hb=>(hf b hb).1⟩⟩
 done:=by
  intro X hP hw hK hc i pins s σ H E I hf st hg;subst hP hw hK;obtain⟨xs,hq,hx⟩:=hg;obtain⟨its,rv,p,hz⟩:=I.list hq;obtain⟨f0,f1,f2,f3,f4,f5⟩:=hf it (by simp)
  have hl:=rv.length;exact wpAny_pyNext_list_end (I.ok.hd hc) st p.isList (by simp;lia) fun h' eb=>⟨rfl,I.turned (t':=s.toks) (fun b o hb e=>eb b o hb e) f0 f1 f3 f4 f5⟩
 self:=fun _ _ _ _ _ st h=>wpAny_pyIter_listiter st h
theorem rB {P:Program} {w:World} {K:PySem.W.Frag} {tg:Expr} (a it:Addr):Turn P w K tg (JR K a) [it] it (fun i h=>h.IsTupleIter it a i) where
 mem:=by simp
 obj:=fun i h st b hb=>by
  have e:b=it:=by simpa using hb
  subst e;obtain⟨o,e,c,d⟩:=st;exact⟨o,e,fun v z=>by rw[d]at z;cases z⟩
 keep:=fun i h h' st k=>st.at fun o e=>k it (by simp) o e
 item:=by
  intro X hP hw hK hc i pins s σ H E I hf st hg;subst hP hw hK;obtain⟨xs,x,hq,hx⟩:=hg;obtain⟨its,rv,p,hz⟩:=I.tuple hq;obtain⟨u,hu,ru⟩:=rv.get hx;obtain⟨f0,f1,f2,f3,f4,f5⟩:=hf it (by simp)
  refine wpAny_pyNext_tuple_item st (show s.heap.IsTuple a its.toArray from p) (x:=u) (by simpa using hu) fun h' st' sb=>?_
  have I1:Inv X pins σ H { s with heap:=h' }:=I.turned (t':=s.toks) (fun b o hb e=>(sb.2 b hb).trans e) f0 f1 f3 f4 f5;obtain⟨o,e,c,d⟩:=id st';exact⟨u,rfl,lP (s:={ s with heap:=h' }) e c d (by decide) ⟨x,H,I1,ru,⟨rfl,fun ys hy=>by rw[I.tuple_inj hy hq];exact hx⟩,st',fun b hb=>(hf b hb).1⟩⟩
 done:=by
  intro X hP hw hK hc i pins s σ H E I hf st hg;subst hP hw hK;obtain⟨xs,hq,hx⟩:=hg;obtain⟨its,rv,p,hz⟩:=I.tuple hq;obtain⟨f0,f1,f2,f3,f4,f5⟩:=hf it (by simp)
  have hl:=rv.length;exact wpAny_pyNext_tuple_end (I.ok.hd hc) st (show s.heap.IsTuple a its.toArray from p) (by simp;lia) fun h' eb=>⟨rfl,I.turned (t':=s.toks) (fun b o hb e=>eb b o hb e) f0 f1 f3 f4 f5⟩
 self:=fun _ _ _ _ _ st h=>wpAny_pyIter_tupleiter st h
theorem rC {P:Program} {w:World} {K:PySem.W.Frag} {tg:Expr} (it:Addr) (lo:Int) (n:Nat):Turn P w K tg (Jb lo n) [it] it (fun i h=>IsRangeIter h it (lo+(i:Nat)*1) ((n:Int)-(i:Nat)) 1) where
 mem:=by simp
 obj:=fun i h st b hb=>by
  have e:b=it:=by simpa using hb
  subst e
  exact⟨_,st,fun v z=>by
   have z':Data.fields _=Data.cell v:=z
   cases z'⟩
 keep:=fun i h h' st k=>k it (by simp) _ st
 item:=by
  intro X hP hw hK hc i pins s σ H E I hf st hg;subst hP hw hK;obtain⟨f0,f1,f2,f3,f4,f5⟩:=hf it (by simp)
  have W:=Walks.range (prog:=X.prog) (w:=X.w) (I.ok.hd hc) it lo 1 n;refine bw (W.item i s _ _ hg st fun v h' tk hv st' kk hle=>?_);have hle:s.toks<=tk:=hle;obtain⟨t,rfl⟩:=hv;have I1:Inv X pins σ H { s with heap:=h',toks:=tk }:=I.turned (fun b o hb e=>kk b o (by simpa using hb) e) f0 f1 f3 f4 f5
  refine⟨_,rfl,lP (s:={ s with heap:=h',toks:=tk }) (n:="range_iterator") st' rfl rfl (by decide) ⟨.int (lo+i),H,I1,⟨t,?_⟩,⟨rfl,rfl⟩,st',fun b hb=>(hf b hb).1⟩⟩
  rw[Int.mul_one]
 done:=by
  intro X hP hw hK hc i pins s σ H E I hf st hg;subst hP hw hK;obtain⟨f0,f1,f2,f3,f4,f5⟩:=hf it (by simp)
  exact wpAny_pyNext_range_end (I.ok.hd hc) st (by have:n<=i:=hg;lia) fun h' eb=>⟨rfl,I.turned (t':=s.toks) (fun b o hb e=>eb b o hb e) f0 f1 f3 f4 f5⟩
 self:=fun _ _ _ _ _ st h=>wpAny_pyIter_rangeiter st h
end L2
namespace L2
open PySem PySem.Spec PyProof.Rows
section
variable {X:Cx} {tg:Expr}
def lQ (K:PySem.W.Frag) (tl:TE):TI:=fun σ H R=>tl σ H fun x H1=>∃a,x=.ref a/\(∃xs,eY K H1 a xs)/\R (JQ K a) H1
def EB (K:PySem.W.Frag) (tl:TE):TI:=fun σ H R=>tl σ H fun x H1=>∃a,x=.ref a/\(∃xs,iz K H1 a xs)/\R (JR K a) H1
theorem sL {l:Expr} {tl:TE} (hl:PE X l tl):PI X tg l (lQ X.K tl):=by
 intro pins s σ H R I h;refine bM (hl pins s σ H _ I h) fun v s1 zz9=>?_;obtain⟨x,H1,I1,r1,q1⟩:=zz9;obtain⟨a,e,⟨xs,hq⟩,q⟩:=q1;subst e;cases r1;obtain⟨its,rv,p,hz⟩:=I1.list hq;refine BN p.isList ?_;refine⟨s1.heap.objs.size,[s1.heap.objs.size],_,_,H1,rfl,I1.kept (t':=s1.toks) fun b o e=>Ab _ e,uM a _,⟨_,Ah _ rfl,rfl,rfl⟩,fun b hb=>?_,q⟩;have e:b=s1.heap.objs.size:=by simpa using hb
 subst e;exact I1.fpOk (Xa _) (I1.hok.fresh (Xa _))
theorem EC {l:Expr} {tl:TE} (hl:PE X l tl):PI X tg l (EB X.K tl):=by
 intro pins s σ H R I h;refine bM (hl pins s σ H _ I h) fun v s1 zz9=>?_;obtain⟨x,H1,I1,r1,q1⟩:=zz9;obtain⟨a,e,⟨xs,hq⟩,q⟩:=q1;subst e;cases r1;obtain⟨its,rv,p,hz⟩:=I1.tuple hq;refine wpAny_pyIter_tuple (show s1.heap.IsTuple a its.toArray from p) ?_;refine⟨s1.heap.objs.size,[s1.heap.objs.size],_,_,H1,rfl,I1.kept (t':=s1.toks) fun b o e=>Ab _ e,rB a _,⟨_,Ah _ rfl,rfl,rfl⟩,fun b hb=>?_,q⟩;have e:b=s1.heap.objs.size:=by simpa using hb
 subst e;exact I1.fpOk (Xa _) (I1.hok.fresh (Xa _))
theorem vX {pins:List (Addr×Obj)} {σ:St} {H:Hp} {s:Shared} {R:It->Hp->Prop} {E:Value->Shared->Prop} {lo hi:Int} {t u v:Tok} {tk:Nat} (I:Inv X pins σ H s) (h1:-(2 ^ 62)<=lo) (h2:lo<2 ^ 62) (h3:-(2 ^ 62)<=hi) (h4:hi<2 ^ 62) (ht:0<tk)
  (q:R (Jb lo (hi-lo).toNat) H):wpAny (model X.prog X.w) X.A (pyIter (.ref s.heap.objs.size)) (PIE X pins σ tg R) E { s with heap:=s.heap.push { cls:=.type "range",data:=.fields #[.int lo t,.int hi u,.int 1 v] },toks:=tk }:=by
 refine wpAny_pyIter_range (IsRange.new ..) (small_one h1 h2 h3 h4) ?_;have I1:Inv X pins σ H { s with heap:=s.heap.push { cls:=.type "range",data:=.fields #[.int lo t,.int hi u,.int 1 v] },toks:=tk }:=I.kept fun b o e=>Ab _ e
 refine⟨(s.heap.push { cls:=.type "range",data:=.fields #[.int lo t,.int hi u,.int 1 v] }).objs.size,[(s.heap.push { cls:=.type "range",data:=.fields #[.int lo t,.int hi u,.int 1 v] }).objs.size],_,_,H,rfl,
  I1.kept (t':=tk) fun b o e=>Ab _ e,rC _ lo (hi-lo).toNat,?_,fun b hb=>?_,q⟩
 ·have e1:lo+((0:Nat):Int)*1=lo:=by simp
  have e2:(((hi-lo).toNat:Nat):Int)-((0:Nat):Int)=Builtin.Range.rangeSize lo hi 1:=by rw[rangeSize_one];split<;>lia
  show IsRangeIter _ _ (lo+((0:Nat):Int)*1) ((((hi-lo).toNat:Nat):Int)-((0:Nat):Int)) 1;rw[e1,e2];exact Ah _ rfl
 ·have e:b=(s.heap.push { cls:=.type "range",data:=.fields #[.int lo t,.int hi u,.int 1 v] }).objs.size:=by simpa using hb
  subst e;exact I1.fpOk (Xa _) (I1.hok.fresh (Xa _))
def Dh (ta:TA):TI:=fun σ H R=>ta σ H fun vs H1=>∃j:Int,vs=[.int j]/\-(2 ^ 62)<=j/\j<2 ^ 62/\R (Jb 0 j.toNat) H1
theorem dM {a:Expr} {ta:TA} {p pos:Pos} (hg:Gl X "range") (hm:X.mg "range"=none) (ha:PA X [a] ta) (hs:starEach [a] X.env=[(false,eval a X.env)]:=by rfl):PI X tg (.Call (.Name "range" p) [a] [] pos) (Dh ta):=by
 intro pins s σ H R I h;refine Call_ (fI I hg hm boot_range (Aq (bM (ha pos pins s σ H _ I h) fun us s1 zz9=>?_) hs rfl));obtain⟨vs,H1,I1,r1,q1⟩:=zz9;obtain⟨j,e,q1,q2,q⟩:=q1;subst e;cases r1 with
 | cons r rr =>
  cases rr;obtain⟨t,rfl⟩:=r;exact call_range_1 (vX I1 (by lia) (by lia) q1 q2 (Zc I1.tk (by first|exact Xa _|lia)) (by simpa using q))
def y9 (wi:TI) (g:TG) (tb:TS):TS:=fun D σ H=>wi σ H fun J H1=>∃W:Nat->Nat->St->Hp->Prop,(∃m,W 0 m σ H1)/\∀i m σ H,W i m σ H ->
 (J.stop i H/\D.nx σ H)∨(J.go i H/\∃N:St->Hp->Prop,(∀σ' H',N σ' H'->∃m',m'<m/\W (i+1) m' σ' H')/\∀x H',J.yld i H x H'->g x σ H' fun σ2 H2=>tb { D with nx:=N,ct:=N,bk:=D.nx } σ2 H2)
def lS (fp:List Addr) (h:Heap):List (Addr×Obj):=fp.filterMap fun b=>(h.get? b).map fun o=>(b,o)
theorem fJ {fp:List Addr} {h:Heap} {b:Addr} {o:Obj} (hb:b∈fp) (e:h.get? b=some o):(b,o)∈lS fp h:=List.mem_filterMap.mpr ⟨b,hb,by rw[e];rfl⟩
theorem uN {fp:List Addr} {h:Heap} {p:Addr×Obj} (hp:p∈lS fp h):p.1∈fp/\h.get? p.1=some p.2:=by
 obtain⟨b,hb,e⟩:=List.mem_filterMap.mp hp;cases q:h.get? b with
 | none=>rw[q]at e;cases e
 | some o =>
  rw[q]at e;have e':(b,o)=p:=Option.some.inj e;subst e';exact⟨hb,q⟩
theorem Inv.pinned {pins:List (Addr×Obj)} {σ:St} {H:Hp} {s:Shared} {fp:List Addr} (I:Inv X pins σ H s) (hf:∀b∈fp,jX X pins H b) (ho:∀b∈fp,∃o,s.heap.get? b=some o/\∀v,o.data≠.cell v):Inv X (pins++lS fp s.heap) σ H s :=
 I.pins_of fun p hp=>(Vf.mp hp).elim (fun z=>I.pin p (Yf _ z)) fun z=>by
  obtain⟨hb,e⟩:=uN z;obtain⟨f0,f1,f2,_⟩:=hf p.1 hb;obtain⟨o,e',d⟩:=ho p.1 hb;rw[e]at e';cases e';exact⟨e,f0,f1,f2,d⟩
theorem Inv.unpinned {pins pl:List (Addr×Obj)} {σ:St} {H:Hp} {s:Shared} (I:Inv X (pins++pl) σ H s):Inv X pins σ H s:=I.pins_of fun p hp=>I.pin p (Yf _ (Qm _ hp))
theorem cj {iter:Expr} {body:List Stmt} {wi:TI} {g:TG} {tb:TS} {pos:Pos} (hp:PassesOwn (model X.prog X.w) X.A X.env X.xe) (hc:X.calm=true) (hi:PI X tg iter wi) (hg:PG X tg g) (hb:PSs X body tb)
  (hs:∀x,foldedSetIterable iter X.env x=pure x:=by intro _;rfl):PS X (.For tg iter body [] pos) (y9 wi g tb):=by
 intro pins s σ H D I h;refine wpAny_For (bM (hi pins s σ H _ I h) fun v s1 h1=>bM h1 fun itv s2 h2=>?_) hs;obtain⟨it,fp,tn,J,H2,e,I2,T,st2,f2,W,⟨m0,w0⟩,turn⟩:=h2;subst e;have stat:∀{H':Hp},(∀b∈fp,H' b=none)->∀b∈fp,jX X pins H' b:=fun hn b hb=>⟨hn b hb,(f2 b hb).2⟩;refine codeAny_forLoop_any (fun n s'=>∃i σ' H',Inv X pins σ' H' s'/\tn i s'.heap/\(∀b∈fp,H' b=none)/\W i n σ' H') ?_ m0 ⟨0,σ,H2,I2,st2,fun b hb=>(f2 b hb).1,w0⟩;rintro n s3 ⟨i,σ3,H3,I3,st3,fr3,w3⟩;rcases turn i n σ3 H3 w3 with⟨stop,qn⟩|⟨go,N,hN,step⟩
 ·refine AC hp (bM (T.done X rfl rfl rfl hc i pins s3 σ3 H3 X.xe I3 (stat fr3) st3 stop) fun r s4 zz9=>?_);obtain⟨hr,I4⟩:=zz9;subst hr;exact Bq ⟨σ3,H3,I4,qn⟩
 ·refine AC hp (bM (T.item X rfl rfl rfl hc i pins s3 σ3 H3 X.xe I3 (stat fr3) st3 go) fun r s4 zz9=>?_);obtain⟨u,hr,h4⟩:=zz9;subst hr;refine AC hp (bM h4 fun _ s5 zz9=>?_);obtain⟨x,H5,I5,r5,y5,st5,fr5⟩:=zz9;have I5':=I5.pinned (stat fr5) (T.obj _ _ st5);refine AC hp (bM (hg _ s5 σ3 H5 x u _ I5' r5 (step x H5 y5)) fun _ s6 zz9=>?_);obtain⟨σ6,H6,I6,q6⟩:=zz9;refine AC hp (bM (hb _ s6 σ6 H6 _ I6 q6) fun f s7 q7=>?_);have again:∀{σ7:St} {H7:Hp},Inv X (pins++lS fp s5.heap) σ7 H7 s7->N σ7 H7->∃m,m<n/\∃i σ' H',Inv X pins σ' H' s7/\tn i s7.heap/\(∀b∈fp,H' b=none)/\W i m σ' H':=fun {σ7 H7} I7 n7=>by
   obtain⟨m',hm,w7⟩:=hN σ7 H7 n7;refine⟨m',hm,i+1,σ7,H7,I7.unpinned,T.keep _ _ _ st5 fun b hb o e=>(I7.pin (b,o) (Yf _ (Yf _ (fJ hb e)))).1,fun b hb=>?_,w7⟩;obtain⟨o,e,d⟩:=T.obj _ _ st5 b hb;exact(I7.pin (b,o) (Yf _ (Yf _ (fJ hb e)))).2.1
  cases f with
  | next=>obtain⟨σ7,H7,I7,n7⟩:=q7;exact again I7 n7
  | cont=>obtain⟨σ7,H7,I7,n7⟩:=q7;exact again I7 n7
  | brk=>obtain⟨σ7,H7,I7,q7⟩:=q7;exact⟨σ7,H7,I7.unpinned,q7⟩
  | ret v=>obtain⟨x7,σ7,H7,I7,r7,q7⟩:=q7;exact⟨x7,σ7,H7,I7.unpinned,r7,q7⟩
end
end L2
namespace L2
open PySem PySem.Spec PyProof.Rows
abbrev R2:=V->V->Hp->VK->Prop
def OpR (X:Cx) (f:Value->Value->Sem Value) (r:R2):Prop :=
 ∀(pins:List (Addr×Obj)) (s:Shared) (σ:St) (H:Hp) (x y:V) (v u:Value) (Q:VK),Inv X pins σ H s->RelV x v->RelV y u->r x y H Q ->
  wpAny (model X.prog X.w) X.A (f v u) (EP X pins σ Q) X.xe s
def Jr (X:Cx) (f:Value->Sem Value) (r:V->Hp->VK->Prop):Prop :=
 ∀(pins:List (Addr×Obj)) (s:Shared) (σ:St) (H:Hp) (x:V) (v:Value) (Q:VK),Inv X pins σ H s->RelV x v->r x H Q ->
  wpAny (model X.prog X.w) X.A (f v) (EP X pins σ Q) X.xe s
def CallR (X:Cx) (f:Value) (r:List V->Hp->VK->Prop):Prop :=
 ∀(pins:List (Addr×Obj)) (s:Shared) (σ:St) (H:Hp) (xs:List V) (us:List Value) (Q:VK),Inv X pins σ H s->Vals xs us->r xs H Q ->
  wpAny (model X.prog X.w) X.A (call f us) (EP X pins σ Q) X.xe s
def Js (X:Cx) (r:V->Hp->(Bool->Hp->Prop)->Prop):Prop :=
 ∀(pins:List (Addr×Obj)) (s:Shared) (σ:St) (H:Hp) (x:V) (v:Value) (Q:Bool->Hp->Prop),Inv X pins σ H s->RelV x v->r x H Q ->
  wpAny (model X.prog X.w) X.A (truthy v) (TP X pins σ Q) X.xe s
def ED (r:R2) (ta tb:TE):TE:=fun σ H Q=>ta σ H fun x H1=>tb σ H1 fun y H2=>r x y H2 Q
def JS (r:V->Hp->VK->Prop) (ta:TE):TE:=fun σ H Q=>ta σ H fun x H1=>r x H1 Q
def rI (C:Int->Int->Prop) (g:Int->Int->V):R2:=fun x y H Q=>∃i j,x=.int i/\y=.int j/\C i j/\Q (g i j) H
def pU (g:Int->Int->V):R2:=fun x y H Q=>∃i j,x=.int i/\y=.int j/\Q (g i j) H
def rU (g:Int->V):V->Hp->VK->Prop:=fun x H Q=>∃i,x=.int i/\Q (g i) H
section
variable {X:Cx} {a b c:Expr} {ta tb tc:TE} {pos:Pos}
theorem EE (ha:PE X a ta) (hb:PE X b tb) {pins:List (Addr×Obj)} {s:Shared} {σ:St} {H:Hp} {R:V->V->Hp->Prop} (I:Inv X pins σ H s)
  (h:ta σ H fun x H1=>tb σ H1 fun y H2=>R x y H2) {Q:Value->Shared->Prop} {f:Value->Value->Sem Value}
  (hf:∀v u s2 x y H2,Inv X pins σ H2 s2->RelV x v->RelV y u->R x y H2->wpAny (model X.prog X.w) X.A (f v u) Q X.xe s2) :
  wpAny (model X.prog X.w) X.A (eval a X.env) (fun v s₁=>wpAny (model X.prog X.w) X.A (eval b X.env) (fun u s₂=>wpAny (model X.prog X.w) X.A (f v u) Q X.xe s₂) X.xe s₁) X.xe s:=by
 refine bM (ha pins s σ H _ I h) fun v s1 zz9=>?_;obtain⟨x,H1,I1,r1,q1⟩:=zz9;refine bM (hb pins s1 σ H1 _ I1 q1) fun u s2 zz9=>?_;obtain⟨y,H2,I2,r2,q2⟩:=zz9;exact hf v u s2 x y H2 I2 r1 r2 q2
theorem aI {op:Operator} {r:R2} (ho:OpR X (binaryOp op) r) (ha:PE X a ta) (hb:PE X b tb):PE X (.BinOp a op b pos) (ED r ta tb):=by
 intro pins s σ H Q I h;exact wpAny_BinOp (EE ha hb I h fun v u s2 x y H2 I2 rx ry q=>ho pins s2 σ H2 x y v u Q I2 rx ry q)
theorem Hr {op:UnaryOp} {r:V->Hp->VK->Prop} (ho:Jr X (unaryOp op) r) (ha:PE X a ta):PE X (.UnaryOp op a pos) (JS r ta):=by
 intro pins s σ H Q I h;exact UnaryOp_ (bM (ha pins s σ H _ I h) fun v s1 ⟨x,H1,I1,r1,q1⟩=>ho pins s1 σ H1 x v Q I1 r1 q1)
theorem Jc {f:Value->Value->Sem Value} {C:Int->Int->Prop} {g:Int->Int->Int}
  (rule:∀(i j:Int) (t u:Tok) (s:Shared) (Q:Value->Shared->Prop) (E:Value->Shared->Prop),C i j->Q (.int (g i j) s.toks) { s with toks:=s.toks+1 }->wpAny (model X.prog X.w) X.A (f (.int i t) (.int j u)) Q E s) :
  OpR X f (rI C fun i j=>.int (g i j)):=by
 intro pins s σ H x y v u Q I rx ry h;obtain⟨i,j,rfl,rfl,hc,q⟩:=h;obtain⟨t,rfl⟩:=rx;obtain⟨t',rfl⟩:=ry;exact rule i j t t' s _ _ hc ⟨.int (g i j),H,I.tok _,⟨_,rfl⟩,q⟩
theorem Hs {f:Value->Value->Sem Value} {g:Int->Int->Int}
  (rule:∀(i j:Int) (t u:Tok) (s:Shared) (Q:Value->Shared->Prop) (E:Value->Shared->Prop),Q (.int (g i j) s.toks) { s with toks:=s.toks+1 }->wpAny (model X.prog X.w) X.A (f (.int i t) (.int j u)) Q E s) :
  OpR X f (pU fun i j=>.int (g i j)):=by
 intro pins s σ H x y v u Q I rx ry h;obtain⟨i,j,rfl,rfl,q⟩:=h;obtain⟨t,rfl⟩:=rx;obtain⟨t',rfl⟩:=ry;exact rule i j t t' s _ _ ⟨.int (g i j),H,I.tok _,⟨_,rfl⟩,q⟩
theorem za {f:Value->Value->Sem Value} {g:Int->Int->Bool}
  (rule:∀(i j:Int) (t u:Tok) (s:Shared) (Q:Value->Shared->Prop) (E:Value->Shared->Prop),Q (.bool (g i j)) s->wpAny (model X.prog X.w) X.A (f (.int i t) (.int j u)) Q E s) :
  OpR X f (pU fun i j=>.bl (g i j)):=by
 intro pins s σ H x y v u Q I rx ry h;obtain⟨i,j,rfl,rfl,q⟩:=h;obtain⟨t,rfl⟩:=rx;obtain⟨t',rfl⟩:=ry;exact rule i j t t' s _ _ ⟨.bl (g i j),H,I,rfl,q⟩
def rD (i j:Int):Prop:=0<j/\j<1073741824
def vY (i j:Int):Prop:=0<=j/\j<=1000000/\i.natAbs<2 ^ 64
def CMul (i j:Int):Prop:=(-(2 ^ 64)<i/\i<2 ^ 64)∨(-(2 ^ 64)<j/\j<2 ^ 64)
theorem CMul.ok {i j:Int} (h:CMul i j):IntMulOk i j:=by
 rcases h with⟨h1,h2⟩|⟨h1,h2⟩
 ·exact .of_left (intBits_le_64 h1 h2)
 ·exact .of_right (intBits_le_64 h1 h2)
theorem op_add:OpR X (binaryOp .Add) (pU fun i j=>.int (i+j)):=Hs fun _ _ _ _ _ _ _ q=>add_int q
theorem di:OpR X (binaryOp .Sub) (pU fun i j=>.int (i-j)):=Hs fun _ _ _ _ _ _ _ q=>sub_int q
theorem op_mul:OpR X (binaryOp .Mult) (rI CMul fun i j=>.int (i*j)):=Jc fun _ _ _ _ _ _ _ hc q=>mul_int q hc.ok
theorem sM:OpR X (binaryOp .FloorDiv) (rI rD fun i j=>.int (i / j)):=Jc fun i j _ _ _ _ _ hc q=>by
 have h1:(0:Int)<j:=hc.1;have h2:j<1073741824:=hc.2;exact floordiv_int (by lia) (by rw[Int.fdiv_eq_ediv_of_nonneg i (by lia)];exact q) (.inl (PyProof.noPylong_small (by lia)))
theorem fK:OpR X (binaryOp .Mod) (rI (fun _ j=>0<j) fun i j=>.int (i % j)):=Jc fun i j _ _ _ _ _ hc q=>by
 have h1:(0:Int)<j:=hc;exact mod_int' (by lia) (by rw[Int.fmod_eq_emod_of_nonneg i (by lia)];exact q)
theorem EF:OpR X (binaryOp .Pow) (rI vY fun i j=>.int (i ^ j.toNat)):=Jc fun _ _ _ _ _ _ _ hc q=>pow_int_small hc.1 hc.2.1 hc.2.2 q
theorem Kk {f:Value->Sem Value} {g:Int->Int}
  (rule:∀(i:Int) (t:Tok) (s:Shared) (Q:Value->Shared->Prop) (E:Value->Shared->Prop),Q (.int (g i) s.toks) { s with toks:=s.toks+1 }->wpAny (model X.prog X.w) X.A (f (.int i t)) Q E s) :
  Jr X f (rU fun i=>.int (g i)):=by
 intro pins s σ H x v Q I rx h;obtain⟨i,rfl,q⟩:=h;obtain⟨t,rfl⟩:=rx;exact rule i t s _ _ ⟨.int (g i),H,I.tok _,⟨_,rfl⟩,q⟩
theorem EG:Jr X (unaryOp .USub) (rU fun i=>.int (-i)):=Kk fun _ _ _ _ _ q=>neg_int q
end
def EH:V->V->Bool
 | .non,.non=>true|.non,.int _=>true|.int _,.non=>true|.non,.bl _=>true|.bl _,.non=>true|.non,.str _=>true|.str _,.non=>true
 | .int _,.int _=>true|.bl _,.bl _=>true|.str _,.str _=>true|.byt _,.byt _=>true
 | .int _,.str _=>true|.str _,.int _=>true|.bl _,.str _=>true|.str _,.bl _=>true
 | _,_=>false
def Ht:R2:=fun x y H Q=>EH x y=true/\Q (.bl (decide (x=y))) H
def Jt:R2:=fun x y H Q=>EH x y=true/\Q (.bl (!decide (x=y))) H
theorem sN {i j:Int}:decide (V.int i=V.int j)=(i == j):=by
 rw[Zf];simp
theorem vZ {i j:Bool}:decide (V.bl i=V.bl j)=(i == j):=by
 rw[Zf];simp
theorem sO {i j:Str}:decide (V.str i=V.str j)=(i == j):=by
 rw[Zf];simp
theorem sP {i j:Array UInt8}:decide (V.byt i=V.byt j)=(i.toList == j.toList):=by
 rw[Zf];cases i;cases j;simp
section
variable {X:Cx} {a b c:Expr} {ta tb tc:TE} {pos:Pos}
theorem aY {pins:List (Addr×Obj)} {σ:St} {H:Hp} {s:Shared} {Q:VK} {k k':Bool} (I:Inv X pins σ H s) (q:Q (.bl k) H) (e:k=k'):EP X pins σ Q (.bool k') s:=by
 subst e;exact⟨.bl k,H,I,rfl,q⟩
theorem Hu:OpR X (compareOp .Eq) Ht:=by
 intro pins s σ H x y v u Q I rx ry h;obtain⟨hs,q⟩:=h;cases x with
 | non =>
  cases rx;cases y with
  | non=>cases ry;exact PySem.EqNone.eq_none_none (aY I q (by simp))
  | bl j=>cases ry;exact PySem.EqNone.eq_none_bool (aY I q (by simp))
  | int j=>obtain⟨t',rfl⟩:=ry;exact PySem.EqNone.eq_none_int (aY I q (by simp))
  | str j=>obtain⟨t',rfl⟩:=ry;exact PySem.EqNone.eq_none_str (aY I q (by simp))
  | _=>exact absurd (show false=true from hs) Qc
 | bl i =>
  cases rx;cases y with
  | non=>cases ry;exact PySem.EqNone.eq_bool_none (aY I q (by simp))
  | bl j=>cases ry;exact eq_bool (aY I q vZ)
  | str j=>obtain⟨t',rfl⟩:=ry;exact PySem.EqMixed.eq_bool_str (aY I q (by simp))
  | _=>exact absurd (show false=true from hs) Qc
 | int i =>
  obtain⟨t,rfl⟩:=rx;cases y with
  | non=>cases ry;exact PySem.EqNone.eq_int_none (aY I q (by simp))
  | int j=>obtain⟨t',rfl⟩:=ry;exact eq_int (aY I q sN)
  | str j=>obtain⟨t',rfl⟩:=ry;exact PySem.EqMixed.eq_int_str (aY I q (by simp))
  | _=>exact absurd (show false=true from hs) Qc
 | str i =>
  obtain⟨t,rfl⟩:=rx;cases y with
  | non=>cases ry;exact PySem.EqNone.eq_str_none (aY I q (by simp))
  | bl j=>cases ry;exact PySem.EqMixed.eq_str_bool (aY I q (by simp))
  | int j=>obtain⟨t',rfl⟩:=ry;exact PySem.EqMixed.eq_str_int (aY I q (by simp))
  | str j=>obtain⟨t',rfl⟩:=ry;exact eq_str (aY I q sO)
  | _=>exact absurd (show false=true from hs) Qc
 | byt i =>
  obtain⟨t,rfl⟩:=rx;cases y with
  | byt j=>obtain⟨t',rfl⟩:=ry;exact PySem.W.eq_bytes (aY I q sP)
  | _=>exact absurd (show false=true from hs) Qc
 | _=>cases y<;>exact absurd (show false=true from hs) Qc
theorem op_ne:OpR X (compareOp .NotEq) Jt:=by
 intro pins s σ H x y v u Q I rx ry h;obtain⟨hs,q⟩:=h;cases x with
 | non =>
  cases rx;cases y with
  | non=>cases ry;exact PySem.EqNone.ne_none_none (aY I q (by simp))
  | bl j=>cases ry;exact PySem.EqNone.ne_none_bool (aY I q (by simp))
  | int j=>obtain⟨t',rfl⟩:=ry;exact PySem.EqNone.ne_none_int (aY I q (by simp))
  | str j=>obtain⟨t',rfl⟩:=ry;exact PySem.EqNone.ne_none_str (aY I q (by simp))
  | _=>exact absurd (show false=true from hs) Qc
 | bl i =>
  cases rx;cases y with
  | non=>cases ry;exact PySem.EqNone.ne_bool_none (aY I q (by simp))
  | bl j=>cases ry;exact ne_bool (aY I q (congrArg not vZ))
  | str j=>obtain⟨t',rfl⟩:=ry;exact PySem.EqMixed.ne_bool_str (aY I q (by simp))
  | _=>exact absurd (show false=true from hs) Qc
 | int i =>
  obtain⟨t,rfl⟩:=rx;cases y with
  | non=>cases ry;exact PySem.EqNone.ne_int_none (aY I q (by simp))
  | int j=>obtain⟨t',rfl⟩:=ry;exact ne_int (aY I q (congrArg not sN))
  | str j=>obtain⟨t',rfl⟩:=ry;exact PySem.EqMixed.ne_int_str (aY I q (by simp))
  | _=>exact absurd (show false=true from hs) Qc
 | str i =>
  obtain⟨t,rfl⟩:=rx;cases y with
  | non=>cases ry;exact PySem.EqNone.ne_str_none (aY I q (by simp))
  | bl j=>cases ry;exact PySem.EqMixed.ne_str_bool (aY I q (by simp))
  | int j=>obtain⟨t',rfl⟩:=ry;exact PySem.EqMixed.ne_str_int (aY I q (by simp))
  | str j=>obtain⟨t',rfl⟩:=ry;exact ne_str (aY I q (congrArg not sO))
  | _=>exact absurd (show false=true from hs) Qc
 | byt i =>
  obtain⟨t,rfl⟩:=rx;cases y with
  | byt j=>obtain⟨t',rfl⟩:=ry;exact PySem.W.ne_bytes (aY I q (congrArg not sP))
  | _=>exact absurd (show false=true from hs) Qc
 | _=>cases y<;>exact absurd (show false=true from hs) Qc
theorem op_lt:OpR X (compareOp .Lt) (pU fun i j=>.bl (decide (i<j))):=za fun _ _ _ _ _ _ _ q=>lt_int q
theorem Hv:OpR X (compareOp .LtE) (pU fun i j=>.bl (decide (i<=j))):=za fun _ _ _ _ _ _ _ q=>le_int q
theorem v5:OpR X (compareOp .Gt) (pU fun i j=>.bl (decide (j<i))):=za fun _ _ _ _ _ _ _ q=>gt_int q
theorem nu:OpR X (compareOp .GtE) (pU fun i j=>.bl (decide (j<=i))):=za fun _ _ _ _ _ _ _ q=>ge_int q
theorem uO:OpR X (compareOp .Lt) (fun x y H Q=>∃i j,x=.str i/\y=.str j/\Q (.bl (decide (i.cps.toList<j.cps.toList))) H):=by
 intro pins s σ H x y v u Q I rx ry h;obtain⟨i,j,rfl,rfl,q⟩:=h;obtain⟨t,rfl⟩:=rx;obtain⟨t',rfl⟩:=ry;exact lt_str (aY I q rfl)
theorem op_notin_str:OpR X (compareOp .NotIn) (fun x y H Q=>∃i j,x=.str i/\y=.str j/\Q (.bl (!(!(Builtin.Str.occurrences j i 0 j.length 1).isEmpty))) H):=by
 intro pins s σ H x y v u Q I rx ry h;obtain⟨i,j,rfl,rfl,q⟩:=h;obtain⟨t,rfl⟩:=rx;obtain⟨t',rfl⟩:=ry;exact notIn_str (aY I q rfl)
theorem OpR.or {f:Value->Value->Sem Value} {r r':R2} (h:OpR X f r) (h':OpR X f r'):OpR X f (fun x y H Q=>r x y H Q∨r' x y H Q):=by
 intro pins s σ H x y v u Q I rx ry q;rcases q with q|q
 ·exact h pins s σ H x y v u Q I rx ry q
 ·exact h' pins s σ H x y v u Q I rx ry q
theorem br (b:Expr) {op:CmpOp} (h:op≠.In:=by decide) (h2:op≠.NotIn:=by decide):behindInMarks op b=false:=by
 have e1:(op == CmpOp.In)=false:=by cases op<;>first|rfl|exact absurd rfl h
 have e2:(op == CmpOp.NotIn)=false:=by cases op<;>first|rfl|exact absurd rfl h2
 cases b<;>simp[behindInMarks,e1,e2]
theorem ia {op:CmpOp} {r:R2} (ho:OpR X (compareOp op) r) (ha:PE X a ta) (hb:PE X b tb) (hm:behindInMarks op b=false):PE X (.Compare a [op] [b] pos) (ED r ta tb):=by
 intro pins s σ H Q I h;exact wpAny_Compare1 (EE ha hb I h fun v u s2 x y H2 I2 rx ry q=>ho pins s2 σ H2 x y v u Q I2 rx ry q) hm
def Di (t:TE):TT:=fun σ H Q=>t σ H fun x H'=>∃k,x=.bl k/\Q k H'
theorem be {op:CmpOp} {r:R2} (ho:OpR X (compareOp op) r) (ha:PE X a ta) (hb:PE X b tb) (hm:behindInMarks op b=false):PT X (.Compare a [op] [b] pos) (Di (ED r ta tb)):=by
 intro pins s σ H Q I h
 refine wpAny_isTrue_Compare1 (bM (ha pins s σ H _ I h) fun v s1 ⟨x,H1,I1,r1,q1⟩=>bM (hb pins s1 σ H1 _ I1 q1) fun u s2 ⟨y,H2,I2,r2,q2⟩ =>
  bM (ho pins s2 σ H2 x y v u _ I2 r1 r2 q2) fun c s3 ⟨z,H3,I3,r3,k,e,q3⟩=>?_) hm
 subst e;cases r3;exact Av ⟨H3,I3,q3⟩
def EI (K:PySem.W.Frag) (x:V) (H:Hp) (k:Bool):Prop :=
 match x with
 | .non=>k=false
 | .bl b=>k=b
 | .int i=>k=(i != 0)
 | .str y=>y.length<=sizeLine/\k=((y.length:Int) != 0)
 | .byt y=>y.size<=sizeLine/\k=((y.size:Int) != 0)
 | .ref p=>(∃xs,eY K H p xs/\k=!xs.isEmpty)∨(∃xs,iz K H p xs/\k=!xs.isEmpty)∨∃kvs,H p=some (.dK kvs)/\k=!kvs.isEmpty
 | _=>False
theorem rE {κ:Type} {kvs:List (κ×V)} {vs:List (κ×Value)} (r:KV kvs vs):(!vs.isEmpty)=!kvs.isEmpty:=by
 cases r<;>rfl
theorem lT {xs:List V} {its:List Value} (r:Vals xs its):(!its.toArray.isEmpty)=!xs.isEmpty:=by
 cases r<;>simp
theorem iW:(sizeLine:Nat)<2 ^ 63:=by rw[Bb];decide
theorem EJ:Js X (fun x H Q=>∃k,EI X.K x H k/\Q k H):=by
 intro pins s σ H x v Q I rx h;obtain⟨k,e,q⟩:=h;have hl:=iW;have hs:sizeLine=16777216:=Bb;cases x with
 | non =>
  cases rx;have e':k=false:=e;subst e';exact truthy_none ⟨H,I,q⟩
 | bl b =>
  cases rx;have e':k=b:=e;subst e';exact Av ⟨H,I,q⟩
 | int i =>
  obtain⟨t,rfl⟩:=rx;have e':k=(i != 0):=e;subst e';exact PySem.P.truthy_int ⟨H,I,q⟩
 | str y =>
  obtain⟨t,rfl⟩:=rx;obtain⟨hy,e'⟩:y.length<=sizeLine/\k=((y.length:Int) != 0):=e;subst e';exact PySem.P.truthy_str (by lia) ⟨H,I.tok _,q⟩
 | byt y =>
  obtain⟨t,rfl⟩:=rx;obtain⟨hy,e'⟩:y.size<=sizeLine/\k=((y.size:Int) != 0):=e;subst e';exact PySem.W.truthy_bytes (by lia) ⟨H,I.tok _,q⟩
 | ref p =>
  cases rx;have e':(∃xs,eY X.K H p xs/\k=!xs.isEmpty)∨(∃xs,iz X.K H p xs/\k=!xs.isEmpty)∨∃kvs,H p=some (.dK kvs)/\k=!kvs.isEmpty:=e;rcases e' with⟨xs,hx,e'⟩|⟨xs,hx,e'⟩|⟨kvs,hx,e'⟩
  ·subst e';obtain⟨its,r,pl,hz⟩:=I.list hx;have hlen:=r.length;exact wpAny_truthy_list pl.isList (by simp only[Yb];lia) ⟨H,I.tok _,by rw[lT r];exact q⟩
  ·subst e';obtain⟨its,r,pl,hz⟩:=I.tuple hx;have hlen:=r.length;exact truthy_tuple pl (by simp only[Yb];lia) ⟨H,I.tok _,by rw[lT r];exact q⟩
  ·subst e';obtain⟨hz,hS,vs,r,m⟩:kvs.length<=sizeLine/\(p == sysModules)=false/\∃vs,KV kvs vs/\s.heap.DictOf (aF X.prog X.w) p vs:=I.hok p _ hx;have hlen:kvs.length=vs.length:=Paired.length r;exact wpAny_truthy_dict hS m (by lia) ⟨H,I.tok _,by rw[rE r];exact q⟩
 | _=>exact(show False from e).elim
theorem v6 (ha:PE X a ta) (he:∀whole,isTrue a X.env whole=(do let v ← whole;standAt a.pos;holding [v] (truthy v))) :
  PT X a (fun σ H Q=>ta σ H fun x H'=>∃k,EI X.K x H' k/\Q k H'):=by
 intro pins s σ H Q I h;exact isTrue_plain (bM (ha pins s σ H _ I h) fun v s1 ⟨x,H1,I1,r1,q1⟩=>EJ pins s1 σ H1 x v Q I1 r1 q1) (he _)
theorem op_add_str:OpR X (binaryOp .Add) (fun x y H Q=>∃i j,x=.str i/\y=.str j/\i.length+j.length<=sizeLine/\Q (.str (i++j)) H):=by
 intro pins s σ H x y v u Q I rx ry h;obtain⟨i,j,rfl,rfl,hz,q⟩:=h;obtain⟨t,rfl⟩:=rx;obtain⟨t',rfl⟩:=ry;exact bw (add_str (fun t' tk hle=>⟨.str (i++j),H,I.tok _ (I.tkl' hle),⟨_,rfl⟩,q⟩) hz)
theorem vals1 {x:V} {us:List Value} (r:Vals [x] us):∃u,us=[u]/\RelV x u:=by
 cases r with
 | cons r1 r2=>cases r2;exact⟨_,rfl,r1⟩
theorem vals2 {x y:V} {us:List Value} (r:Vals [x,y] us):∃u w',us=[u,w']/\RelV x u/\RelV y w':=by
 cases r with
 | cons r1 r2 =>
  cases r2 with
  | cons r3 r4=>cases r4;exact⟨_,_,rfl,r1,r3⟩
theorem db:CallR X (.builtin "abs") (fun xs H Q=>∃i,xs=[.int i]/\Q (.int (if i<0 then -i else i)) H):=by
 intro pins s σ H xs us Q I r h;obtain⟨i,rfl,q⟩:=h;obtain⟨u,rfl,t,rfl⟩:=vals1 r;exact bw (call_abs_int fun u tk hle=>⟨.int (if i<0 then -i else i),H,I.tok _ (I.tkl' hle),⟨_,rfl⟩,q⟩)
theorem uP (hc:X.calm=true):CallR X (.builtin "min") (fun xs H Q=>∃i j,xs=[.int i,.int j]/\Q (.int (if j<i then j else i)) H):=by
 intro pins s σ H xs us Q I r h;obtain⟨i,j,rfl,q⟩:=h;obtain⟨u,w',rfl,⟨t,rfl⟩,⟨t',rfl⟩⟩:=vals2 r;refine bw (min_two_ints (I.ok.hd hc) fun h' tk k hle=>⟨_,H,I.kept k (I.tkl' hle),?_,q⟩);by_cases hj:j<i
 ·rw[Ae hj,Ae hj];exact⟨_,rfl⟩
 ·rw[Af hj,Af hj];exact⟨_,rfl⟩
theorem fk:CallR X (.type "int") (fun xs H Q=>(∃i,xs=[.int i]/\Q (.int i) H)∨∃k,xs=[.bl k]/\Q (.int (if k then 1 else 0)) H):=by
 intro pins s σ H xs us Q I r h;rcases h with⟨i,rfl,q⟩|⟨k,rfl,q⟩
 ·obtain⟨u,rfl,t,rfl⟩:=vals1 r;exact call_int_int ⟨.int i,H,I,⟨_,rfl⟩,q⟩
 ·obtain⟨u,rfl,r1⟩:=vals1 r;cases r1;exact call_int_bool ⟨.int (if k then 1 else 0),H,I.tok _,⟨_,rfl⟩,q⟩
end
end L2
namespace L2
open PySem PySem.Spec PyProof.Rows
structure ObjM (h:Heap) (x dx C:Addr) (mA:Str->Option Value):Prop where
 obj:h.get? x=some (PySem.W.instObj C dx)
 ns:h.Ns1 dx mA
 ne:dx≠x
theorem uQ {h:Heap} {dx:Addr} {mA:Str->Option Value} (n:h.Ns1 dx mA):∃od,h.get? dx=some od/\∀name,PySem.W.lookIn name od=some (mA name):=by
 obtain⟨o,es,ep,ho,hd,hk,_,hm⟩:=n;refine⟨o,ho,fun name=>?_⟩;have e:=hm name;unfold nsFind findBy at e;rw[← Array.find?_toList]at e;unfold PySem.W.lookIn;rw[hd];dsimp only;split
 ·rename_i y q
  rw[q]at e;exact congrArg some e
 ·rename_i q
  rw[q]at e;have a:es.toList.any (·.refKey)=false:=by
   rw[List.any_eq_false];intro y hy;obtain⟨z,t,hkey⟩:=hk y (Array.mem_toList_iff.mp hy);simp[DictEntry.refKey,hkey]
  have a':¬ es.toList.any (·.refKey)=true:=by rw[a];exact Qc
  rw[Af a'];exact congrArg some e
theorem ObjM.look {h:Heap} {x dx C:Addr} {mA:Str->Option Value} (I:ObjM h x dx C mA):∃od,PySem.W.InstAt h x (PySem.W.instObj C dx) C (some od)/\∀name,PySem.W.lookIn name od=some (mA name) :=
 let ⟨od,ho,hl⟩:=uQ I.ns
 ⟨od,⟨I.obj,rfl,rfl,ho⟩,hl⟩
theorem RelO.some_of {v:V} {o:Option Value} (r:RelO (some v) o):∃u,o=some u/\RelV v u:=by
 cases o with
 | none=>exact(show False from r).elim
 | some u=>exact⟨u,rfl,r⟩
section
variable {P:Program} {w:World} {H H':Hp} {h h':Heap} {a C dx:Addr} {fs fs':List (Str×V)}
theorem zb (hok:HOk P w H h) (e:H a=some (.ins C dx fs)):∃mA,ObjM h a dx C mA/\(∀f,RelO (fs.lookup f) (mA f))/\PySem.Within mA (fs.map (·.1))/\fs.length<=1000/\H dx=some (.own a):=by
 obtain⟨d,z,ne,ob,mA,n,r,q⟩:=(show ObjOk P w H h a (.ins C dx fs) from hok a _ e);exact⟨mA,⟨ob,n,ne⟩,r,q,z,d⟩
end
structure Cls (K:PySem.W.Frag) (C:Addr):Prop where
 pg:PySem.W.plainGet K C Str.empty=true
 hd:PySem.W.hasDictIn K C=true
 po:PySem.W.plainOver K C=true
 sa:PySem.W.findIn K (.ref C) "__setattr__"=some (some (.builtin "object.__setattr__"))
theorem Cls.get {K:PySem.W.Frag} {C:Addr} (c:Cls K C) (f:Str):PySem.W.plainGet K C f=true:=c.pg
section
variable {X:Cx} {pins:List (Addr×Obj)} {σ:St} {H:Hp} {s:Shared} {A:Around} {E:Value->Shared->Prop} {Q:Value->Shared->Prop} {c:Value} {b:Bool}
inductive TyOf (K:PySem.W.Frag) (H:Hp):V->Value->Prop where
 | non:TyOf K H .non (.type "NoneType")
 | bl (x:Bool):TyOf K H (.bl x) (.type "bool")
 | int (i:Int):TyOf K H (.int i) (.type "int")
 | str (x:Str):TyOf K H (.str x) (.type "str")
 | flt (x:UInt64):TyOf K H (.flt x) (.type "float")
 | lst {a:Addr} {xs:List V} (e:H a=some (.lst xs)):TyOf K H (.ref a) (.type "list")
 | frz {a:Addr} {o:Obj} {xs:List V} (e:H a=some (.frz o (.lst xs))):TyOf K H (.ref a) (.type "list")
 | tup {a:Addr} {xs:List V} (e:H a=some (.tup xs)):TyOf K H (.ref a) (.type "tuple")
 | dK {a:Addr} {kvs:List (Key×V)} (e:H a=some (.dK kvs)):TyOf K H (.ref a) (.type "dict")
 | dT {a:Addr} {ep:Nat×List Addr} {kvs:List (aN×V)} (e:H a=some (.dT ep kvs)):TyOf K H (.ref a) (.type "dict")
 | ins {a C dx:Addr} {fs:List (Str×V)} (e:H a=some (.ins C dx fs)) (cl:Cls K C) (ha:PySem.W.findIn K (.ref C) "__class__"=some (some (.builtin "object.__class__")))
   (hn:PySem.W.specialIn K (.builtin "object.__class__") "__get__"=some (some (.builtin "getset_descriptor.__get__"))) (htk:PySem.W.takesIn K (.builtin "object.__class__")=some true)
   (hm:PySem.W.mroIn K C (.type "object")=some true):TyOf K H (.ref a) (.ref C)
theorem cK {x:V} {u t:Value} (I:Inv X pins σ H s) (rx:RelV x u) (ty:TyOf X.K H x t) (e:PySem.W.kitOne X.K t c=some b) (h:∀tk,Q (.bool b) { s with toks:=tk }) :
  wpAny (model X.prog X.w) A (call (.builtin "isinstance") [u,c]) Q E s:=by
 cases ty with
 | non=>cases (show u=Value.none from rx);exact PySem.W.kia_one PySem.W.kitx_none I.kIn True.intro e (fun z=>nomatch z) h
 | bl y=>cases (show u=Value.bool y from rx);exact PySem.W.kia_one PySem.W.kitx_bool I.kIn True.intro e (fun z=>nomatch z) h
 | int i=>obtain⟨t,q⟩:=(show ∃t,u=Value.int i t from rx);cases q;exact PySem.W.kia_one PySem.W.kitx_int I.kIn True.intro e (fun z=>nomatch z) h
 | str y=>obtain⟨t,q⟩:=(show ∃t,u=Value.str y t from rx);cases q;exact PySem.W.kia_one PySem.W.kitx_str I.kIn True.intro e (fun z=>nomatch z) h
 | flt y=>obtain⟨t,q⟩:=(show ∃t,u=Value.float y t from rx);cases q;exact PySem.W.kia_one PySem.W.kitx_float I.kIn True.intro e (fun z=>nomatch z) h
 | @lst a xs ea =>
  cases (show u=Value.ref a from rx);obtain⟨_,_,n,_,h1⟩:=(show ObjOk X.prog X.w H s.heap a (.lst xs) from I.hok a _ ea);exact PySem.W.kia_one PySem.W.kitx_list I.kIn ⟨_,h1,rfl⟩ e (fun z=>nomatch z) h
 | @frz a ob xs ea =>
  cases (show u=Value.ref a from rx);obtain⟨_,_,_,n,_,h1⟩:=(show ObjOk X.prog X.w H s.heap a (.frz ob (.lst xs)) from I.hok a _ ea);exact PySem.W.kia_one PySem.W.kitx_list I.kIn ⟨_,h1,rfl⟩ e (fun z=>nomatch z) h
 | @tup a xs ea =>
  cases (show u=Value.ref a from rx);obtain⟨_,_,_,p⟩:=(show ObjOk X.prog X.w H s.heap a (.tup xs) from I.hok a _ ea);obtain⟨o,h1,h2,_⟩:=p;exact PySem.W.kia_one PySem.W.kitx_tuple I.kIn ⟨o,h1,h2⟩ e (fun z=>nomatch z) h
 | @dK a kvs ea =>
  cases (show u=Value.ref a from rx);obtain⟨_,_,vs,_,p⟩:=(show ObjOk X.prog X.w H s.heap a (.dK kvs) from I.hok a _ ea);obtain⟨o,es,ep,h1,h2,_⟩:=p;exact PySem.W.kia_one PySem.W.kitx_dict I.kIn ⟨o,h1,h2.1⟩ e (fun z=>nomatch z) h
 | @dT a ep kvs ea =>
  cases (show u=Value.ref a from rx);obtain⟨_,_,xs,_,_,o,es,h1,h2,_⟩:=(show ObjOk X.prog X.w H s.heap a (.dT ep kvs) from I.hok a _ ea);exact PySem.W.kia_one PySem.W.kitx_dict I.kIn ⟨o,h1,h2.1⟩ e (fun z=>nomatch z) h
 | @ins a C dx fs ea cl ha hn htk hm =>
  cases (show u=Value.ref a from rx);obtain⟨mA,O,_⟩:=zb I.hok ea;obtain⟨od,J,_⟩:=O.look;exact PySem.W.kia_one (PySem.W.kitx_own (cl.get _) cl.hd ha hn htk hm) I.kIn J e (fun z=>nomatch z) h
end
end L2
namespace L2
open PySem PySem.Spec PyProof.Rows
structure Room (k:Nat) (A:Around):Prop where
 hd:A.handled=none
 dp:A.depth+3*k+5<recursionLimit
 un:A.units+16*k+200<cLine
theorem Room.mono {j k:Nat} {A:Around} (r:Room k A) (h:j<=k):Room j A:=⟨r.hd,by have:=r.dp;lia,by have:=r.un;lia⟩
theorem Room.deeper {k:Nat} {A:Around} (r:Room (k+1) A) (env:Env):Room k (A.deeper env) :=
 ⟨r.hd,by have:=r.dp;show A.depth+1+3*k+5<_;lia,by have:=r.un;show A.units+3+16*k+200<_;lia⟩
theorem Room.depth {k:Nat} {A:Around} (r:Room k A):A.depth<recursionLimit:=by have:=r.dp;lia
theorem Room.units {k:Nat} {A:Around} (r:Room k A):A.units+64<cLine:=by have:=r.un;lia
def jY:TA:=fun _ H Q=>Q [] H
def cr (ta:TE) (tr:TA):TA:=fun σ H Q=>ta σ H fun x H1=>tr σ H1 fun xs H2=>Q (x::xs) H2
section
variable {X:Cx} {e:Expr} {es:List Expr} {te:TE} {t:TA} {pos:Pos}
theorem ae:PA X [] jY:=fun _ _ _ _ H Q I h=>Calls.spliced_nil ⟨[],H,I,.nil,h⟩
theorem jo (ha:PE X e te) (hr:PA X es t) (hs:starEach (e::es) X.env=(false,eval e X.env)::starEach es X.env:=by rfl):PA X (e::es) (cr te t):=by
 intro pos pins s σ H Q I h;rw[hs];show wpAny _ _ (spliced ((false,eval e X.env)::backTo pos (starEach es X.env))) _ _ s;refine Calls.spliced_cons (bM (ha pins s σ H _ I h) fun u s1 zz9=>?_);obtain⟨x,H1,I1,r1,q1⟩:=zz9;exact bM (hr pos pins s1 σ H1 _ I1 q1) fun us s2 ⟨xs,H2,I2,r2,q2⟩=>⟨x::xs,H2,I2,.cons r1 r2,q2⟩
def Hw (t:TA):TE:=fun σ H Q=>t σ H fun xs H1=>xs.length<=sizeLine/\∀p,H1 p=none->Q (.ref p) (upd H1 p (.tup xs))
def v7 (t:TA):TE:=fun σ H Q=>t σ H fun xs H1=>xs.length<=sizeLine/\∀p,H1 p=none->Q (.ref p) (upd H1 p (.lst xs))
theorem fL {x1} (h:PA X es t):PE X (.Tuple es x1 pos) (Hw t):=by
 intro pins s σ H Q I hq;refine wpAny_Tuple_spliced (bM (h pos pins s σ H _ I hq) fun us s1 ⟨xs,H1,I1,r,z,q⟩=>⟨by rw[← r.length];exact z,?_⟩)
 have hf:H1 s1.heap.objs.size=none:=I1.hok.fresh (Xa _);refine⟨.ref s1.heap.objs.size,upd H1 s1.heap.objs.size (.tup xs),I1.laid (t':=s1.toks) (fun b u e=>Ab _ e) (Xa _) ?_,rfl,q _ hf⟩;exact⟨z,us,r,⟨_,Ah _ rfl,rfl,_,rfl⟩⟩
theorem cw (h:PA X es t):PE X (.List es pos) (v7 t):=by
 intro pins s σ H Q I hq;refine wpAny_List_spliced (bM (h pos pins s σ H _ I hq) fun us s1 ⟨xs,H1,I1,r,z,q⟩=>⟨by rw[← r.length];exact z,?_⟩)
 have hf:H1 s1.heap.objs.size=none:=I1.hok.fresh (Xa _);refine⟨.ref s1.heap.objs.size,upd H1 s1.heap.objs.size (.lst xs),I1.laid (t':=s1.toks) (fun b u e=>Ab _ e) (Xa _) ?_,rfl,q _ hf⟩;exact⟨z,us,0,r,Ah _ rfl⟩
end
abbrev Sp:=List V->Hp->VK->XK->Prop
abbrev v8:=List Env->Hp->Shared->XK->Value->Shared->Prop
structure Env0 (P:Program) (w:World) (K:PySem.W.Frag) (mg:Str->Option Value) (base:Heap) (A:Around) (outer:List Env) (s:Shared) (H:Hp):Prop where
 frames:A.frames=some outer
 mod:Mod K mg base
 bs:∀b o,base.get? b=some o->s.heap.get? b=some o/\H b=none
 bsz:base.objs.size<=s.heap.objs.size
 funs:s.heap.FunFrames base outer
 frf:∀b∈rq outer,H b=none
 hok:HOk P w H s.heap
 bare:AllBare s.gens
 tk:0<s.toks
def CE (outer:List Env) (P:Program) (w:World) (H:Hp) (s:Shared) (Q:VK) (u:Value) (s':Shared):Prop :=
 ∃v H',s'.os=s.os/\AllBare s'.gens/\Un (rq outer) [] H H' s.heap s'.heap/\HOk P w H' s'.heap/\RelV v u/\Q v H'
def CR (CX:v8) (outer:List Env) (P:Program) (w:World) (H:Hp) (s:Shared) (Q:VK) (E:XK) (r:Result) (s':Shared):Prop :=
 match r with
 | .ok (.ret u)=>CE outer P w H s Q u s'
 | .ok _=>False
 | .error e=>CX outer H s E e s'
structure FnOk (P:Program) (w:World) (K:PySem.W.Frag) (mg:Str->Option Value) (base:Heap) (CX:v8) (k:Nat) (f:Addr) (fd:FuncData) (ps:List Str) (sp:Sp):Prop where
 len:∀vs H Q E,sp vs H Q E->vs.length=ps.length
 run:∀(A:Around) (outer:List Env) (s:Shared) (H:Hp) (args:Args) (us:List Value) (vs:List V) (Q:VK) (E:XK),Room k A->Env0 P w K mg base A outer s H->BindsTo s fd args (ps.zip us)->Vals vs us->sp vs H Q E ->
  codeAny (model P w) A (.call (.ref f) args) (CR CX outer P w H s Q E) s
theorem FnOk.imp {P:Program} {w:World} {K:PySem.W.Frag} {mg:Str->Option Value} {base:Heap} {CX:v8} {k:Nat} {f:Addr} {fd:FuncData} {ps:List Str} {sp sp':Sp} (F:FnOk P w K mg base CX k f fd ps sp)
  (h:∀vs H Q E,sp' vs H Q E->sp vs H Q E):FnOk P w K mg base CX k f fd ps sp' :=
 ⟨fun vs H Q E q=>F.len vs H Q E (h _ _ _ _ q),fun A outer s H args us vs Q E hr he hb hv hs=>F.run A outer s H args us vs Q E hr he hb hv (h _ _ _ _ hs)⟩
section
variable {X:Cx} {pins:List (Addr×Obj)} {σ:St} {H:Hp} {s s':Shared}
theorem Inv.env0 (I:Inv X pins σ H s):Env0 X.prog X.w X.K X.mg X.base X.A X.stack s H :=
 ⟨I.ok.frames,I.ok.mod,I.bs,Ze I.ok.bsz I.sz,I.stack,I.stkFree,I.hok,I.bare,I.tk⟩
theorem Inv.after {Q:VK} {u:Value} (I:Inv X pins σ H s) (h:CE X.stack X.prog X.w H s Q u s') (hle:s.toks<=s'.toks):EP X pins σ Q u s':=by
 obtain⟨v,H',os,bare,un,hok,r,q⟩:=h;obtain⟨hh,g,d,t,os'⟩:=s';obtain rfl:os'=s.os:=os;exact⟨v,H',I.call (h':=hh) (g':=g) (d':=d) (t':=t) (ch:=[]) un hok bare (fun b z=>absurd z (by simp)) (I.tkl' hle),r,q⟩
end
def v9 (sp:Sp) (dvs:List V) (E:XK) (t:TA):TE:=fun σ H Q=>t σ H fun vs H1=>sp (vs++dvs) H1 Q E
def Binds (K:PySem.W.Frag) (fd:FuncData) (ps:List Str) (ds:List Value):Prop :=
 ∀(s:Shared) (us:List Value),K.In s.heap->(us++ds).length=ps.length->BindsTo s fd ⟨us,[]⟩ (ps.zip (us++ds))
theorem Binds.all {K:PySem.W.Frag} {fd:FuncData} {ps:List Str} (h:∀us:List Value,us.length=ps.length->bindArgs fd ⟨us,[]⟩=pure (ps.zip us)):Binds K fd ps []:=fun s us _ hl=>by
 rw[AV]at hl ⊢;exact .of_eq (h us hl)
def rF (CX:v8) (X:Cx) (E:XK):Prop:=∀(pins:List (Addr×Obj)) (σ:St) (H:Hp) (s:Shared) (e:Value) (s':Shared),Inv X pins σ H s->CX X.stack H s E e s'->X.xe e s'
section
variable {X:Cx} {CX:v8} {k:Nat} {f C:Addr} {fd:FuncData} {ps:List Str} {sp:Sp} {dvs:List V} {ds:List Value} {E:XK} {x m:Str} {p pos apos:Pos} {e o:Expr} {es:List Expr} {ta:TE} {t:TA}
theorem EL {pins:List (Addr×Obj)} {σ:St} {H:Hp} {s:Shared} {Q:VK} {us:List Value} {vs:List V} (F:FnOk X.prog X.w X.K X.mg X.base CX k f fd ps sp) (hr:Room k X.A) (hb:Binds X.K fd ps ds) (hd:Vals dvs ds) (hx:rF CX X E)
  (I:Inv X pins σ H s) (r:Vals vs us) (h:sp (vs++dvs) H Q E):wpAny (model X.prog X.w) X.A (call (.ref f) us) (EP X pins σ Q) X.xe s:=by
 have r2:Vals (vs++dvs) (us++ds):=r.append hd;have hl:(us++ds).length=ps.length:=by rw[← r2.length];exact F.len _ _ _ _ h
 refine wpAny_call (rm (codeAny_mono (F.run X.A X.stack s H ⟨us,[]⟩ (us++ds) (vs++dvs) Q E hr I.env0 (hb s us I.kIn hl) r2 h) fun r s' hq hle=>?_));cases r with
 | error e=>exact hx pins σ H s e s' I hq
 | ok fl =>
  cases fl with
  | ret u=>exact I.after hq hle
  | next=>exact False.elim hq
  | brk=>exact False.elim hq
  | cont=>exact False.elim hq
theorem zc (F:FnOk X.prog X.w X.K X.mg X.base CX k f fd ps sp) (hr:Room k X.A) (hg:Gl X x) (hm:X.mg x=some (.ref f)) (hk:PySem.W.keepIn X.K (.ref f)=true) (hb:Binds X.K fd ps ds) (hd:Vals dvs ds) (hx:rF CX X E)
  (ha:PA X (e::es) t) (hdb:(x == ("__debug__":Str))=false:=by decide) (he:starEach (e::es) X.env=(false,eval e X.env)::starEach es X.env:=by rfl) (hpl:(backTo pos (starEach es X.env)).any (·.1)=false:=by rfl) :
  PE X (.Call (.Name x p) (e::es) [] pos) (v9 sp dvs E t):=by
 intro pins s σ H Q I h;refine BH (sI I hg hm ?_ hdb);refine PySem.W.callWith_K (h₀:=X.base) I.ok.mod.kin hk (bM (ha pos pins s σ H _ I h) fun us s1 ⟨vs,H1,I1,r,q⟩=>⟨I1.kIn,?_⟩) he hpl;exact EL F hr hb hd hx I1 r q
end
structure FnScope (N P:List Str) (sc:Scope):Prop where
 kind:sc.kind=.function
 co:sc.isCoroutine=false
 gen:sc.isGenerator=false
 nd:N.Nodup
 pre:N.take P.length=P
 par:∀x∈P,sc.names.lookup x=some .local∨sc.names.lookup x=some .cell
 nofree:∀y∈sc.names,y.2≠.free
theorem nA {kindOf:Str->Option NameKind} {x:Str}:∀{binds:List (Str×Value)} {m:Str->Option Value},(∀v,(x,v)∉binds)->bindL kindOf binds m x=m x
 | [],_,_=>rfl
 | (n,v)::r,m,h=>by
  unfold bindL;rw[nA fun w hw=>h w (Yc _ hw)];split
  ·have:x≠n:=by rintro rfl;exact h v Wd
   simp[this]
  ·rfl
theorem nB {kindOf:Str->Option NameKind} {x:Str}:∀{binds:List (Str×Value)} {m:Str->Option Value},(∀v,(x,v)∉binds)->bindC kindOf binds m x=m x
 | [],_,_=>rfl
 | (n,v)::r,m,h=>by
  unfold bindC;rw[nB fun w hw=>h w (Yc _ hw)];split
  ·rfl
  ·have:x≠n:=by rintro rfl;exact h v Wd
   simp[this]
theorem nC {kindOf:Str->Option NameKind} {x:Str} {v:Value}:∀{P:List Str} {vs:List Value} {i:Nat} {m:Str->Option Value},P.Nodup->P[i]?=some x->vs[i]?=some v->kindOf x=some .local ->
  bindL kindOf (P.zip vs) m x=some v
 | [],_,_,_,_,h,_,_=>by simp at h
 | _::_,[],_,_,_,_,h,_=>by simp at h
 | p::P,w::vs,0,m,nd,h1,h2,hk=>by
  simp at h1 h2;subst h1;subst h2;show bindL kindOf ((p,w)::P.zip vs) m p=_;unfold bindL;rw[nA fun v hv=>(Vg.mp nd).1 (B1 hv).1,Ae hk];simp
 | p::P,w::vs,i+1,m,nd,h1,h2,hk=>by
  show bindL kindOf ((p,w)::P.zip vs) m x=_;unfold bindL;exact nC (i:=i) (Vg.mp nd).2 (by simpa using h1) (by simpa using h2) hk
theorem nE {kindOf:Str->Option NameKind} {x:Str} {v:Value}:∀{P:List Str} {vs:List Value} {i:Nat} {m:Str->Option Value},P.Nodup->P[i]?=some x->vs[i]?=some v->kindOf x≠some .local ->
  bindC kindOf (P.zip vs) m x=some v
 | [],_,_,_,_,h,_,_=>by simp at h
 | _::_,[],_,_,_,_,h,_=>by simp at h
 | p::P,w::vs,0,m,nd,h1,h2,hk=>by
  simp at h1 h2;subst h1;subst h2;show bindC kindOf ((p,w)::P.zip vs) m p=_;unfold bindC;rw[nB fun v hv=>(Vg.mp nd).1 (B1 hv).1,Af hk];simp
 | p::P,w::vs,i+1,m,nd,h1,h2,hk=>by
  show bindC kindOf ((p,w)::P.zip vs) m x=_;unfold bindC;exact nE (i:=i) (Vg.mp nd).2 (by simpa using h1) (by simpa using h2) hk
def start (N:List Str) (vs:List V):St:=vs.map some++List.replicate (N.length-vs.length) none
def rG (CX:v8) (P:Program) (w:World) (K:PySem.W.Frag) (mg:Str->Option Value) (base:Heap) (N:List Str) (qual:Str) (scope:Scope) (f:Addr) (cd:Value) (A:Around) (outer:List Env) (s:Shared) (H:Hp) (E:XK):Cx where
 prog:=P
 w:=w
 K:=K
 mg:=mg
 base:=base
 A:=A.deeper (envOfC qual scope s.heap.objs.size f cd)
 N:=N
 s₀:=s
 H₀:=H
 env:=envOfC qual scope s.heap.objs.size f cd
 outer:=outer
 stack:=envOfC qual scope s.heap.objs.size f cd::outer
 ex:=[]
 calm:=true
 fn:=fun _=>true
 pn:=[]
 xe:=fun e s'=>wpAny (model P w) (A.deeper (envOfC qual scope s.heap.objs.size f cd)) (leaving (envOfC qual scope s.heap.objs.size f cd) e) (fun _ s''=>CX outer H s E e s'') (fun e' s''=>CX outer H s E e' s'') s'
theorem pV {sc:Scope} {n:Nat} {x:Str} (h:sc.names.lookup x=some .cell):∃c,(cellsFrom n sc.names []).lookup x=some c:=by
 have q:=PySem.W.cellsFrom_some sc.names n [] (.inl h);exact Vl.mp q
theorem uR {CX:v8} {P:Program} {w:World} {K:PySem.W.Frag} {mg:Str->Option Value} {base:Heap} {N ps:List Str} {qual:Str} {scope:Scope} {f:Addr} {cd:Value} {A:Around} {outer:List Env} {s s1:Shared} {H:Hp} {E:XK} {us:List Value} {vs:List V}
  (S:FnScope N ps scope) (hd:A.handled=none) (e0:Env0 P w K mg base A outer s H) (hl:vs.length=ps.length) (r:Vals vs us)
  (x:InCallC s s.heap.objs.size (bindL (envOfC qual scope s.heap.objs.size f cd).kindOf (ps.zip us) fun _=>none) (cellsFrom (s.heap.objs.size+1) scope.names []) (bindC (envOfC qual scope s.heap.objs.size f cd).kindOf (ps.zip us) fun _=>none) s1) (ht:0<s1.toks) :
  Inv (rG CX P w K mg base N qual scope f cd A outer s H E) [] (start N vs) H s1:=by
 have hpl:ps.length<=N.length:=by have:=congrArg List.length S.pre;rw[BV]at this;lia
 obtain⟨h1,tk,rfl,hk⟩:=x.done;have noA:∀b:Addr,b∉(rG CX P w K mg base N qual scope f cd A outer s H E).ex:=fun b z=>absurd (show b∈([]:List Addr) from z) (by simp)
 refine⟨⟨e0.mod,S.kind,rfl,rfl,Xa _,fun y z c h1 h2=>?_,fun y hy=>?_,fun y c _ h=>?_,fun _=>hd,Around.frames_deeper e0.frames,.inr ⟨rfl,rfl⟩,fun b z=>absurd z (noA b),e0.bs,e0.bsz,fun b _ _=>noA b,fun b z=>absurd z (noA b),e0.funs,e0.frf⟩,
  rfl,e0.bare,Un.kept hk,⟨_,x.toInCall.ns,fun i y v h1 h2 h3=>?_⟩,fun y c h=>⟨_,x.cell y c h⟩,e0.hok.fresh (Xa _),fun y c h=>?_,fun p hp=>absurd (show p∈([]:List (Addr×Obj)) from hp) (by simp),e0.hok.kept hk,?_,ht⟩
 ·exact name_of_addr x.apart (PySem.mem_of_lookup h1) (PySem.mem_of_lookup h2)
 ·have hy:scope.names.lookup y=some .cell∨scope.names.lookup y=some .free:=hy;rcases hy with hy|hy
  ·exact pV hy
  ·exact absurd rfl (S.nofree _ (PySem.mem_of_lookup hy))
 ·exact A0 (x.above y c (PySem.mem_of_lookup h))
 ·have hi:i<vs.length:=by
   unfold start at h2;by_cases hi:i<vs.length
   ·exact hi
   ·rw[Vh (by simpa using hi)]at h2
    rw[Ql]at h2;split at h2<;>cases h2
  have ha:vs[i]?=some v:=by
   unfold start at h2;rw[Wj (by simpa using hi),Wb]at h2
   cases e:vs[i]? with
   | none=>rw[e]at h2;cases h2
   | some a=>rw[e]at h2;cases h2;rfl
  obtain⟨u,hu,rv⟩:=r.get ha;have hp:ps[i]?=some y:=by
   rw[← S.pre,List.getElem?_take_of_lt (by lia)];exact h1
  have ndP:ps.Nodup:=by rw[← S.pre];exact S.nd.sublist (List.take_sublist _ _)
  refine⟨u,rv,?_⟩;rcases S.par y (Xb hp) with k|k
  ·exact .inl ⟨k,nC ndP hp hu k⟩
  ·obtain⟨c,e⟩:=pV (n:=s.heap.objs.size+1) k;refine .inr ⟨.inl k,c,e,?_⟩;have q:=x.cell y c e;rw[nE ndP hp hu (by show scope.names.lookup y≠_;rw[k];decide)]at q
   exact q
 ·exact e0.hok.fresh (A0 (x.above y c (PySem.mem_of_lookup h)))
 ·unfold start;show _=N.length;rw[Va,Ya,Vm];lia
theorem Hx {CX:v8} {P:Program} {w:World} {K:PySem.W.Frag} {mg:Str->Option Value} {base:Heap} {k:Nat} {f:Addr} {name qual:Str} {params:Arguments} {body:List Stmt} {scope:Scope} {dV kV doc pm cdv ct oc:Value} {an od:Option Addr}
  {osl:Array (Option Value)} {N ps:List Str} {sp:Sp} (lk:K.lookup f=some ⟨oc,od,.func (PySem.W.fnOf name qual params body scope dV kV doc pm an cdv ct),osl⟩) (hcd:PySem.W.codeIn K cdv qual=true) (S:FnScope N ps scope)
  (len:∀vs H Q E,sp vs H Q E->vs.length=ps.length)
  (hbody:∀(A:Around) (outer:List Env) (s:Shared) (H:Hp) (vs:List V) (Q:VK) (E:XK),Room k (A.deeper (envOfC qual scope s.heap.objs.size f cdv))->sp vs H Q E ->
   ∃t,PSs (rG CX P w K mg base N qual scope f cdv A outer s H E) body t/\t { nx:=fun _ H'=>Q .non H',rt:=Q } (start N vs) H) :
  FnOk P w K mg base CX (k+1) f (PySem.W.fnOf name qual params body scope dV kV doc pm an cdv ct) ps sp:=by
 refine⟨len,fun A outer s H args us vs Q E hr e0 hb r hsp=>?_⟩;have hl:=len _ _ _ _ hsp;have KX:K.In s.heap:=e0.mod.kin.keeps fun b o e=>(e0.bs b o e).1;have lim:s.heap.NoLimit:=e0.mod.nolimit.keeps fun b o e=>(e0.bs b o e).1;have hkind:∀y∈ps.zip us,scope.names.lookup y.1=some .local∨(scope.names.lookup y.1=some .cell/\((cellsFrom (s.heap.objs.size+1) scope.names []).lookup y.1).isSome=true):=fun⟨n,v⟩ hy=>by
  rcases S.par n (B1 hy).1 with q|q
  ·exact .inl q
  ·exact .inr ⟨q,PySem.W.cellsFrom_some _ _ _ (.inl q)⟩
 refine codeAny_call_function hr.depth (KX _ _ lk) rfl S.co S.gen rfl (PySem.W.codeRec_of KX hcd) (hb _ _ _ _ ?_);refine bw (wpAny_newFunctionEnv_cells S.kind hkind fun env he s1 x hle=>?_);subst he;refine⟨lim.keeps x.toInCall.keep,codeAny_func ?_⟩;obtain⟨t,ht,hq⟩:=hbody A outer s H vs Q E (hr.deeper _) hsp;have I:Inv (rG CX P w K mg base N qual scope f cdv A outer s H E) [] (start N vs) H s1:=uR S hr.hd e0 hl r x (Zc e0.tk hle);refine Az (ht [] s1 (start N vs) H _ I hq) (fun fl s' hs=>?_) fun e s' hs=>hs;have fin:∀{σ':St} {H':Hp} {v:V} {u:Value},Inv (rG CX P w K mg base N qual scope f cdv A outer s H E) [] σ' H' s'->RelV v u->Q v H'->CE outer P w H s Q u s' :=
  fun {σ' H' v u} J rv q=>⟨v,H',J.os,J.bare,J.base,J.hok,rv,q⟩
 cases fl with
 | ret u =>
  obtain⟨v,σ',H',J,rv,q⟩:=hs;exact fin J rv q
 | next =>
  obtain⟨σ',H',J,q⟩:=hs;exact fin (v:=V.non) (u:=Value.none) J rfl q
 | brk =>
  obtain⟨_,_,_,q⟩:=hs;exact False.elim q
 | cont =>
  obtain⟨_,_,_,q⟩:=hs;exact False.elim q
end L2
namespace L2
open PySem PySem.Spec PyProof.Rows
section
variable {X:Cx} {x:Str} {p pos:Pos} {e:Expr} {es:List Expr} {t:TA} {id T:String} {r:List V->Hp->VK->Prop}
def Hy (r:List V->Hp->VK->Prop) (t:TA):TE:=fun σ H Q=>t σ H fun vs H1=>r vs H1 Q
theorem aA (hc:CallR X (.builtin id) r) (hg:Gl X x) (hm:X.mg x=none) (hv:bootBuiltins x=some (.builtin id)) (ha:PA X (e::es) t) (hn:x≠"__name__":=by decide) (hdb:(x == ("__debug__":Str))=false:=by decide)
  (he:starEach (e::es) X.env=(false,eval e X.env)::starEach es X.env:=by rfl) (hpl:(backTo pos (starEach es X.env)).any (·.1)=false:=by rfl):PE X (.Call (.Name x p) (e::es) [] pos) (Hy r t):=by
 intro pins s σ H Q I h;refine BH (fI I hg hm hv ?_ hn hdb);exact PyProof.Rows.callWith_builtin1 (bM (ha pos pins s σ H _ I h) fun us s1 ⟨vs,H1,I1,r1,q1⟩=>hc pins s1 σ H1 vs us Q I1 r1 q1) he hpl
theorem bv (hc:CallR X (.type T) r) (hg:Gl X x) (hm:X.mg x=none) (hv:bootBuiltins x=some (.type T)) (ha:PA X (e::es) t) (hn:x≠"__name__":=by decide) (hdb:(x == ("__debug__":Str))=false:=by decide)
  (he:starEach (e::es) X.env=(false,eval e X.env)::starEach es X.env:=by rfl) (hpl:(backTo pos (starEach es X.env)).any (·.1)=false:=by rfl):PE X (.Call (.Name x p) (e::es) [] pos) (Hy r t):=by
 intro pins s σ H Q I h;refine BH (fI I hg hm hv ?_ hn hdb);exact Aq (bM (ha pos pins s σ H _ I h) fun us s1 ⟨vs,H1,I1,r1,q1⟩=>hc pins s1 σ H1 vs us Q I1 r1 q1) he hpl
end
end L2
namespace L2
open PySem PySem.Spec PyProof.Rows
section
variable {κ:Type} [DecidableEq κ]
def gy (kvs:List (κ×V)) (k:κ):Option V:=(kvs.find? fun kv=>decide (kv.1=k)).map (·.2)
def putK (kvs:List (κ×V)) (k:κ) (v:V):List (κ×V) :=
 if (kvs.any fun kv=>decide (kv.1=k))=true then kvs.map (fun kv=>if kv.1=k then(kv.1,v) else kv) else kvs++[(k,v)]
theorem gz {p:κ×V} {r:List (κ×V)} {k:κ} (e:p.1=k):gy (p::r) k=some p.2:=by simp[gy,Xh,e]
theorem gA {p:κ×V} {r:List (κ×V)} {k:κ} (e:¬ p.1=k):gy (p::r) k=gy r k:=by simp[gy,Xh,e]
theorem pW (k:κ):∀kvs:List (κ×V),(kvs.any fun kv=>decide (kv.1=k))=(gy kvs k).isSome
 | []=>rfl
 | p::r=>by
  rw[AR];by_cases e:p.1=k
  ·simp only[gz e,Ag e,Bool.true_or,Option.isSome_some]
  ·rw[gA e,Ad e,Bool.false_or];exact pW k r
theorem kH (kvs:List (κ×V)) (k:κ) (v:V):(putK kvs k v).length<=kvs.length+1:=by
 unfold putK;split
 ·rw[Ya];lia
 ·rw[Va,Zd,Zg];lia
theorem RelO.isSome_eq {o:Option V} {u:Option Value} (r:RelO o u):o.isSome=u.isSome:=by
 cases o with
 | none=>cases u with
  | none=>rfl
  | some _=>exact(show False from r).elim
 | some _=>cases u with
  | none=>exact(show False from r).elim
  | some _=>rfl
theorem KV.val {kvs:List (κ×V)} {vs:List (κ×Value)} (r:KV kvs vs) (k:κ):RelO (gy kvs k) (valueAt vs k):=by
 unfold KV at r;induction r with
 | nil=>exact True.intro
 | @cons p q ps qs h t ih =>
  obtain⟨h1,h2⟩:=h;by_cases e:p.1=k
  ·have e':q.1=k:=h1.symm.trans e;have b:valueAt (q::qs) k=some q.2:=by simp[valueAt,Xh,e']
   rw[gz e,b];exact h2
  ·have e':¬ q.1=k:=fun z=>e (h1.trans z);have b:valueAt (q::qs) k=valueAt qs k:=by simp[valueAt,Xh,e']
   rw[gA e,b];exact ih
theorem KV.any {kvs:List (κ×V)} {vs:List (κ×Value)} (r:KV kvs vs) (k:κ):(kvs.any fun kv=>decide (kv.1=k))=vs.any fun kv=>decide (kv.1=k):=by
 unfold KV at r;induction r with
 | nil=>rfl
 | cons h t ih=>rw[AR,AR,ih,h.1]
theorem KV.repl {kvs:List (κ×V)} {vs:List (κ×Value)} (r:KV kvs vs) (k:κ) {y:V} {u:Value} (ry:RelV y u) :
  KV (kvs.map fun kv=>if kv.1=k then(kv.1,y) else kv) (vs.map fun kv=>if kv.1=k then(kv.1,u) else kv):=by
 unfold KV at r ⊢;induction r with
 | nil=>exact .nil
 | @cons p q ps qs h t ih =>
  rw[Vd,Vd];refine .cons ?_ ih;obtain⟨h1,h2⟩:=h;by_cases e:p.1=k
  ·rw[Ae e,Ae (h1.symm.trans e)];exact⟨h1,ry⟩
  ·rw[Af e,Af (fun z=>e (h1.trans z))];exact⟨h1,h2⟩
theorem KV.put {kvs:List (κ×V)} {vs:List (κ×Value)} (r:KV kvs vs) (k:κ) {y:V} {u:Value} (ry:RelV y u):KV (putK kvs k y) (stored vs k u):=by
 unfold putK stored;rw[r.any k];by_cases e:(vs.any fun kv=>decide (kv.1=k))=true
 ·rw[Ae e,Ae e];exact r.repl k ry
 ·rw[Af e,Af e];exact Paired.snoc r ⟨rfl,ry⟩
theorem KV.length {kvs:List (κ×V)} {vs:List (κ×Value)} (r:KV kvs vs):kvs.length=vs.length:=Paired.length r
end
theorem sQ {P:Program} {w:World} {k:Key} {u:Value} (r:RelV (kV k) u):(aF P w).is k u=true:=by
 cases k with
 | inl i=>obtain⟨t,e⟩:=(show ∃t,u=Value.int i t from r);subst e;exact pL P w i t
 | inr x=>obtain⟨t,e⟩:=(show ∃t,u=Value.str x t from r);subst e;exact pM P w x t
theorem jZ {P:Program} {w:World}:∀{ks:List Key} {us:List Value},Vals (ks.map kV) us->ItemsAre (aF P w) ks us
 | [],_,r=>by rw[List.map_nil]at r;cases r;exact .nil
 | k::ks,_,r=>by
  rw[Vd]at r;cases r with
  | cons h t=>exact .cons (sQ h) (jZ t)
abbrev KT (H:Hp):List (aN×V)->List (aN×Addr×Value)->Prop:=Paired fun p q=>p.1=q.1/\TupK H q.2.1 p.1/\RelV p.2 q.2.2
theorem KT.val {H:Hp} {kvs:List (aN×V)} {xs:List (aN×Addr×Value)} (r:KT H kvs xs) (k:aN):RelO (gy kvs k) ((atKey xs k).map (·.2)):=by
 induction r with
 | nil=>exact True.intro
 | @cons p q ps qs h t ih =>
  obtain⟨h1,_,h2⟩:=h;by_cases e:p.1=k
  ·have e':q.1=k:=h1.symm.trans e;have b:atKey (q::qs) k=some q.2:=by simp[atKey,Xh,e']
   rw[gz e,b];exact h2
  ·have e':¬ q.1=k:=fun z=>e (h1.trans z);have b:atKey (q::qs) k=atKey qs k:=by simp[atKey,Xh,e']
   rw[gA e,b];exact ih
theorem KT.repl {H:Hp} {kvs:List (aN×V)} {xs:List (aN×Addr×Value)} (r:KT H kvs xs) (k:aN) {y:V} {u:Value} (ry:RelV y u) :
  KT H (kvs.map fun kv=>if kv.1=k then(kv.1,y) else kv) (xs.map (putAt k u)):=by
 induction r with
 | nil=>exact .nil
 | @cons p q ps qs h t ih =>
  rw[Vd,Vd];refine .cons ?_ ih;obtain⟨h1,h2,h3⟩:=h;unfold putAt;by_cases e:p.1=k
  ·rw[Ae e,Ae (h1.symm.trans e)];exact⟨h1,h2,ry⟩
  ·rw[Af e,Af (fun z=>e (h1.trans z))];exact⟨h1,h2,h3⟩
theorem KT.put {H:Hp} {kvs:List (aN×V)} {xs:List (aN×Addr×Value)} (r:KT H kvs xs) (k:aN) {b:Addr} {y:V} {u:Value} (hb:TupK H b k) (ry:RelV y u) :
  KT H (putK kvs k y) (storedH xs k b u):=by
 have e:(kvs.any fun kv=>decide (kv.1=k))=(atKey xs k).isSome:=by
  rw[pW,(r.val k).isSome_eq,Bc]
 unfold putK storedH;rw[e];by_cases q:(atKey xs k).isSome=true
 ·rw[Ae q,Ae q];exact r.repl k ry
 ·rw[Af q,Af q];exact Paired.snoc r ⟨rfl,hb,ry⟩
theorem KT.keeps {H H':Hp} {kvs:List (aN×V)} {xs:List (aN×Addr×Value)} (r:KT H kvs xs) (ht:∀b ys,H b=some (.tup ys)->H' b=some (.tup ys)):KT H' kvs xs :=
 Paired.mapP r fun _ _ z=>⟨z.1,TupK.stay ht z.2.1,z.2.2⟩
section
variable {P:Program} {w:World} {H:Hp} {h:Heap} {a:Addr}
theorem Dj {u:HO} (ok:HOk P w H h) (e:Rd H a u):ObjOk P w H h a u:=e.ok ok
theorem sR {kvs:List (Key×V)} (ok:HOk P w H h) (e:Rd H a (.dK kvs)):kvs.length<=sizeLine/\(a == sysModules)=false/\∃vs,KV kvs vs/\h.DictOf (aF P w) a vs :=
 show ObjOk P w H h a (.dK kvs) from Dj ok e
theorem Hz {kvs:List (Key×V)} (ok:HOk P w H h) (e:H a=some (.dK kvs)):kvs.length<=sizeLine/\(a == sysModules)=false/\∃vs,KV kvs vs/\h.DictOf (aF P w) a vs:=sR ok (.inl e)
theorem pX {ks:List Key} (ok:HOk P w H h) (e:H a=some (.tup (ks.map kV))):IsTupleKey (aF P w) h ks a:=by
 obtain⟨_,its,r,o,h1,h2,n,h3⟩:=(show ObjOk P w H h a (.tup (ks.map kV)) from ok a _ e);exact⟨o,its.toArray,n,h1,h2,h3,by simpa using jZ r⟩
theorem j5 {k:aN} (ok:HOk P w H h) (e:TupK H a k):(iy P w).is h k a:=by
 cases k with
 | inl ks=>exact pX ok e
 | inr ks =>
  obtain⟨n0,bs,e,r⟩:=e;obtain⟨lz,its,q,o,h1,h2,n,h3⟩:=(show ObjOk P w H h a (.tup (bs.map V.ref)) from ok a _ e);refine⟨n0,o,its.toArray,n,h1,h2,h3,?_⟩;clear e n0 h3 lz;rw[List.toList_toArray];induction r generalizing its with
  | nil=>cases q;exact .nil
  | cons z _ ih =>
   rw[Vd]at q;cases q with
   | cons q1 q2 =>
    cases (show _=Value.ref _ from q1);exact .cons (pX ok z) (ih _ q2)
theorem wa {ep:Nat×List Addr} {kvs:List (aN×V)} (ok:HOk P w H h) (e:Rd H a (.dT ep kvs)):kvs.length<=sizeLine/\(a == sysModules)=false /\
  ∃xs,KT H kvs xs/\h.DictOfH (iy P w) a xs:=by
 obtain⟨z,y,xs,r,_,o,es,h1,h2,h3,h4,h5⟩:=(show ObjOk P w H h a (.dT ep kvs) from Dj ok e);refine⟨z,y,xs,r,o,es,ep.1,h1,h2,h3,h4,fun x hx=>?_,h5⟩;have all:∀{l:List (aN×V)} {m:List (aN×Addr×Value)},KT H l m->∀x∈m,(iy P w).is h x.1 x.2.1:=by
  intro l m q;induction q with
  | nil=>intro x hx;exact nomatch hx
  | @cons p q ps qs hq t ih =>
   intro x hx;rcases Xd.mp hx with e|hx
   ·subst e;exact j5 ok (by rw[← hq.1];exact hq.2.1)
   ·exact ih x hx
 exact all r x hx
end
section
variable {P:Program} {w:World} {H:Hp} {h:Heap} {a:Addr}
theorem Dk {ep:Nat×List Addr} {kvs:List (aN×V)} (ok:HOk P w H h) (e:H a=some (.dT ep kvs)):kvs.length<=sizeLine/\(a == sysModules)=false /\
  ∃xs,KT H kvs xs/\xs.map (·.2.1)=ep.2/\h.DictOfH (iy P w) a xs:=by
 obtain⟨z,y,xs,r,ra,o,es,h1,h2,h3,h4,h5⟩:=(show ObjOk P w H h a (.dT ep kvs) from ok a _ e);refine⟨z,y,xs,r,ra,o,es,ep.1,h1,h2,h3,h4,fun x hx=>?_,h5⟩;have all:∀{l:List (aN×V)} {m:List (aN×Addr×Value)},KT H l m->∀x∈m,(iy P w).is h x.1 x.2.1:=fun {l m} q=>by
  induction q with
  | nil=>exact fun x hx=>nomatch hx
  | cons hq t ih =>
   intro x hx;rcases Xd.mp hx with e'|hx
   ·subst e';exact j5 ok (by rw[← hq.1];exact hq.2.1)
   ·exact ih x hx
 exact all r x hx
end
def DGet (H:Hp) (a:Addr) (y:V) (r:Option V):Prop :=
 (∃kvs k,Rd H a (.dK kvs)/\y=kV k/\r=gy kvs k)∨∃ep kvs k b,Rd H a (.dT ep kvs)/\y=.ref b/\TupK H b k/\r=gy kvs k
def uS (as:List Addr) (kvs:List (aN×V)) (k:aN) (b:Addr):List Addr:=if (gy kvs k).isSome=true then as else as++[b]
def HA (H:Hp) (a:Addr) (y v:V) (R:Hp->Prop):Prop :=
 (∃kvs k,H a=some (.dK kvs)/\y=kV k/\kvs.length<sizeLine/\R (upd H a (.dK (putK kvs k v)))) ∨
 ∃ep kvs k b,H a=some (.dT ep kvs)/\y=.ref b/\TupK H b k/\kvs.length<sizeLine/\∀n,R (upd H a (.dT (n,uS ep.2 kvs k b) (putK kvs k v)))
theorem DGet.k {H:Hp} {a:Addr} {kvs:List (Key×V)} {k:Key} (e:H a=some (.dK kvs)):DGet H a (kV k) (gy kvs k):=.inl ⟨kvs,k,.inl e,rfl,rfl⟩
theorem DGet.t {H:Hp} {a b:Addr} {ep:Nat×List Addr} {kvs:List (aN×V)} {k:aN} (e:H a=some (.dT ep kvs)) (eb:TupK H b k):DGet H a (.ref b) (gy kvs k):=.inr ⟨ep,kvs,k,b,.inl e,rfl,eb,rfl⟩
theorem EM {H:Hp} {kvs:List (aN×V)} {xs:List (aN×Addr×Value)} {as:List Addr} {k:aN} {b:Addr} {u:Value} (ra:xs.map (·.2.1)=as) (rel:KT H kvs xs):(storedH xs k b u).map (·.2.1)=uS as kvs k b:=by
 have e:(gy kvs k).isSome=(atKey xs k).isSome:=by rw[(rel.val k).isSome_eq,Bc]
 unfold storedH uS;rw[e];by_cases q:(atKey xs k).isSome=true
 ·rw[Ae q,Ae q,← ra,Xe];refine Wf fun x _=>?_;show(putAt k u x).2.1=x.2.1;unfold putAt;split<;>rfl
 ·rw[Af q,Af q,Ve,ra];rfl
section
variable {X:Cx} {pins:List (Addr×Obj)} {σ:St} {H:Hp} {s:Shared} {a:Addr} {y v:V} {u r:Value} {o:Option V} {A:Around} {E:Value->Shared->Prop}
theorem Inv.big (I:Inv X pins σ H s):sysModules<s.heap.objs.size:=by
 have h:mainGlobals<s.heap.objs.size:=(I.mod.glob.keeps I.bk).lt;exact Bm (by decide) h
theorem uT {Q:Value->Shared->Prop} (hu:A.units+2<cLine) (I:Inv X pins σ H s) (g:DGet H a y (some v)) (ry:RelV y u) (h:∀w' s',Inv X pins σ H s'->RelV v w'->Q w' s') :
  wpAny (model X.prog X.w) A (getItem (.ref a) u) Q E s:=by
 rcases g with⟨kvs,k,e,ey,l⟩|⟨ep,kvs,k,b,e,ey,eb,l⟩
 ·subst ey;obtain⟨z,hd,vs,rel,dd⟩:=sR I.hok e;obtain⟨w',hw,rw'⟩:=RelO.some_of (v:=v) (o:=valueAt vs k) (by rw[l];exact rel.val k)
  exact wpAny_getItem_of (sQ ry) dd.mapOf hw (h w' _ (I.tok _) rw')
 ·subst ey;cases (show u=Value.ref b from ry);obtain⟨z,hd,xs,rel,dd⟩:=wa I.hok e;have tkp:=I.tk;obtain⟨w',hw,rw'⟩:=RelO.some_of (v:=v) (o:=(atKey xs k).map (·.2)) (by rw[l];exact rel.val k)
  obtain⟨p,hp,hp2⟩:=Xc.mp hw;refine wpAny_getItem_heap (iU hu) (j5 I.hok eb) dd hp ?_;rw[hp2];exact h w' _ (I.tok _) rw'
theorem zd {Q:Value->Shared->Prop} (hu:A.units+2<cLine) (I:Inv X pins σ H s) (g:DGet H a y o) (ry:RelV y u) (h:∀s',Inv X pins σ H s'->Q (.bool (!o.isSome)) s') :
  wpAny (model X.prog X.w) A (compareOp .NotIn u (.ref a)) Q E s:=by
 rcases g with⟨kvs,k,e,ey,l⟩|⟨ep,kvs,k,b,e,ey,eb,l⟩
 ·subst ey;obtain⟨z,hd,vs,rel,dd⟩:=sR I.hok e;refine wpAny_notIn_of (sQ ry) hd dd.mapOf ?_;rw[← (rel.val k).isSome_eq,← l];exact h _ (I.tok _)
 ·subst ey;cases (show u=Value.ref b from ry);obtain⟨z,hd,xs,rel,dd⟩:=wa I.hok e;have tkp:=I.tk;refine wpAny_notIn_heap (iU hu) (j5 I.hok eb) hd dd ?_;have q:=(rel.val k).isSome_eq;rw[Bc]at q;rw[← q,← l];exact h _ (I.tok _)
theorem on {h':Heap} {t':Nat} {ob:HO} (I:Inv X pins σ H s) (mu:Hj (H a)) (hs:Heap.SameBut a s.heap h') (he:∃q,h'.get? a=some q) (new:ObjOk X.prog X.w (upd H a ob) h' a ob) (ht:0<t':=by first|assumption|exact Wg _|exact Inv.tk (by assumption)|exact Inv.tkl (by assumption) (by assumption)|lia) :
  Inv X pins σ (upd H a ob) { s with heap:=h',toks:=t' } :=
 I.write (x:=a) (e:=a) mu (.inl rfl) (fun b q hb z=>(hs.2 b hb).trans z) he new
theorem EN {P:Program} {w:World} {H':Hp} {h':Heap} {kvs:List (Key×V)} {vs:List (Key×Value)} (z:kvs.length<=sizeLine) (hd:(a == sysModules)=false) (rel:KV kvs vs) (dd:h'.DictOf (aF P w) a vs) :
  ObjOk P w H' h' a (.dK kvs):=⟨z,hd,vs,rel,dd⟩
theorem uU {R:Hp->Prop} {Q:Unit->Shared->Prop} (hu:A.units+2<cLine) (I:Inv X pins σ H s) (g:HA H a y v R) (ry:RelV y u) (rv:RelV v r) (h:∀s' H',Inv X pins σ H' s'->R H'->Q () s') :
  wpAny (model X.prog X.w) A (setItem (.ref a) u r) Q E s:=by
 rcases g with⟨kvs,k,e,ey,l,eH⟩|⟨ep,kvs,k,b,e,ey,eb,l,eH⟩
 ·subst ey;obtain⟨z,hd,vs,rel,dd⟩:=Hz I.hok e;have hz:vs.length<=sizeLine:=by rw[← rel.length];exact z
  have hl:(putK kvs k v).length<=sizeLine:=by have:=kH kvs k v;lia
  refine wpAny_setItem_pairs (hsz:=hz) (sQ ry) dd fun h' dd' hs=>h _ _ ?_ eH;have he:∃q,h'.get? a=some q:=let ⟨q,_,_,hq,_⟩:=dd';⟨q,hq⟩;exact on I (by rw[e];exact True.intro) hs he (EN hl hd (rel.put k rv) dd')
 ·subst ey;cases (show u=Value.ref b from ry);obtain⟨z,hd,xs,rel,ra0,dd⟩:=Dk I.hok e;have tkp:=I.tk;have hz:xs.length<=sizeLine:=by rw[← Paired.length rel];exact z
  have hl:(putK kvs k v).length<=sizeLine:=by have:=kH kvs k v;lia
  have ra:xs.map (·.2.1)=ep.2:=ra0;refine wpAny_setItem_heap (hsz:=hz) (iU hu) (j5 I.hok eb) dd fun h' dd' hs=>?_;obtain⟨q,es,ep',hq,h2,h3,h4,_,h5⟩:=dd';refine h _ _ ?_ (eH ep');refine on I (by rw[e];exact True.intro) hs ⟨q,hq⟩ ⟨hl,hd,_,(rel.put k eb rv).keeps fun c ys ec=>?_,EM ra rel,q,es,hq,h2,h3,h4,h5⟩
  rw[aB (Dc ec e (fun z=>nomatch z))];exact ec
end
def ze (i:Expr):Prop:=∀ov iv,subscripted i false ov iv=operate [ov,iv] (getItem ov iv)
theorem sS {prog:Program} {w:World} {A:Around} {E:Value->Shared->Prop} {s:Shared} {env:Env} {value slice:Expr} {pos:Pos} {T id:String} {Q:Value->Shared->Prop}
  (hl:typeLookup (.type T) "__getitem__"=pure (some (.builtin id))) (hs:ze slice)
  (h:wpAny (model prog w) A (eval value env) (fun o s₁=>wpAny (model prog w) A (eval slice env) (fun i s₂=>s₂.TypeIs o T/\wpAny (model prog w) A (getItem o i) Q E s₂) E s₁) E s) :
  wpAny (model prog w) A (eval (.Subscript value slice pos) env) Q E s:=by
 refine Subscript_ (Az h (fun o s₁ h₁=>Az h₁ (fun i s₂ h₂=>?_) fun _ _ x=>x) fun _ _ x=>x);obtain⟨hT,h₂⟩:=h₂;unfold subscriptTail;refine Aa ?_;rw[getitemInPython_of_ne hT.not_modules];refine Aa (AT hT hl ?_);have fin:wpAny (model prog w) A (subscripted slice false o i) (fun r s₃=>wpAny (model prog w) A (letTemporaryGo value o r >>= fun _=>pure r) Q E s₃) E s₂:=by
  rw[hs o i];exact wpAny_operating (Az h₂ (fun r s₃ h₃=>Aa (wpAny_letTemporaryGo (Ac h₃))) fun _ _ x=>x)
 first
  | exact Ac (Aa fin)
  | exact Aa (Ac (Aa fin))
  | exact Aa fin
theorem pY {X:Cx} {pins:List (Addr×Obj)} {σ:St} {H:Hp} {s:Shared} {a:Addr} {y:V} {o:Option V} (I:Inv X pins σ H s) (g:DGet H a y o):s.TypeIs (.ref a) "dict":=by
 rcases g with⟨kvs,k,e,_,_⟩|⟨ep,kvs,k,b,e,_,_,_⟩
 ·obtain⟨_,_,vs,_,dd⟩:=sR I.hok e;exact dd.typeIs
 ·obtain⟨_,_,xs,_,dd⟩:=wa I.hok e;exact dd.typeIs
def HB (td ty:TE):TE:=fun σ H Q=>td σ H fun x H1=>ty σ H1 fun y H2=>∃a v,x=.ref a/\DGet H2 a y (some v)/\Q v H2
section
variable {X:Cx} {o i e value:Expr} {pos pos' tpos:Pos} {td ty tv:TE}
theorem zf (hu:X.A.units+2<cLine) (ho:PE X o td) (hi:PE X i ty) (hs:ze i):PE X (.Subscript o i pos) (HB td ty):=by
 intro pins s σ H Q I h;refine sS PySem.F.slot_dict_getitem.lookup hs (bM (ho pins s σ H _ I h) fun u s1 ⟨x,H1,I1,rx,q1⟩=>bM (hi pins s1 σ H1 _ I1 q1) fun iv s2 zz9=>?_);obtain⟨y,H2,I2,ry,a,v,ex,g,q2⟩:=zz9;subst ex;obtain rfl:u=Value.ref a:=rx;exact⟨pY I2 g,uT hu I2 g ry fun w' s3 I3 rw'=>⟨v,H2,I3,rw',q2⟩⟩
end
theorem pZ {P:Program} {w:World} {H:Hp} (h:Heap) (hb:sysModules<h.objs.size):ObjOk P w H (h.push { cls:=.type "dict",data:=.dict #[] }) h.objs.size (.dT (0,[]) []) :=
 ⟨Wh _,beq_eq_false_iff_ne.mpr (Ne.symm (Xf hb)),[],.nil,rfl,_,#[],Ah _ rfl,⟨rfl,rfl,rfl⟩,rfl,rfl,List.nodup_nil⟩
def wc:TE:=fun _ H Q=>∀p,H p=none->Q (.ref p) (upd H p (.dT (0,[]) []))
section
variable {X:Cx} {pos:Pos}
theorem gB:PE X (.Dict [] [] pos) wc:=fun pins s σ H Q I h =>
 wpAny_Dict_empty ⟨.ref s.heap.objs.size,_,I.laid (a:=s.heap.objs.size) (o:=.dT (0,[]) []) (t':=s.toks) (fun _ _ q=>Ab _ q) (Xa _) (pZ s.heap I.big),rfl,h _ (I.hok.fresh (Xa _))⟩
end
def wd:List (TE×TE)->St->Hp->(List (V×V)->Hp->Prop)->Prop
 | [],_,H,Q=>Q [] H
 | (tk,tv)::r,σ,H,Q=>tk σ H fun x H1=>tv σ H1 fun y H2=>wd r σ H2 fun ps H3=>Q ((x,y)::ps) H3
abbrev VV:List (V×V)->List (Value×Value)->Prop:=Paired fun p q=>RelV p.1 q.1/\RelV p.2 q.2
def Jd (X:Cx) (pos:Pos) (keys:List (Option Expr)) (values:List Expr) (trs:List (TE×TE)):Prop :=
 ∀(pins:List (Addr×Obj)) (s:Shared) (σ:St) (H:Hp) (Q:List (V×V)->Hp->Prop),Inv X pins σ H s->wd trs σ H Q ->
  wpAny (model X.prog X.w) X.A (evalPairs (pairTrees keys values X.env pos)) (fun vs s'=>∃ps H',Inv X pins σ H' s'/\VV ps vs/\Q ps H') X.xe s
theorem zg {X:Cx} {pos:Pos}:Jd X pos [] [] []:=fun pins s σ H Q I h=>pairTrees_nil_walk ⟨[],H,I,.nil,h⟩
theorem we {X:Cx} {pos:Pos} {k v:Expr} {ks:List (Option Expr)} {vs:List Expr} {tk tv:TE} {trs:List (TE×TE)} (hk:PE X k tk) (hv:PE X v tv) (hr:Jd X pos ks vs trs) :
  Jd X pos (some k::ks) (v::vs) ((tk,tv)::trs):=fun pins s σ H Q I h =>
 pairTrees_cons_walk (bM (hk pins s σ H _ I h) fun u s1 ⟨x,H1,I1,rx,q1⟩=>bM (hv pins s1 σ H1 _ I1 q1) fun w2 s2 ⟨y,H2,I2,ry,q2⟩ =>
  bM (hr pins s2 σ H2 _ I2 q2) fun ws s3 ⟨ps,H3,I3,rel,q3⟩=>⟨(x,y)::ps,H3,I3,.cons ⟨rx,ry⟩ rel,q3⟩)
end L2
namespace HT
open PySem PyProof.Rows
theorem rcLt_int (A:Around) (s:Shared) (a:Int) (t:Tok) (c:Int) (u:Tok) (prog:Program) (w:World) (E:Value->Shared->Prop) (Q:Value->Shared->Prop) (h:Q (.bool (decide (a<c))) s) :
  wpAny (model prog w) A (richCompare .Lt (.int a t) (.int c u)) Q E s :=
 (PyProof.Rows.lt_int h:wpAny (model prog w) A (compareOp .Lt (.int a t) (.int c u)) Q E s)
section
variable {prog:Program} {w:World} {A:Around} {E:Value->Shared->Prop} {s:Shared}
theorem cat_tup {t b:Addr} {vs ws:List Value} {Q:Value->Shared->Prop} (ht:IsTup s.heap t vs.toArray) (hb:IsTup s.heap b ws.toArray) (hv:vs≠[])
  (h1:ws=[]->Q (.ref t) s) (h2:ws≠[]->Q (.ref s.heap.objs.size) { s with heap:=s.heap.push { cls:=.type "tuple",data:=.seq (vs++ws).toArray } })
  (hsz:vs.length+ws.length<=sizeLine):wpAny (model prog w) A (binaryOp .Add (.ref t) (.ref b)) Q E s:=by
 obtain⟨⟨cls,dd,data,sl⟩,ho,hc,n,hd⟩:=id ht;obtain⟨⟨cls2,dd2,data2,sl2⟩,ho2,hc2,n2,hd2⟩:=id hb;simp only at hc hd hc2 hd2;subst hc hd hc2 hd2;have e:vs.toArray++ws.toArray=(vs++ws).toArray:=by simp
 by_cases hw:ws=[]
 ·exact concat_meets ⟨_,ho,rfl⟩ ⟨_,ho2,rfl⟩ noFill_tuple_add seq_tuple_add PySem.F.slot_tuple_add PySem.F.entry_tuple_add (PySem.F.args_tuple_add_2 _ _)
   (tuple_addW1 t b vs.toArray ws.toArray n n2 dd dd2 sl sl2 (by simpa using hv) (by simp[hw])) ⟨ho,ho2,h1 hw⟩
 ·refine concat_meets ⟨_,ho,rfl⟩ ⟨_,ho2,rfl⟩ noFill_tuple_add seq_tuple_add PySem.F.slot_tuple_add PySem.F.entry_tuple_add (PySem.F.args_tuple_add_2 _ _)
   (tuple_addW2 t b vs.toArray ws.toArray n n2 dd dd2 sl sl2 (by simpa using hv) (by simpa using hw) (by rw[Yb,Yb];exact hsz)) ⟨ho,ho2,?_⟩
  rw[e];exact h2 hw
def sIx (n d:Nat):Option Int->Nat
 | none=>d
 | some v=>if v<0 then(v+(n:Int)).toNat else min v.toNat n
theorem sIx_none (n d:Nat):sIx n d none=d:=rfl
theorem sIx_nat (n d k:Nat):sIx n d (some (k:Int))=min k n:=by
 show(if (k:Int)<0 then((k:Int)+(n:Int)).toNat else min (k:Int).toNat n)=min k n;rw[Af (by lia),Xl]
theorem EO (n d:Nat) (hd:d<=n) (o:Option Int):sIx n d o<=n:=by
 cases o with
 | none=>exact hd
 | some v =>
  show(if v<0 then(v+(n:Int)).toNat else min v.toNat n)<=n;by_cases hv:v<0
  ·rw[Ae hv];lia
  ·rw[Af hv];exact Nat.min_le_right _ _
theorem clip_nat (v:Int) (n:Nat) (hv:¬ v<0):min v (n:Int)=((min v.toNat n:Nat):Int):=by
 obtain⟨k,rfl⟩:=Xk (Int.not_lt.mp hv);rw[Xl];rcases Nat.le_total k n with h|h
 ·rw[B0 h];exact Int.min_eq_left (Int.ofNat_le.mpr h)
 ·rw[Nat.min_eq_right h];exact Int.min_eq_right (Int.ofNat_le.mpr h)
theorem sT (v:Int) (n d:Nat):(if v<0 then max (v+(n:Int)) 0 else min v (n:Int))=((sIx n d (some v):Nat):Int):=by
 show(if v<0 then max (v+(n:Int)) 0 else min v (n:Int))=(((if v<0 then(v+(n:Int)).toNat else min v.toNat n):Nat):Int);by_cases hv:v<0
 ·rw[Ae hv,Ae hv];exact(Int.ofNat_toNat _).symm
 ·rw[Af hv,Af hv];exact clip_nat v n hv
theorem rH (lo hi:Option Int) (n:Nat):Builtin.Slice.sliceAdjust lo hi 1 (n:Int)=(((sIx n 0 lo:Nat):Int),((sIx n n hi:Nat):Int)):=by
 have h1:¬ ((1:Int)<0):=by lia
 unfold Builtin.Slice.sliceAdjust;simp only[h1,if_false];refine Prod.ext ?_ ?_
 ·cases lo with
  | none=>rfl
  | some v=>exact sT v n 0
 ·cases hi with
  | none=>rfl
  | some v=>exact sT v n n
theorem rJ (i j:Nat):Builtin.Slice.slicePlaces (i:Int) (j:Int) 1=j-i:=by
 unfold Builtin.Slice.slicePlaces;have h1:(1:Int) > 0:=by lia
 simp only[h1,if_true,Int.ediv_one];split<;>lia
theorem lU {v:Value} {o:Option Int} {Q:Option Int->Shared->Prop} (p:IsPart v o) (h:Q o s):wpAny (model prog w) A (Builtin.Slice.slicePartIndex v) Q E s:=by
 cases p with
 | none=>exact slicePart_none h
 | int i t=>exact slicePart_int h
theorem j9 {sl:Addr} {vl vu:Value} {lo hi:Option Int} {n:Nat} {Q:Int×Int×Nat->Shared->Prop} (hs:s.heap.IsSliceOf sl vl vu .none) (pl:IsPart vl lo) (pu:IsPart vu hi)
  (h:Q (((sIx n 0 lo:Nat):Int),1,sIx n n hi-sIx n 0 lo) s):wpAny (model prog w) A (Builtin.Slice.sliceApplied (.ref sl) (pure (n:Int))) Q E s:=by
 obtain⟨os,hos,hcs,hds⟩:=id hs;unfold Builtin.Slice.sliceApplied Builtin.Slice.sliceFields;refine Aa (Aa (Ap hos hds (x:=vl) rfl (Aa (Ap hos hds (x:=vu) rfl (Aa (Ap hos hds (x:=.none) rfl (Ac ?_)))))));refine Aa (slicePart_none ?_);show wpAny _ _ (if ((1:Int) == 0)=true then _ else _) _ _ s;rw[Af (by decide)]
 refine Aa (lU pl (Aa (lU pu (Aa (Ac ?_)))));show wpAny _ _ (match Builtin.Slice.sliceAdjust lo hi 1 (n:Int) with|(lo,hi)=>pure (lo,(1:Int),Builtin.Slice.slicePlaces lo hi 1)) _ _ s
 rw[rH lo hi n];show wpAny _ _ (pure (((sIx n 0 lo:Nat):Int),(1:Int),Builtin.Slice.slicePlaces ((sIx n 0 lo:Nat):Int) ((sIx n n hi:Nat):Int) 1)) _ _ s;rw[rJ];exact Ac h
theorem wf (xs:Array Value) (i k:Nat):((List.range k).filterMap fun(m:Nat)=>xs[((i:Int)+(m:Int)*1).toNat]?).toArray=((xs.toList.drop i).take k).toArray:=by
 have e:(fun(m:Nat)=>xs[((i:Int)+(m:Int)*1).toNat]?)=fun m=>xs[i+m]?:=by
  funext m
  have:((i:Int)+(m:Int)*1).toNat=i+m:=by lia
  rw[this]
 rw[e];have:=pick_run xs i k;rw[List.filterMap_map]at this;have e2:((fun x=>xs[x]?) ∘ fun x=>i+x)=fun m=>xs[i+m]?:=rfl;rw[e2]at this;rw[this]
theorem getItem_tuple_cut {t sl:Addr} {items:Array Value} {vl vu:Value} {lo hi:Option Int} {Q:Value->Shared->Prop} (ht:IsTup s.heap t items) (hs:s.heap.IsSliceOf sl vl vu .none) (pl:IsPart vl lo) (pu:IsPart vu hi)
  (hw:¬ (sIx items.size 0 lo=0/\sIx items.size items.size hi=items.size))
  (h:Q (.ref s.heap.objs.size) { s with heap:=s.heap.push { cls:=.type "tuple",data:=.seq ((items.toList.drop (sIx items.size 0 lo)).take (sIx items.size items.size hi-sIx items.size 0 lo)).toArray } })
  (hsz:items.size<=sizeLine):wpAny (model prog w) A (getItem (.ref t) (.ref sl)) Q E s:=by
 have htake:sizeOk (.seq ((items.toList.drop (sIx items.size 0 lo)).take (sIx items.size items.size hi-sIx items.size 0 lo)).toArray):=by
  show((items.toList.drop (sIx items.size 0 lo)).take (sIx items.size items.size hi-sIx items.size 0 lo)).toArray.size<=sizeLine;rw[Yb,BV,Zn,Qd];exact Ze (Nat.min_le_right _ _) (Ze (Nat.sub_le _ _) hsz)
 have hj:sIx items.size items.size hi<=items.size:=EO _ _ (Xa _) hi;obtain⟨os,hos,hcs,hds⟩:=id hs;have hTs:s.TypeIs (.ref sl) "slice":=⟨os,hos,hcs⟩;unfold getItem
 try with_reducible refine Au ?_
 first|refine Aa (Ac ?_)|skip
 refine Aa (wpAny_sequenceKey ht.typeIs (by decide) ?_)
 refine Aa (An (name:=Str.ofString "__getitem__") ht.typeIs BR
  (Am BR ht.typeIs entry_tuple_getitem ?_ (args_tuple_getitem _ _)))
 show wpAny _ _ (Builtin.Tuple.tupleItemsOf (.ref t) >>= _) _ _ s;refine Aa (tupleItemsOf_ ht ?_);refine Aa (AI hTs ?_);rw[Ae (by decide)]
 refine Aa (j9 hs pl pu ?_);have hno:¬ ((((sIx items.size 0 lo:Nat):Int) == 0&&(1:Int) == 1&&(sIx items.size items.size hi-sIx items.size 0 lo) == items.size)=true):=by
  intro q;rw[Xg,Xg]at q;have q1:((sIx items.size 0 lo:Nat):Int)=0:=eq_of_beq q.1.1;have q2:sIx items.size items.size hi-sIx items.size 0 lo=items.size:=eq_of_beq q.2;exact hw ⟨by lia,by lia⟩
 show wpAny _ _ (if (((sIx items.size 0 lo:Nat):Int) == 0&&(1:Int) == 1&&(sIx items.size items.size hi-sIx items.size 0 lo) == items.size)=true then _ else _) _ _ s;rw[Af hno,wf]
 first
  | exact Aa (m:=Builtin.Tuple.tupleExact _) (As (Ac ⟨_,rfl,Ac h⟩) htake)
  | exact Aa (m:=Builtin.Tuple.tupleExact _) (As (Aa (Ac (Ac ⟨_,rfl,Ac h⟩))) htake)
  | exact Aa (Aa (m:=Builtin.Tuple.tupleExact _) (As (Ac (Ac ⟨_,rfl,Ac h⟩)) htake))
  | exact Aa (Aa (m:=Builtin.Tuple.tupleExact _) (As (Ac ⟨_,rfl,Ac h⟩) htake))
end
end HT
namespace L2
open PySem PySem.Spec PyProof.Rows
abbrev TO:=St->Hp->(Option Int->Hp->Prop)->Prop
def PO (X:Cx) (e:Option Expr) (t:TO):Prop :=
 ∀(pins:List (Addr×Obj)) (s:Shared) (σ:St) (H:Hp) (Q:Option Int->Hp->Prop),Inv X pins σ H s->t σ H Q ->
  wpAny (model X.prog X.w) X.A (evalPart e X.env) (fun u s'=>∃o H',Inv X pins σ H' s'/\IsPart u o/\Q o H') X.xe s
def sU:TO:=fun _ H Q=>Q none H
def Dm (t:TE):TO:=fun σ H Q=>t σ H fun x H1=>∃i,x=.int i/\Q (some i) H1
section
variable {X:Cx} {e:Expr} {te:TE} {lo hi:Option Expr} {tl th:TO} {pos p2:Pos}
theorem zh:PO X none sU:=by
 intro pins s σ H Q I h;rw[evalPart_none];exact Ac ⟨none,H,I,.none,h⟩
theorem zi (h:PE X e te):PO X (some e) (Dm te):=by
 intro pins s σ H Q I hw;rw[evalPart_some];refine bM (h pins s σ H _ I hw) fun u s1 zz9=>?_;obtain⟨x,H1,I1,r1,q1⟩:=zz9;obtain⟨i,rfl,q⟩:=q1;obtain⟨t,rfl⟩:=r1;exact⟨some i,H1,I1,.int i t,q⟩
def SlR (X:Cx) (r:V->Option Int->Option Int->Hp->VK->Prop):Prop :=
 ∀(pins:List (Addr×Obj)) (s:Shared) (σ:St) (H:Hp) (x:V) (v vl vu:Value) (lo hi:Option Int) (sl:Addr) (Q:VK),Inv X pins σ H s->RelV x v->s.heap.IsSliceOf sl vl vu .none->IsPart vl lo->IsPart vu hi->r x lo hi H Q ->
  ∃T id,typeLookup (.type T) "__getitem__"=pure (some (.builtin id))/\s.TypeIs v T/\wpAny (model X.prog X.w) X.A (getItem v (.ref sl)) (EP X pins σ Q) X.xe s
theorem SlR.or {r r':V->Option Int->Option Int->Hp->VK->Prop} (h:SlR X r) (h':SlR X r'):SlR X (fun x lo hi H Q=>r x lo hi H Q∨r' x lo hi H Q):=by
 intro pins s σ H x v vl vu lo hi sl Q I rx hs pl pu q;rcases q with q|q
 ·exact h pins s σ H x v vl vu lo hi sl Q I rx hs pl pu q
 ·exact h' pins s σ H x v vl vu lo hi sl Q I rx hs pl pu q
def JT (r:V->Option Int->Option Int->Hp->VK->Prop) (te:TE) (tl th:TO):TE:=fun σ H Q=>te σ H fun x H1=>tl σ H1 fun l H2=>th σ H2 fun u H3=>r x l u H3 Q
theorem wg {r:V->Option Int->Option Int->Hp->VK->Prop} (hr:SlR X r) (he:PE X e te) (hl:PO X lo tl) (hu:PO X hi th):PE X (.Subscript e (.Slice lo hi none p2) pos) (JT r te tl th):=by
 intro pins s σ H Q I h;refine Subscript_ (bM (he pins s σ H _ I h) fun v s1 zz9=>?_);obtain⟨x,H1,I1,r1,q1⟩:=zz9;refine wpAny_Slice (bM (hl pins s1 σ H1 _ I1 q1) fun vl s2 ⟨l,H2,I2,pl,q2⟩=>bM (hu pins s2 σ H2 _ I2 q2) fun vu s3 zz9=>?_);obtain⟨u,H3,I3,pu,q3⟩:=zz9;rw[evalPart_none];refine Ac ?_;have I4:Inv X pins σ H3 { s3 with heap:=s3.heap.push { cls:=.type "slice",data:=.fields #[vl,vu,.none] } }:=I3.kept (t':=s3.toks) fun b ob q=>Ab _ q;obtain⟨T,id,hT,ht,hg⟩:=hr pins { s3 with heap:=s3.heap.push { cls:=.type "slice",data:=.fields #[vl,vu,.none] } } σ H3 x v vl vu l u s3.heap.objs.size Q I4 r1 (Heap.IsSliceOf.new ..) pl pu q3;show wpAny (model X.prog X.w) X.A (subscriptTail e (.Slice lo hi none p2) v (.ref s3.heap.objs.size)) (EP X pins σ Q) X.xe { s3 with heap:=s3.heap.push { cls:=.type "slice",data:=.fields #[vl,vu,.none] } };exact tail_any (ops:=[.ref s3.heap.objs.size,v]) ht hT hg (by with_unfolding_all rfl)
def p6 (xs:List V) (lo hi:Option Int):List V:=(xs.drop (HT.sIx xs.length 0 lo)).take (HT.sIx xs.length xs.length hi-HT.sIx xs.length 0 lo)
theorem kI (xs:List V) (lo hi:Option Int):(p6 xs lo hi).length<=xs.length:=by
 unfold p6;rw[BV,Zn];lia
def EQ (K:PySem.W.Frag):V->Option Int->Option Int->Hp->VK->Prop:=fun x lo hi H Q=>∃a xs,x=.ref a/\iz K H a xs /\
 ¬ (HT.sIx xs.length 0 lo=0/\HT.sIx xs.length xs.length hi=xs.length)/\∀p,H p=none->Q (.ref p) (upd H p (.tup (p6 xs lo hi)))
theorem ES:SlR X (EQ X.K):=by
 intro pins s σ H x v vl vu lo hi sl Q I rx hs pl pu h;obtain⟨a,xs,rfl,hx,hw,q⟩:=h;cases rx;obtain⟨its,r,ht,hz⟩:=I.tuple hx;have hlen:its.toArray.size=xs.length:=by rw[Yb];exact r.length.symm
 refine⟨"tuple",_,BR.lookup,ht.typeIs,?_⟩;refine HT.getItem_tuple_cut ht hs pl pu (by rw[hlen];exact hw) ?_ (by rw[hlen];exact hz)
 rw[hlen];refine⟨.ref s.heap.objs.size,_,I.laid (t':=s.toks) (o:=.tup (p6 xs lo hi)) (fun b ob q=>Ab _ q) (Xa _) ?_,rfl,q _ (I.hok.fresh (Xa _))⟩;exact⟨Ze (kI xs lo hi) hz,_,(r.drop (HT.sIx xs.length 0 lo)).take (HT.sIx xs.length xs.length hi-HT.sIx xs.length 0 lo),IsTup.new _ _⟩
def wj (K:PySem.W.Frag):R2:=fun x y H Q=>∃a b xs ys,x=.ref a/\y=.ref b/\iz K H a xs/\iz K H b ys/\xs≠[]/\xs.length+ys.length<=sizeLine /\
 (ys=[]->Q (.ref a) H)/\(ys≠[]->∀p,H p=none->Q (.ref p) (upd H p (.tup (xs++ys))))
theorem Vals.nil_iff {xs:List V} {us:List Value} (r:Vals xs us):us=[]↔xs=[]:=by
 cases r with
 | nil=>simp
 | cons _ _=>simp
theorem zj:OpR X (binaryOp .Add) (wj X.K):=by
 intro pins s σ H x y v u Q I rx ry h;obtain⟨a,b,xs,ys,rfl,rfl,ha,hb,hx,hz,q1,q2⟩:=h;cases rx;cases ry;obtain⟨its,r1,p1,_⟩:=I.tuple ha;obtain⟨its2,r2,p2,_⟩:=I.tuple hb;refine HT.cat_tup p1 p2 (fun z=>hx (r1.nil_iff.mp z)) (fun z=>⟨.ref a,H,I,rfl,q1 (r2.nil_iff.mp z)⟩) (fun z=>?_) (by rw[← r1.length,← r2.length];exact hz)
 refine⟨.ref s.heap.objs.size,_,I.laid (t':=s.toks) (o:=.tup (xs++ys)) (fun b ob q=>Ab _ q) (Xa _) ?_,rfl,q2 (fun w=>z (r2.nil_iff.mpr w)) _ (I.hok.fresh (Xa _))⟩;exact⟨by rw[Va];exact hz,_,r1.append r2,IsTup.new _ _⟩
end
end L2
namespace L2
open PySem PySem.Spec PyProof.Rows
def vL (n:Nat) (i:Int):Option Nat:=if 0<=i then(if i<n then some i.toNat else none) else if -(n:Int)<=i then some (i+n).toNat else none
def lV {α:Type} (xs:List α) (i:Int):Option α:=(vL xs.length i).bind fun j=>xs[j]?
theorem sV {n:Nat} {i:Int} {j:Nat} (h:vL n i=some j):seqIndex? i n=some j/\j<n/\-(n:Int)<=i/\i<n:=by
 unfold vL at h;by_cases h0:0<=i
 ·rw[Ae h0]at h;by_cases h1:i<n
  ·rw[Ae h1]at h;have e:i.toNat=j:=Option.some.inj h;exact⟨by rw[seqIndex_of h0 h1,e],by lia,by lia,h1⟩
  ·rw[Af h1]at h;cases h
 ·rw[Af h0]at h;by_cases h1:-(n:Int)<=i
  ·rw[Ae h1]at h;have e:(i+n).toNat=j:=Option.some.inj h;exact⟨by rw[seqIndex_neg (by lia) h1,e],by lia,h1,by lia⟩
  ·rw[Af h1]at h;cases h
theorem oq {α:Type} {xs:List α} {i:Int} {v:α} (h:lV xs i=some v):∃j,seqIndex? i xs.length=some j/\xs[j]?=some v/\j<xs.length/\-(xs.length:Int)<=i/\i<xs.length:=by
 unfold lV at h;cases e:vL xs.length i with
 | none=>rw[e]at h;cases h
 | some j =>
  rw[e]at h;obtain⟨h1,h2,h3,h4⟩:=sV e;exact⟨j,h1,h,h2,h3,h4⟩
theorem ot {α:Type} {xs:List α} {j:Nat} {v:α} (h:xs[j]?=some v):lV xs (j:Int)=some v:=by
 have hj:j<xs.length:=(Vb.mp h).1;have e:vL xs.length (j:Int)=some j:=by
  unfold vL;rw[Ae (by lia),Ae (by lia)];simp
 unfold lV;rw[e];exact h
def sW (b:Expr):Prop:=∀o i,subscripted b false o i=operate [o,i] (getItem o i)
def IxR (X:Cx) (r:R2):Prop :=
 ∀(value slice:Expr) (pins:List (Addr×Obj)) (s:Shared) (σ:St) (H:Hp) (x y:V) (v u:Value) (Q:VK),Inv X pins σ H s->RelV x v->RelV y u->r x y H Q ->
  subscripted slice false v u=operate [v,u] (getItem v u)->wpAny (model X.prog X.w) X.A (subscriptTail value slice v u) (EP X pins σ Q) X.xe s
def JU (X:Cx) (id:String) (r:V->List V->Hp->VK->Prop):Prop :=
 ∀(pins:List (Addr×Obj)) (s:Shared) (σ:St) (H:Hp) (x:V) (xs:List V) (v:Value) (us:List Value) (Q:VK),Inv X pins σ H s->RelV x v->Vals xs us->r x xs H Q ->
  wpAny (model X.prog X.w) X.A (call (.builtin id) (v::us)) (EP X pins σ Q) X.xe s
section
variable {X:Cx} {a b:Expr} {ta tb:TE} {pos:Pos}
theorem IxR.or {r r':R2} (h:IxR X r) (h':IxR X r'):IxR X (fun x y H Q=>r x y H Q∨r' x y H Q):=by
 intro value slice pins s σ H x y v u Q I rx ry q hs;rcases q with q|q
 ·exact h value slice pins s σ H x y v u Q I rx ry q hs
 ·exact h' value slice pins s σ H x y v u Q I rx ry q hs
theorem bO {r:R2} (hr:IxR X r) (ha:PE X a ta) (hb:PE X b tb) (hs:sW b):PE X (.Subscript a b pos) (ED r ta tb):=by
 intro pins s σ H Q I h;exact Subscript_ (EE ha hb I h fun v u s2 x y H2 I2 rx ry q=>hr a b pins s2 σ H2 x y v u Q I2 rx ry q (hs _ _))
def ET (K:PySem.W.Frag):R2:=fun x y H Q=>∃p xs i v,x=.ref p/\y=.int i/\eY K H p xs/\lV xs i=some v/\Q v H
def EU (K:PySem.W.Frag):R2:=fun x y H Q=>∃p xs i v,x=.ref p/\y=.int i/\iz K H p xs/\lV xs i=some v/\Q v H
def EV:R2:=fun x y H Q=>∃z i c,x=.str z/\y=.int i/\z.length<=sizeLine/\lV z.cps.toList i=some c/\Q (.str ⟨#[c]⟩) H
theorem ix_list:IxR X (ET X.K):=by
 intro value slice pins s σ H x y v u Q I rx ry h hs;obtain⟨p,xs,i,z,rfl,rfl,hq,he,q⟩:=h;cases rx;obtain⟨t,rfl⟩:=ry;obtain⟨its,r,pl,hz⟩:=I.list hq;obtain⟨j,h1,h2,h3,h4,h5⟩:=oq he;obtain⟨w,ew,rw'⟩:=r.get h2;have hl:=r.length;have hn:=iW;have fin:EP X pins σ Q w s:=⟨z,H,I,rw',q⟩;by_cases h0:0<=i
 ·have hj:i.toNat=j:=by
   rw[seqIndex_of h0 h5]at h1;exact Option.some.inj h1
  exact item_listR pl.isList h0 (by lia) (by rw[hj];simpa using ew) fin hs
 ·have hj:(i+(its.toArray.size:Int)).toNat=j:=by
   rw[seqIndex_neg (by lia) h4]at h1
   rw[Yb,← hl];exact Option.some.inj h1
  exact subscriptTail_builtinR (x:=w) pl.isList.typeIs slot_list_getitem.lookup
   (wpAny_getItem_list_neg (Q:=fun r s'=>r=w/\EP X pins σ Q r s') pl.isList (by lia) (by rw[Yb]<;>lia) (by lia) (by rw[hj];simpa using ew) ⟨rfl,fin⟩) hs
theorem ix_tup:IxR X (EU X.K):=by
 intro value slice pins s σ H x y v u Q I rx ry h hs;obtain⟨p,xs,i,z,rfl,rfl,hq,he,q⟩:=h;cases rx;obtain⟨t,rfl⟩:=ry;obtain⟨its,r,pl,hz⟩:=I.tuple hq;obtain⟨j,h1,h2,h3,h4,h5⟩:=oq he;obtain⟨w,ew,rw'⟩:=r.get h2;have hl:=r.length;have hn:=iW;have fin:EP X pins σ Q w s:=⟨z,H,I,rw',q⟩;exact subscriptTail_builtinR (x:=w) pl.typeIs slot_tuple_getitem.lookup
  (getItem_tuple (j:=j) (Q:=fun r s'=>r=w/\EP X pins σ Q r s') pl (by lia) (by lia) (by rw[Yb,← hl];exact h1) (by simpa using ew) ⟨rfl,fin⟩) hs
theorem EW:IxR X EV:=by
 intro value slice pins s σ H x y v u Q I rx ry h hs;obtain⟨z,i,c,rfl,rfl,hz,he,q⟩:=h;obtain⟨t,rfl⟩:=rx;obtain⟨t',rfl⟩:=ry;obtain⟨j,h1,h2,h3,h4,h5⟩:=oq he;have hl:z.cps.toList.length=z.length:=by simp[Str.length]
 rw[hl]at h1 h4 h5;have hn:=iW
 exact tail_any (B5 s z t) slot_str_getitem.lookup (getItem_str (c:=c) (by
  have e1:decide (i < -(2 ^ 63:Int))=false:=Ad (by lia)
  have e2:decide (i ≥ 2 ^ 63)=false:=Ad (by lia)
  rw[e1,e2,Bool.or_false]) (by rw[h1];simpa using h2) ⟨.str ⟨#[c]⟩,H,I.tok _,⟨_,rfl⟩,q⟩) hs
def Ju (K:PySem.W.Frag):R2:=fun x y H Q=>ET K x y H Q∨EU K x y H Q∨EV x y H Q
theorem EX:IxR X (Ju X.K):=ix_list.or (ix_tup.or EW)
theorem rK (its:List Value) (n j:Nat) (u:Value):Obj.mapSeq (·.setIfInBounds j u) { cls:=.type "list",data:=.seq its.toArray n }={ cls:=.type "list",data:=.seq (its.set j u).toArray n }:=by
 simp[Obj.mapSeq]
theorem Inv.lst {pins:List (Addr×Obj)} {σ:St} {H:Hp} {s:Shared} {p:Addr} {xs:List V} (I:Inv X pins σ H s) (h:H p=some (.lst xs)) :
  ∃(its:List Value) (n:Nat),Vals xs its/\s.heap.get? p=some { cls:=.type "list",data:=.seq its.toArray n }/\xs.length<=sizeLine:=by
 obtain⟨z,its,n,r,e⟩:=I.hok p _ h;exact⟨its,n,r,e,z⟩
theorem Inv.lstUpd {pins:List (Addr×Obj)} {σ:St} {H:Hp} {s:Shared} {p:Addr} {xs ys:List V} {its its':List Value} {n n':Nat} {f:Obj->Obj} (I:Inv X pins σ H s) (h:H p=some (.lst xs))
  (ho:s.heap.get? p=some { cls:=.type "list",data:=.seq its.toArray n }) (hf:f { cls:=.type "list",data:=.seq its.toArray n }={ cls:=.type "list",data:=.seq its'.toArray n' }) (r:Vals ys its') (hz:ys.length<=sizeLine) (t':Nat) (ht:0<t':=by first|assumption|exact Wg _|exact Inv.tk (by assumption)|exact Inv.tkl (by assumption) (by assumption)|lia) :
  Inv X pins σ (upd H p (.lst ys)) { s with heap:=s.heap.update p f,toks:=t' }:=by
 have e:(s.heap.update p f).get? p=some { cls:=.type "list",data:=.seq its'.toArray n' }:=by
  rw[Bt f ho (by rw[hf]<;>rfl),hf]
 refine I.write (x:=p) (e:=p) (by rw[h];trivial) (.inl rfl) (fun b u hb q=>(Bp _ _ (Ne.symm hb)).trans q) ⟨_,e⟩ ?_
 exact⟨hz,its',n',r,e⟩
def Do:V->V->V->Hp->(Hp->Prop)->Prop:=fun o i v H Q=>∃p xs k j,o=.ref p/\i=.int k/\H p=some (.lst xs)/\vL xs.length k=some j/\Q (upd H p (.lst (xs.set j v)))
theorem set_list:Ey X Do:=by
 intro pins s σ H o i v ov iv u Q I ro ri rv h;obtain⟨p,xs,k,j,rfl,rfl,hp,hj,q⟩:=h;cases ro;obtain⟨t,rfl⟩:=ri;obtain⟨its,n,r,ho,hz⟩:=I.lst hp;obtain⟨h1,h2,h3,h4⟩:=sV hj;have hl:=r.length;have hn:=iW;have I':Inv X pins σ (upd H p (.lst (xs.set j v))) { s with heap:=s.heap.update p (Obj.mapSeq (·.setIfInBounds j u)) } :=
  I.lstUpd hp ho (rK its n j u) (r.set rv j) (by rw[List.length_set];exact hz) s.toks
 by_cases h0:0<=k
 ·have hk:k.toNat=j:=by
   rw[seqIndex_of h0 h4]at h1;exact Option.some.inj h1
  exact PySem.W.ki_setAt ho h0 (by lia) (by rw[Yb,← hl];exact h4) (by rw[hk];exact⟨_,I',q⟩)
 ·have hk:(k+(its.toArray.size:Int)).toNat=j:=by
   rw[seqIndex_neg (by lia) h3]at h1
   rw[Yb,← hl];exact Option.some.inj h1
  exact PySem.W.ki_setBack ho (by lia) (by rw[Yb,← hl];exact h3) (by lia) (by rw[hk];exact⟨_,I',q⟩)
theorem wm (i:Int) (n:Nat):max 0 (min (if i<0 then i+(n:Int) else i) (n:Int))=(((if i<0 then(i+(n:Int)).toNat else min i.toNat n):Nat):Int):=by
 by_cases h:i<0
 ·rw[Ae h,Ae h,Int.min_eq_left (by lia),Int.max_comm];exact(Int.ofNat_toNat _).symm
 ·rw[Af h,Af h,HT.clip_nat i n h];exact Int.max_eq_right (Int.natCast_nonneg _)
theorem ou (lo hi:Option Int) (n:Nat):(sliceBounds lo hi none n).1=((HT.sIx n 0 lo:Nat):Int)/\(sliceBounds lo hi none n).2.1=((HT.sIx n n hi:Nat):Int)/\(sliceBounds lo hi none n).2.2=1:=by
 refine⟨?_,?_,rfl⟩
 ·cases lo with
  | none=>simp[sliceBounds,HT.sIx]
  | some i=>exact wm i n
 ·cases hi with
  | none=>simp[sliceBounds,HT.sIx]
  | some i=>exact wm i n
theorem mY (its:List Value) (lo hi:Option Int):slicePick its.toArray lo hi none=((its.drop (HT.sIx its.length 0 lo)).take (HT.sIx its.length its.length hi-HT.sIx its.length 0 lo)).toArray:=by
 obtain⟨h1,h2,h3⟩:=ou lo hi its.toArray.size;unfold slicePick;rw[h1,h2,h3];simp only[sliceRange_one,pick_run,Yb]<;>rfl
def EY (K:PySem.W.Frag):V->Option Int->Option Int->Hp->VK->Prop:=fun x lo hi H Q=>∃a xs,x=.ref a/\eY K H a xs/\∀p,H p=none->Q (.ref p) (upd H p (.lst (p6 xs lo hi)))
theorem zk:SlR X (EY X.K):=by
 intro pins s σ H x v vl vu lo hi sl Q I rx hs pl pu h;obtain⟨a,xs,rfl,hx,q⟩:=h;cases rx;obtain⟨its,r,ht,hz⟩:=I.list hx;have hlen:=r.length;refine⟨"list",_,slot_list_getitem.lookup,ht.isList.typeIs,?_⟩;refine wpAny_getItem_list_slice ht.isList hs pl pu .none (by simp) ?_ (by rw[Yb]<;>lia)
 rw[mY,← hlen];refine⟨.ref s.heap.objs.size,_,I.laid (t':=s.toks) (o:=.lst (p6 xs lo hi)) (fun b ob q=>Ab _ q) (Xa _) ?_,rfl,q _ (I.hok.fresh (Xa _))⟩;exact⟨Ze (kI xs lo hi) hz,_,0,(r.drop (HT.sIx xs.length 0 lo)).take (HT.sIx xs.length xs.length hi-HT.sIx xs.length 0 lo),Ah _ rfl⟩
def iA:V->Bool
 | .non=>true
 | .bl _=>true
 | .int _=>true
 | .str _=>true
 | _=>false
def Dp:V->V->Bool
 | .non,.non=>true
 | .bl a,.bl b=>a == b
 | .bl a,.int b=>(if a then 1 else 0) == b
 | .int a,.bl b=>a == (if b then 1 else 0)
 | .int a,.int b=>a == b
 | .str a,.str b=>a == b
 | _,_=>false
theorem EZ {A:Around} {s:Shared} {y x:V} {u v:Value} (ry:RelV y u) (rx:RelV x v) (fy:iA y=true) (fx:iA x=true):SeqAt.EqAt A s u v (Dp y x):=by
 cases y with
 | non =>
  cases ry;cases x with
  | non=>cases rx;exact SeqAt.EqAt.same _
  | bl b=>cases rx;exact SeqAt.EqAt.none_bool b
  | int b=>obtain⟨t,rfl⟩:=rx;exact SeqAt.EqAt.none_int b t
  | str b=>obtain⟨t,rfl⟩:=rx;exact SeqAt.EqAt.none_str b t
  | _=>exact absurd (show false=true from fx) Qc
 | bl a =>
  cases ry;cases x with
  | non=>cases rx;exact SeqAt.EqAt.bool_none a
  | bl b=>cases rx;exact SeqAt.EqAt.bool_bool a b
  | int b=>obtain⟨t,rfl⟩:=rx;exact SeqAt.EqAt.bool_int a b t
  | str b=>obtain⟨t,rfl⟩:=rx;exact SeqAt.EqAt.bool_str a b t
  | _=>exact absurd (show false=true from fx) Qc
 | int a =>
  obtain⟨t',rfl⟩:=ry;cases x with
  | non=>cases rx;exact SeqAt.EqAt.int_none a t'
  | bl b=>cases rx;exact SeqAt.EqAt.int_bool a t' b
  | int b=>obtain⟨t,rfl⟩:=rx;exact SeqAt.EqAt.int_int a t' b t
  | str b=>obtain⟨t,rfl⟩:=rx;exact BJ a t' b t
  | _=>exact absurd (show false=true from fx) Qc
 | str a =>
  obtain⟨t',rfl⟩:=ry;cases x with
  | non=>cases rx;exact SeqAt.EqAt.str_none a t'
  | bl b=>cases rx;exact SeqAt.EqAt.str_bool a t' b
  | int b=>obtain⟨t,rfl⟩:=rx;exact BI a t' b t
  | str b=>obtain⟨t,rfl⟩:=rx;exact SeqAt.EqAt.str_str a t' b t
  | _=>exact absurd (show false=true from fx) Qc
 | _=>exact absurd (show false=true from fy) Qc
def zm (x:V) (u:Value):Bool:=match u with
 | .none=>Dp .non x
 | .bool b=>Dp (.bl b) x
 | .int i _=>Dp (.int i) x
 | .str z _=>Dp (.str z) x
 | _=>false
theorem wn {x y:V} {u:Value} (r:RelV y u) (f:iA y=true):zm x u=Dp y x:=by
 cases y with
 | non=>cases r;rfl
 | bl b=>cases r;rfl
 | int i=>obtain⟨t,rfl⟩:=r;rfl
 | str z=>obtain⟨t,rfl⟩:=r;rfl
 | _=>exact absurd (show false=true from f) Qc
theorem ox {x:V}:∀{xs:List V} {us:List Value},Vals xs us->xs.all iA=true->us.any (zm x)=xs.any fun y=>Dp y x
 | _,_,.nil,_=>rfl
 | y::xs,u::us,.cons r t,f=>by
  rw[Bg,Xg]at f;rw[AR,AR,wn r f.1,ox t f.2]
theorem lW {A:Around} {s:Shared} {x:V} {v:Value} (rx:RelV x v) (fx:iA x=true):∀{xs:List V} {us:List Value},Vals xs us->xs.all iA=true->∀u∈us,SeqAt.EqAt A s u v (zm x u)
 | _,_,.nil,_=>fun u hu=>by cases hu
 | y::xs,u::us,.cons r t,f=>fun u' hu=>by
  rw[Bg,Xg]at f;rcases Xd.mp hu with rfl|hu
  ·rw[wn r f.1];exact EZ r rx f.1 fx
  ·exact lW rx fx t f.2 u' hu
def Dq (x:V) (xs:List V):Bool:=xs.any fun y=>Dp y x
def Jv (K:PySem.W.Frag) (neg:Bool):R2:=fun x y H Q=>∃p xs,y=.ref p/\(eY K H p xs∨iz K H p xs)/\iA x=true/\xs.all iA=true/\Q (.bl (if neg then !Dq x xs else Dq x xs)) H
theorem oy:OpR X (compareOp .NotIn) (Jv X.K true):=by
 intro pins s σ H x y v u Q I rx ry h;obtain⟨p,xs,rfl,hq,fx,fs,q⟩:=h;cases ry;rcases hq with hq|hq
 ·obtain⟨its,r,pl,hz⟩:=I.list hq;refine SeqAt.notIn_listAt (zm x) pl.isList (fun w hw=>lW rx fx r fs w (by simpa using hw)) ⟨.bl _,H,I,rfl,?_⟩
  rw[show its.toArray.any (zm x)=its.any (zm x) by simp,ox r fs]
  exact q
 ·obtain⟨its,r,pl,hz⟩:=I.tuple hq;refine SeqAt.notIn_tupleAt (zm x) pl (fun w hw=>lW rx fx r fs w (by simpa using hw)) ⟨.bl _,H,I,rfl,?_⟩
  rw[show its.toArray.any (zm x)=its.any (zm x) by simp,ox r fs]
  exact q
theorem oz:CallR X (.builtin "len") (fun xs H Q=>∃p ys,xs=[.ref p]/\(eY X.K H p ys∨iz X.K H p ys)/\Q (.int ys.length) H):=by
 intro pins s σ H xs us Q I r h;obtain⟨p,ys,rfl,hq,q⟩:=h;obtain⟨u,rfl,rx⟩:=vals1 r;cases rx;have hn:=iW;rcases hq with hq|hq
 ·obtain⟨its,r',pl,hz⟩:=I.list hq;have hlen:=r'.length;exact Calls.call_len_list pl.isList (by simp only[Yb]<;>lia) ⟨.int ys.length,H,I.tok _,⟨s.toks+1,by rw[Yb,hlen]⟩,q⟩
 ·obtain⟨its,r',pl,hz⟩:=I.tuple hq;have hlen:=r'.length;exact len_tuple pl (by simp only[Yb]<;>lia) ⟨.int ys.length,H,I.tok _,⟨s.toks+1,by rw[Yb,hlen]⟩,q⟩
theorem oA:CallR X (.builtin "len") (fun xs H Q=>∃z,xs=[.str z]/\z.length<=sizeLine/\Q (.int z.length) H):=by
 intro pins s σ H xs us Q I r h;obtain⟨z,rfl,hz,q⟩:=h;obtain⟨u,rfl,t,rfl⟩:=vals1 r;have hn:=iW;exact len_str (by lia) ⟨.int z.length,H,I.tok _,⟨_,rfl⟩,q⟩
theorem CallR.or {f:Value} {r r':List V->Hp->VK->Prop} (h:CallR X f r) (h':CallR X f r'):CallR X f (fun xs H Q=>r xs H Q∨r' xs H Q):=by
 intro pins s σ H xs us Q I rs q;rcases q with q|q
 ·exact h pins s σ H xs us Q I rs q
 ·exact h' pins s σ H xs us Q I rs q
theorem oB:CallR X (.type "list") (fun xs H Q=>∃p ys,xs=[.ref p]/\(eY X.K H p ys∨iz X.K H p ys)/\∀l,H l=none->Q (.ref l) (upd H l (.lst ys))):=by
 intro pins s σ H xs us Q I r h;obtain⟨p,ys,rfl,hq,q⟩:=h;obtain⟨u,rfl,rx⟩:=vals1 r;cases rx;have fin:∀(its:List Value),Vals ys its->ys.length<=sizeLine->∀(h':Heap) (c':Nat),(∀b o',s.heap.get? b=some o'->h'.get? b=some o') ->
   h'.get? s.heap.objs.size=some { cls:=.type "list",dict:=none,data:=.seq its.toArray c',slots:=#[] }->EP X pins σ Q (.ref s.heap.objs.size) { s with heap:=h' }:=fun its r' hz h' c' kp e =>
  ⟨.ref s.heap.objs.size,_,I.laid (t':=s.toks) kp (Xa _) (show ObjOk X.prog X.w _ h' _ (.lst ys) from⟨hz,its,c',r',e⟩),rfl,q _ (I.hok.fresh (Xa _))⟩
 rcases hq with hq|hq
 ·obtain⟨its,r',pl,hz⟩:=I.list hq;have hlen:=r'.length;obtain⟨o,ho,hc,n,hd⟩:=pl.isList;exact call_list_seq p (.inl rfl) ho hc hd (fun h' c' kp e=>fin its r' hz h' c' kp e) (by simp only[Yb]<;>lia)
 ·obtain⟨its,r',pl,hz⟩:=I.tuple hq;have hlen:=r'.length;obtain⟨o,ho,hc,n,hd⟩:=pl;exact call_list_seq p (.inr rfl) ho hc hd (fun h' c' kp e=>fin its r' hz h' c' kp e) (by simp only[Yb]<;>lia)
theorem mZ:CallR X (.type "tuple") (fun xs H Q=>∃p ys,xs=[.ref p]/\((eY X.K H p ys/\∀l,H l=none->Q (.ref l) (upd H l (.tup ys)))∨(iz X.K H p ys/\Q (.ref p) H))):=by
 intro pins s σ H xs us Q I r h;obtain⟨p,ys,rfl,h⟩:=h;obtain⟨u,rfl,rx⟩:=vals1 r;cases rx;rcases h with⟨hq,q⟩|⟨hq,q⟩
 ·obtain⟨its,r',pl,hz⟩:=I.list hq;have hlen:=r'.length;refine call_tuple_list pl.isList (fun h' kp=>?_) (by simp only[Yb]<;>lia)
  have I1:Inv X pins σ H { s with heap:=h' }:=I.kept (t':=s.toks) kp;have I2:Inv X pins σ (upd H h'.objs.size (.tup ys)) { s with heap:=h'.push { cls:=.type "tuple",data:=.seq its.toArray } } :=
   I1.laid (t':=s.toks) (fun b o e=>Ab _ e) (Xa _) (show ObjOk X.prog X.w _ _ _ (.tup ys) from⟨hz,its,r',IsTup.new _ _⟩)
  exact⟨.ref h'.objs.size,_,I2,rfl,q _ (I1.hok.fresh (Xa _))⟩
 ·obtain⟨its,r',pl,hz⟩:=I.tuple hq;exact call_tuple_same pl ⟨.ref p,H,I,rfl,q⟩
def G8 (K:PySem.W.Frag) (T:String) (x:V) (H:Hp):Prop:=match x with
 | .str _=>T="str"
 | .int _=>T="int"
 | .ref p=>(T="list"/\∃xs,eY K H p xs)∨(T="tuple"/\∃o,K.lookup p=some o/\o.cls=.type "tuple"/\o.dict=none) ∨
   (T="dict"/\((∃kvs,H p=some (.dK kvs))∨∃ep kvs,H p=some (.dT ep kvs)))∨(T="set"/\∃S n,H p=some (.set S n))
 | _=>False
theorem wo {pins:List (Addr×Obj)} {σ:St} {H:Hp} {s:Shared} {T:String} {x:V} {v:Value} (I:Inv X pins σ H s) (r:RelV x v) (ty:G8 X.K T x H) :
  s.TypeIs v T/\∀a,v=.ref a->∃ob,s.heap.get? a=some ob/\ob.dict=none:=by
 cases x with
 | str z =>
  obtain⟨t,rfl⟩:=r;cases (show T="str" from ty);exact⟨B5 s z t,fun _ e=>nomatch e⟩
 | int i =>
  obtain⟨t,rfl⟩:=r;cases (show T="int" from ty);exact⟨typeIs_int s i t,fun _ e=>nomatch e⟩
 | ref p =>
  cases r;rcases ty with⟨rfl,xs,hq⟩|⟨rfl,o,hk,hc,hd⟩|⟨rfl,hk⟩|⟨rfl,S,n,hk⟩
  ·obtain⟨its,_,pl,_⟩:=I.list hq;refine⟨pl.isList.typeIs,fun a e=>?_⟩;cases e;obtain⟨o,n,e,c,hd,_⟩:=pl;exact⟨o,e,hd⟩
  ·refine⟨⟨o,I.kIn p o hk,hc⟩,fun a e=>?_⟩;cases e;exact⟨o,I.kIn _ o hk,hd⟩
  ·have z:∃o,s.heap.get? p=some o/\o.ExactDict:=by
    rcases hk with⟨kvs,hk⟩|⟨ep,kvs,hk⟩
    ·obtain⟨_,_,_,_,o,_,_,e,ex,_⟩:=I.hok p _ hk;exact⟨o,e,ex⟩
    ·obtain⟨_,_,_,_,_,o,_,e,ex,_⟩:=I.hok p _ hk;exact⟨o,e,ex⟩
   obtain⟨o,e,ex⟩:=z;refine⟨⟨o,e,ex.1⟩,fun a e2=>?_⟩;cases e2;exact⟨o,e,ex.2.1⟩
  ·obtain⟨o,_,_,_,e,ex,_⟩:=I.hok p _ hk;refine⟨⟨o,e,ex.1⟩,fun a e2=>?_⟩;cases e2;exact⟨o,e,ex.2.1⟩
 | _=>exact False.elim ty
def E8 (K:PySem.W.Frag) (T:String) (r:V->List V->Hp->VK->Prop) (to:TE):TE:=fun σ H Q=>to σ H fun x H1=>G8 K T x H1/\r x [] H1 Q
def JV (K:PySem.W.Frag) (T:String) (r:V->List V->Hp->VK->Prop) (to:TE) (t:TA):TE:=fun σ H Q=>to σ H fun x H1=>G8 K T x H1/\t σ H1 fun xs H2=>r x xs H2 Q
variable {o e:Expr} {es:List Expr} {to:TE} {t:TA} {name:Str} {apos cpos:Pos} {T id:String} {r:V->List V->Hp->VK->Prop}
theorem rL (pa:PlainAttrs T) (slot:Slot T name id) (hty:typeOf (.builtin id)=pure (.type "method_descriptor")) (hm:JU X id r) (ho:PE X o to)
  (hbase:attributeBase o name X.env (eval o X.env)=eval o X.env:=by rfl) (hline:(apos.endLine == cpos.line)=true:=by rfl):PE X (.Call (.Attribute o name apos) [] [] cpos) (E8 X.K T r to):=by
 intro pins s σ H Q I h;refine wpAny_Call_method0_late hbase hline (bM (ho pins s σ H _ I h) fun v s1 zz9=>?_);obtain⟨x,H1,I1,r1,ty,q1⟩:=zz9;obtain⟨h1,h2⟩:=wo I1 r1 ty;exact⟨T,id,pa,slot,hty,h1,h2,Calls.callWith_builtin rfl (PySem.evalArgs_none (hm pins s1 σ H1 x [] v [] Q I1 r1 .nil q1))⟩
theorem gC (pa:PlainAttrs T) (slot:Slot T name id) (hty:typeOf (.builtin id)=pure (.type "method_descriptor")) (hm:JU X id r) (ho:PE X o to) (ha:PA X (e::es) t)
  (hbase:attributeBase o name X.env (eval o X.env)=eval o X.env:=by rfl)
  (hfew:((backTo cpos (starEach (e::es) X.env)).all (fun x=>!x.1)&&(backToKw cpos (keywordEach [] X.env)).all (fun x=>x.1.isSome)
   && decide ((e::es).length+([]:List Keyword).length+(if ([]:List Keyword).isEmpty then 0 else 1)<30))=true:=by rfl)
  (hline:(apos.endLine == cpos.line)=true:=by rfl) (hs:starEach (e::es) X.env=(false,eval e X.env)::starEach es X.env:=by rfl) (hplain:(backTo cpos (starEach es X.env)).any (·.1)=false:=by rfl) :
  PE X (.Call (.Attribute o name apos) (e::es) [] cpos) (JV X.K T r to t):=by
 intro pins s σ H Q I h;refine wpAny_Call_method_late hbase hfew hline rfl (bM (ho pins s σ H _ I h) fun v s1 zz9=>?_);obtain⟨x,H1,I1,r1,ty,q1⟩:=zz9;obtain⟨h1,h2⟩:=wo I1 r1 ty;refine⟨T,id,pa,slot,hty,h1,h2,?_⟩;have hA:=ha cpos pins s1 σ H1 _ I1 q1;rw[hs]at hA ⊢;refine Calls.callWith_builtin (by show(false||(backTo cpos (starEach es X.env)).any (·.1))=false;rw[hplain]<;>rfl) (Calls.evalArgs_plain ?_)
 exact bM hA fun us s2 ⟨vs,H2,I2,r2,q2⟩=>hm pins s2 σ H2 x vs v us Q I2 r1 r2 q2
end
end L2
namespace L2
open PySem PySem.Spec PyProof.Rows
def E9 (X:Cx) (id:String) (r:V->List V->Hp->VK->Prop):Prop :=
 ∀(pins:List (Addr×Obj)) (s:Shared) (σ:St) (H:Hp) (x:V) (xs:List V) (v:Value) (us:List Value) (Q:VK),Inv X pins σ H s->RelV x v->Vals xs us->r x xs H Q ->
  wpAny (model X.prog X.w) X.A (call (.builtin id) (v::us)) (EP X pins σ Q) X.xe s
theorem Vals.one:∀{x:V} {us:List Value},Vals [x] us->∃u,us=[u]/\RelV x u
 | _,_,.cons r .nil=>⟨_,rfl,r⟩
theorem Vals.zero:∀{us:List Value},Vals [] us->us=[]
 | _,.nil=>rfl
theorem Vals.dropLast {xs:List V} {us:List Value} (h:Vals xs us):Vals xs.dropLast us.dropLast:=by
 induction h with
 | nil=>exact .nil
 | cons r t ih =>
  cases t with
  | nil=>exact .nil
  | cons q t'=>exact .cons r ih
theorem Vals.eraseIdx:∀{xs:List V} {us:List Value} (i:Nat),Vals xs us->Vals (xs.eraseIdx i) (us.eraseIdx i)
 | _,_,_,.nil=>.nil
 | _,_,0,.cons _ t=>t
 | _,_,i+1,.cons r t=>.cons r (Vals.eraseIdx i t)
theorem rM {α:Type} (l:List α):l.eraseIdx (l.length-1)=l.dropLast:=by
 induction l with
 | nil=>rfl
 | cons a r ih =>
  cases r with
  | nil=>rfl
  | cons b r =>
   have e:(a::b::r).length-1=((b::r).length-1)+1:=by
    have h1:(a::b::r).length=r.length+2:=rfl;have h2:(b::r).length=r.length+1:=rfl;lia
   rw[e,List.eraseIdx_cons_succ,ih]
   all_goals rfl
theorem nF {α:Type}:∀(l:List α) (i:Nat),(l.eraseIdx i).length<=l.length
 | [],_=>Xa _
 | _::_,0=>Nat.le_succ _
 | _::r,i+1=>Nat.succ_le_succ (nF r i)
section
variable {X:Cx} {pins:List (Addr×Obj)} {σ:St} {H:Hp} {s:Shared} {l b:Addr} {xs ys zs:List V}
theorem Inv.lset {its its':List Value} {n:Nat} {f:Array Value->Array Value} {t':Nat} (I:Inv X pins σ H s) (hH:H l=some (.lst xs))
  (e:s.heap.get? l=some { cls:=.type "list",data:=.seq its.toArray n }) (hf:f its.toArray=its'.toArray) (hv:Vals ys its') (hz:ys.length<=sizeLine) (ht:0<t':=by first|assumption|exact Wg _|exact Inv.tk (by assumption)|exact Inv.tkl (by assumption) (by assumption)|lia) :
  Inv X pins σ (upd H l (.lst ys)) { s with heap:=s.heap.update l (Obj.mapSeq f),toks:=t' }:=by
 have q:=PySem.IsL.update e f;rw[hf]at q;refine I.write (x:=l) (e:=l) (by rw[hH];exact trivial) (.inl rfl) (fun b' u hb hu=>(Bp s.heap (Obj.mapSeq f) (Ne.symm hb)).trans hu) ⟨_,q⟩ ?_
 exact⟨hz,its',_,hv,q⟩
theorem Inv.lnew {its:List Value} {t':Nat} (I:Inv X pins σ H s) (hv:Vals ys its) (hz:ys.length<=sizeLine) (ht:0<t':=by first|assumption|exact Wg _|exact Inv.tk (by assumption)|exact Inv.tkl (by assumption) (by assumption)|lia) :
  Inv X pins σ (upd H s.heap.objs.size (.lst ys)) { s with heap:=s.heap.push { cls:=.type "list",data:=.seq its.toArray },toks:=t' } :=
 I.laid (fun _ _ q=>Ab _ q) (Xa _) ⟨hz,its,0,hv,Ah _ rfl⟩
theorem Inv.fresh (I:Inv X pins σ H s):H s.heap.objs.size=none:=I.hok.fresh (Xa _)
theorem Inv.lstM (I:Inv X pins σ H s) (hH:H l=some (.lst xs)):xs.length<=sizeLine/\∃(its:List Value) (n:Nat),Vals xs its/\xs.length=its.length/\s.heap.get? l=some { cls:=.type "list",data:=.seq its.toArray n }:=by
 obtain⟨z,its,n,r,e⟩:=I.hok l _ hH;exact⟨z,its,n,r,r.length,e⟩
theorem p7 {n:Nat} (h:n<=sizeLine):Builtin.List.listTooLong n=false:=by
 unfold Builtin.List.listTooLong;exact Ad (by lia)
end
section
variable {X:Cx}
def sX:V->List V->Hp->VK->Prop:=fun x vs H Q=>∃l xs y,x=.ref l/\vs=[y]/\H l=some (.lst xs)/\xs.length<sizeLine/\Q .non (upd H l (.lst (xs++[y])))
theorem cL:E9 X "list.append" sX:=by
 intro pins s σ H x vs v us Q I rx rv h;obtain⟨l,xs,y,rfl,rfl,hH,hz,q⟩:=h;cases rx;obtain⟨u,rfl,ru⟩:=rv.one;obtain⟨z,its,n,r,hl,e⟩:=I.lstM hH;refine AM F.slot_list_append ⟨_,e,rfl⟩ F.entry_list_append (F.args_list_append_2 _ _) (PySem.list_append l its.toArray n u (by rw[Yb];lia)) ⟨e,?_⟩
 refine⟨.non,_,I.lset (its':=its++[u]) hH e (by simp) (r.append (.cons ru .nil)) ?_,rfl,q⟩
 rw[Va,Vc];lia
def sY:V->List V->Hp->VK->Prop:=fun x vs H Q=>∃l b xs zs,x=.ref l/\vs=[.ref b]/\H l=some (.lst xs)/\H b=some (.lst zs)/\xs.length+zs.length<=sizeLine/\Q .non (upd H l (.lst (xs++zs)))
theorem uV:E9 X "list.extend" sY:=by
 intro pins s σ H x vs v us Q I rx rv h;obtain⟨l,b,xs,zs,rfl,rfl,hH,hB,hz,q⟩:=h;cases rx;obtain⟨u,rfl,ru⟩:=rv.one;cases ru;obtain⟨z,its,n,r,hl,e⟩:=I.lstM hH;obtain⟨z2,its2,n2,r2,hl2,e2⟩:=I.lstM hB;have hsz:its.toArray.size+its2.toArray.size<=sizeLine:=by rw[Yb,Yb];lia
 have hlong:¬ (!its.toArray.isEmpty&&Builtin.List.listTooLong (its.toArray.size+its2.toArray.size))=true:=by
  rw[p7 hsz,Cc];exact Qc
 refine AM F.slot_list_extend ⟨_,e,rfl⟩ F.entry_list_extend (F.args_list_extend_2 _ _)
  (AutoSeq1.list_extend_list_list_0 l its.toArray n b its2.toArray n2 hlong (by rw[Yb];lia) (by lia)) ⟨e,e2,?_⟩
 refine⟨.non,_,I.lset (its':=its++its2) hH e (by simp) (r.append r2) ?_,rfl,q⟩
 rw[Va];lia
def HD:V->List V->Hp->VK->Prop:=fun x vs H Q=>∃l xs y,x=.ref l/\vs=[]/\H l=some (.lst xs)/\xs[xs.length-1]?=some y/\Q y (upd H l (.lst xs.dropLast))
theorem Fb:E9 X "list.pop" HD:=by
 intro pins s σ H x vs v us Q I rx rv h;obtain⟨l,xs,y,rfl,rfl,hH,hy,q⟩:=h;cases rx;have hus:=rv.zero;subst hus;obtain⟨z,its,n,r,hl,e⟩:=I.lstM hH;obtain⟨u,hu,ru⟩:=r.get hy;have hy':its.toArray[its.toArray.size-1]?=some u:=by
  show its.toArray[its.length-1]?=some u;rw[← Zi,← hl];exact hu
 refine AM F.slot_list_pop ⟨_,e,rfl⟩ F.entry_list_pop (F.args_list_pop_1 _) (MeetsSeq.list_pop_last l its.toArray n u hy' (by rw[Yb];lia)) ⟨e,?_⟩
 refine⟨y,_,I.lset (its':=its.dropLast) hH e ?_ r.dropLast ?_,ru,q⟩
 ·show its.toArray.eraseIdxIfInBounds (its.toArray.size-1)=its.dropLast.toArray;rw[Yb,BS,rM]
 ·rw[List.length_dropLast];lia
def wq:V->List V->Hp->VK->Prop:=fun x vs H Q=>∃l xs i k y,x=.ref l/\vs=[.int i]/\H l=some (.lst xs)/\-(2 ^ 63)<=i/\i<2 ^ 63/\seqIndex? i xs.length=some k/\xs[k]?=some y/\Q y (upd H l (.lst (xs.eraseIdx k)))
theorem wr:E9 X "list.pop" wq:=by
 intro pins s σ H x vs v us Q I rx rv h;obtain⟨l,xs,i,k,y,rfl,rfl,hH,h1,h2,hk,hy,q⟩:=h;cases rx;obtain⟨u,rfl,ru⟩:=rv.one;obtain⟨t,rfl⟩:=ru;obtain⟨z,its,n,r,hl,e⟩:=I.lstM hH;obtain⟨w,hw,rw'⟩:=r.get hy;refine AM F.slot_list_pop ⟨_,e,rfl⟩ F.entry_list_pop (F.args_list_pop_2 _ _)
  (MeetsSeq.list_pop_at l its.toArray n i t k w (fitsIndex_both h1 h2) (by rw[Yb,← hl];exact hk) (by rw[← Zi];exact hw) (by rw[Yb];lia)) ⟨e,?_⟩
 refine⟨y,_,I.lset (its':=its.eraseIdx k) hH e ?_ (r.eraseIdx k) ?_,rw',q⟩
 ·show its.toArray.eraseIdxIfInBounds k=(its.eraseIdx k).toArray;rw[BS]
 ·have:=nF xs k;lia
def wt:V->List V->Hp->VK->Prop:=fun x vs H Q=>∃l xs,x=.ref l/\vs=[]/\H l=some (.lst xs)/\Q .non (upd H l (.lst []))
theorem p8:E9 X "list.clear" wt:=by
 intro pins s σ H x vs v us Q I rx rv h;obtain⟨l,xs,rfl,rfl,hH,q⟩:=h;cases rx;have hus:=rv.zero;subst hus;obtain⟨z,its,n,r,hl,e⟩:=I.lstM hH;refine AM F.slot_list_clear ⟨_,e,rfl⟩ F.entry_list_clear (F.args_list_clear_1 _) (AutoSeq1.list_clear_list_0 l its.toArray n (by rw[Yb];lia)) ⟨e,?_⟩
 exact⟨.non,_,I.lset (its':=[]) (ys:=[]) hH e rfl .nil (Wh _),rfl,q⟩
def Fc:R2:=fun x y H Q=>∃l b xs zs,x=.ref l/\y=.ref b/\H l=some (.lst xs)/\H b=some (.lst zs)/\xs.length+zs.length<=sizeLine/\∀p,H p=none->Q (.ref p) (upd H p (.lst (xs++zs)))
theorem op_cat:OpR X (binaryOp .Add) Fc:=by
 intro pins s σ H x y v u Q I rx ry h;obtain⟨l,b,xs,zs,rfl,rfl,hH,hB,hz,q⟩:=h;cases rx;cases ry;obtain⟨z,its,n,r,hl,e⟩:=I.lstM hH;obtain⟨z2,its2,n2,r2,hl2,e2⟩:=I.lstM hB;refine PySem.P.add_list e e2 ?_ (by rw[Yb,Yb];lia)
 have ea:its.toArray++its2.toArray=(its++its2).toArray:=by simp
 rw[ea];exact⟨.ref _,_,I.lnew (t':=s.toks) (r.append r2) (by rw[Va];lia),rfl,q _ I.fresh⟩
end
end L2
namespace Att
open PySem PySem.W PySem.Calls PyProof.Rows
theorem kT {P:Params} {h:Heap}:∀(ns:List Int) (vs:List Value),WellAll P h vs (ns.map WData.int)->IntsAre vs ns:=by
 intro ns;induction ns with
 | nil =>
  intro vs w;rw[List.map_nil]at w;cases w;exact .nil
 | cons n ns ih =>
  intro vs w;rw[Vd]at w;cases w with
  | cons a b =>
   cases a;exact .cons _ _ (ih _ b)
theorem script_of {l:OpenLaw} {n:Nat} (hn:l.most=some n) {P:Params} {h:Heap} {args:List WData} {vals:List Value}
  (hpre:l.row.toRowW.claim.pre args=true) (hwl:WellAll P h vals args) :
  ∃a vs ns,vals=[Value.ref a]/\args=[WData.list (ns.map WData.int)]/\h.get? a=some { cls:=.type "list",data:=.seq vs.toArray }/\IntsAre vs ns/\ns.length<=n:=by
 have hsh:WShape.hasAll [] args [.list .int]=true:=(pre_splitW hpre).1;have hc:l.pre.holds [] { args:=args }=true:=(pre_splitW hpre).2;obtain⟨d,r,rfl,h1,h2⟩:=hasAllW_cons hsh;obtain rfl:=hasAllW_nil h2;obtain⟨xs,rfl,h3⟩:=hasW_list h1;obtain⟨ns,rfl⟩:=items_int h3;have hlen:ns.length<=n:=by
  unfold OpenLaw.pre at hc;have h4:(WTm.not (.lt (.lit (.int (n:Int))) (.len (.arg 0)))).holds [] { args:=[.list (ns.map .int)] }=true:=by
   have h4:=(holds_andW hc).1;rw[hn]at h4;exact h4
  have h5:=condW_of h4 (w_not (w_lt w_lit (w_len_list (w_arg rfl))));rw[Ya]at h5;refine Bi fun q=>?_;have q':(n:Int)<((ns.length:Nat):Int):=by lia
  first
   | (rw[Ag q']at h5;exact absurd h5 (by decide))
   | (simp at h5;lia)
 cases hwl with
 | cons w1 w2 =>
  cases w2;cases w1 with
  | list ho hall=>exact⟨_,_,ns,rfl,rfl,ho,kT ns _ hall,hlen⟩
theorem post_true (l:OpenLaw) (args:List WData):l.row.toRowW.claim.post args (.bool true) args=true :=
 postW_of (r:=l.row.toRowW) (X:=(true == true))
  (show WShape.has [] (.bool true) .bool=true by first|rfl|decide|simp[WShape.has,WShape.arms,WShape.armsAll])
  (show(WTm.eq .res (.lit (.bool true))).value [] { args:=args,res:=some (.bool true),after:=args }=some (.bool (true == true)) from w_eq_bool (w_res rfl) w_lit) rfl
end Att
namespace L2
open PySem PySem.Spec PyProof.Rows
theorem nG:∀{vs:List Value} {ns:List Int},IntsAre vs ns->Vals (ns.map V.int) vs
 | _,_,.nil=>.nil
 | _,_,.cons n t h=>.cons ⟨t,rfl⟩ (nG h)
def Fe (H:Hp):Prop:=∀b,H b=none∨∃o xs,H b=some (.frz o (.lst xs))
theorem wu {P:Program} {w:World} {K:PySem.W.Frag} {mg mb:Str->Option Value} {CX:v8} {k:Nat} {fa a:Addr} {fd:FuncData} {x:Str} {sp:Sp} {s₁:Shared} {vs:List Value} {ns:List Int}
  (KX:K.In s₁.heap) (hns:s₁.heap.Ns mainGlobals mg) (hb:s₁.heap.Ns builtinsNs mb) (hbb:∀x:Str,x≠"__name__"->mb x=bootBuiltins x) (hlim:s₁.heap.NoLimit) (hg:s₁.gens=#[]) (htk:0<s₁.toks)
  (ha:s₁.heap.get? a=some { cls:=.type "list",data:=.seq vs.toArray }) (hi:IntsAre vs ns) (hl:ns.length<=sizeLine) (hr:Room k callerA)
  (F:∀base:Heap,K.In base->base.Ns mainGlobals mg->FnOk P w K mg base CX k fa fd [x] sp) (hbind:∀(s:Shared) (u:Value),BindsTo s fd ⟨[u],[]⟩ [(x,u)])
  (hsp:∀H:Hp,Fe H->eY K H a (ns.map V.int)->sp [.ref a] H (fun v _=>v=.bl true) fun _ _ _=>False)
  (hCX:∀H e s',CX [] H s₁ (fun _ _ _=>False) e s'->False) :
  codeAny (model P w) callerA (.call (.ref fa) ⟨[.ref a],[]⟩) (fun r s'=>r=.ok (.ret (.bool true))/\OldK s₁.heap s'.heap/\s'.os=s₁.os/\AllBare s'.gens) s₁:=by
 have rv:=nG hi;have Fu:=hi.length;have core:∀H:Hp,Fe H->eY K H a (ns.map V.int)->HOk P w H s₁.heap->(∀b,H b≠none->b=a)->(H a≠none->K.lookup a=none) ->
   codeAny (model P w) callerA (.call (.ref fa) ⟨[.ref a],[]⟩) (fun r s'=>r=.ok (.ret (.bool true))/\OldK s₁.heap s'.heap/\s'.os=s₁.os/\AllBare s'.gens) s₁:=by
  intro H hO hS hok hA hK;have base_of:∀{b:Addr} {o:Obj},s₁.heap.get? b=some o->H b=none->(oh s₁.heap H).get? b=some o:=fun e n=>vS e n;have noA:∀{b:Addr} {o:Obj} {es:Array DictEntry} {ep:Nat},s₁.heap.get? b=some o->o.data=.dict es ep->H b=none:=fun {b o es ep} e d=>by
   cases q:H b with
   | none=>rfl
   | some u =>
    have e':b=a:=hA b (by rw[q];simp)
    subst e';rw[ha]at e;cases e;have d':Data.seq vs.toArray _=Data.dict es ep:=d;cases d'
  have nsK:∀{b:Addr} {m:Str->Option Value},s₁.heap.Ns b m->(oh s₁.heap H).Ns b m:=fun {b m} ⟨o,es,ep,e,d,r⟩=>⟨o,es,ep,base_of e (noA e d),d,r⟩
  have hKb:K.In (oh s₁.heap H):=fun b o e=>base_of (KX b o e) (by
   cases q:H b with
   | none=>rfl
   | some u =>
    have e':b=a:=hA b (by rw[q];simp)
    subst e'
    rw[hK (by rw[q];simp)]at e;cases e)
  have hM:Mod K mg (oh s₁.heap H):=⟨hKb,nsK hns,⟨mb,nsK hb,hbb⟩,let ⟨mc,h1,h2⟩:=hlim;⟨mc,nsK h1,h2⟩⟩;have e0:Env0 P w K mg (oh s₁.heap H) callerA [] s₁ H:=⟨rfl,hM,fun b o e=>y4 e,Nat.le_of_eq (uJ _ _),trivial,fun b hb=>absurd (show b∈([]:List Addr) from hb) (by simp),hok,.of_eq hg,htk⟩
  refine codeAny_mono ((F _ hKb (nsK hns)).run callerA [] s₁ H ⟨[.ref a],[]⟩ [.ref a] [.ref a] _ _ hr e0 (hbind s₁ (.ref a)) (.cons rfl .nil) (hsp H hO hS)) fun r s' h=>?_;cases r with
  | error e=>exact(hCX H e s' h).elim
  | ok fl =>
   cases fl with
   | next=>exact False.elim h
   | brk=>exact False.elim h
   | cont=>exact False.elim h
   | ret u =>
    obtain⟨v,H',os,bare,un,hok',r',q⟩:=h;have q':v=.bl true:=q;subst q';obtain rfl:u=Value.bool true:=r';refine⟨rfl,OldK.of_keep fun b o e=>?_,os,bare⟩;cases q:H b with
    | none=>exact un.keep b o e q (by intro z;exact absurd (show b∈([]:List Addr) from z) (by simp)) (by simp)
    | some u =>
     rcases hO b with z|⟨ob,xs,z⟩
     ·rw[q]at z;cases z
     ·have z2:=un.frzs b ob _ z;obtain⟨e1,_⟩:=hok b _ z;obtain⟨e2,_⟩:=hok' b _ z2;rw[e]at e1;cases e1;exact e2
 cases hk:K.lookup a with
 | some o =>
  have e:=KX a o hk;rw[ha]at e;cases e;refine core (fun _=>none) (fun _=>.inl rfl) (.inr ⟨_,vs.toArray,_,hk,rfl,rfl,rfl,by rw[Yb,Fu];exact hl,by simpa using rv⟩) (fun b u z=>by have z':(none:Option HO)=some u:=z;cases z') (fun b z=>absurd rfl z) fun z=>absurd rfl z
 | none =>
  refine core (fun b=>if b=a then some (.frz { cls:=.type "list",data:=.seq vs.toArray } (.lst (ns.map V.int))) else none) (fun b=>?_) (.inl (.inr ⟨{ cls:=.type "list",data:=.seq vs.toArray },Ae rfl⟩)) (fun b u z=>?_) (fun b z=>?_) fun _=>hk
  ·by_cases hb:b=a
   ·exact .inr ⟨_,_,Ae hb⟩
   ·exact .inl (Af hb)
  ·by_cases hb:b=a
   ·have z':=(Ae hb).symm.trans z;cases z';subst hb;exact⟨ha,by rw[Ya];exact hl,vs,_,rv,ha⟩
   ·have z':=(Af hb).symm.trans z;cases z'
  ·by_cases hb:b=a
   ·exact hb
   ·exact absurd (Af hb) z
theorem p9:∀ns:List Int,PySem.W.ofPys (ns.map PyData.int)=ns.map PySem.W.WData.int
 | []=>rfl
 | n::r=>by
  show PySem.W.WData.int n::PySem.W.ofPys (r.map PyData.int)=_;rw[p9 r];rfl
theorem walk_of {l:PySem.W.OpenLaw} {n k:Nat} {q:Program} {loose:List Str} {XP:(Str->Option Value)->Heap->Prop} {d:DefRec} {K:Params->PySem.W.Frag} {CX:World->v8} {sp:World->Sp} {x:Str} {as:List Addr} {sz t:Nat}
  (hn:l.most=some n) (hn2:n<=sizeLine) (hdf:d.params.defaults=[]) (hr:Room k callerA) (ht:0<t) (hK:∀P,as=(K P).map (·.1))
  (F:∀(w:World) (mg:Str->Option Value) (fa:Addr) (h:Heap),(K w.params).In h->h.Ns mainGlobals mg->mg d.name=some (.ref fa) ->
   ∃fd:FuncData,(∀(s:Shared) (u:Value),BindsTo s fd ⟨[u],[]⟩ [(x,u)]) /\
    ∀base:Heap,(K w.params).In base->base.Ns mainGlobals mg->FnOk l.prog w (K w.params) mg base (CX w) k fa fd [x] (sp w))
  (hsp:∀(w:World) (H:Hp) (a:Addr) (ns:List Int),ns.length<=n->Fe H->eY (K w.params) H a (ns.map V.int)->sp w [.ref a] H (fun v _=>v=.bl true) fun _ _ _=>False)
  (hCX:∀(w:World) (H:Hp) (s:Shared) (e:Value) (s':Shared),CX w [] H s (fun _ _ _=>False) e s'->False) :
  PySem.W.WalkX q loose XP (PySem.W.X.obsZ as) (PySem.W.X.valZ K sz t) l.row.toRowW d [] (fun f vs=>PySem.call f vs):=by
 intro w s₀ s₁ mg mb G y fa o pm cd doc dV kV ho hd hcd hD hmg hg args vals as' L hpre hlay hrd hwl hlo;obtain rfl:dV=.none:=PySem.W.Dflts.none hD hdf;obtain rfl:kV=.none:=PySem.W.Dflts.noKw hD;obtain⟨a,vs,ns,rfl,rfl,hobj,hints,hlen⟩:=Att.script_of hn hpre hwl;obtain⟨_,K0,_,T0⟩:=PySem.W.X.z_facts hK y;have KX:(K w.params).In s₁.heap:=fun b o e=>L.keeps b o ((show(K w.params).In s₀.heap from K0) b o e);have tk:0<s₁.toks:=by
  have e:[PySem.W.WData.list (ns.map PySem.W.WData.int)]=[PySem.W.ofPy (PyData.list (ns.map PyData.int))]:=by
   show _=[PySem.W.WData.list (PySem.W.ofPys (ns.map PyData.int))];rw[p9]
  rw[e]at L;exact Zc ht (PySem.W.X.script_toks L T0)
 obtain⟨fd,hb,hF⟩:=F w mg fa _ KX G.T.g hmg;refine PySem.W.enter_call (codeAny_mono (wu KX G.T.g G.T.b G.T.builtins G.T.nolimit hg tk hobj hints (Ze hlen hn2) hr hF hb (fun H hO hS=>hsp w H a ns hlen hO hS) fun H e s'=>hCX w H s₁ e s') fun r s' hq=>?_);obtain⟨rfl,h2,h3,h4⟩:=hq;exact⟨.inl ⟨.bool true,.bool true,[],rfl,fun _=>rfl,.bool true,Att.post_true l _,fun _=>⟨List.Pairwise.nil,fun _ hm=>(nomatch hm)⟩⟩,h2,h3,h4⟩
end L2
namespace L2
open PySem PySem.Spec PyProof.Rows
def ib (s:Stmt):Arguments:=match s with
 | .FunctionDef _ a _ _ _ _ _ _ _ _=>a
 | _=>{ posonlyargs:=[],args:=[],vararg:=none,kwonlyargs:=[],kw_defaults:=[],kwarg:=none,defaults:=[] }
def eB (s:Stmt):List Stmt:=match s with
 | .FunctionDef _ _ b _ _ _ _ _ _ _=>b
 | _=>[]
def ay (s:Stmt):Scope:=match s with
 | .FunctionDef _ _ _ _ _ _ sc _ _ _=>sc
 | _=>{ kind:=.function,names:=[],isGenerator:=false,isCoroutine:=false }
abbrev yX:v8:=fun _ _ _ _ _ _=>False
abbrev E0:XK:=fun _ _ _=>False
theorem HE {X:Cx}:rF yX X E0:=fun _ _ _ _ _ _ _ h=>h.elim
structure Fun (K:PySem.W.Frag) (x qual:Str) (st:Stmt) (f:Addr) (fd:FuncData):Prop where
 ex:∃(oc:Value) (od:Option Addr) (kV doc pm:Value) (an:Option Addr) (cdv ct:Value) (osl:Array (Option Value)),
  fd=PySem.W.fnOf x qual (ib st) (eB st) (ay st) .none kV doc pm an cdv ct/\K.lookup f=some ⟨oc,od,.func fd,osl⟩/\PySem.W.codeIn K cdv qual=true
 kp:PySem.W.keepIn K (.ref f)=true
section
variable {P:Program} {w:World} {K:PySem.W.Frag} {mg:Str->Option Value} {base:Heap}
theorem Fun.ok {x qual:Str} {st:Stmt} {f:Addr} {fd:FuncData} {N ps:List Str} {k:Nat} {sp:Sp} (F:Fun K x qual st f fd) (S:FnScope N ps (ay st)) (len:∀vs H Q E,sp vs H Q E->vs.length=ps.length)
  (hbody:∀(cdv:Value) (A:Around) (outer:List Env) (s:Shared) (H:Hp) (vs:List V) (Q:VK) (E:XK),Room k (A.deeper (envOfC qual (ay st) s.heap.objs.size f cdv))->sp vs H Q E ->
   ∃t,PSs (rG yX P w K mg base N qual (ay st) f cdv A outer s H E).nox (eB st) t/\t { nx:=fun _ H'=>Q .non H',rt:=Q } (start N vs) H):FnOk P w K mg base yX (k+1) f fd ps sp:=by
 obtain⟨oc,od,kV,doc,pm,an,cdv,ct,osl,rfl,lk,hcd⟩:=F.ex;refine Hx lk hcd S len fun A outer s H vs Q E hr hsp=>?_;obtain⟨t,h,q⟩:=hbody cdv A outer s H vs Q E hr hsp;exact⟨t,h.nox,q⟩
theorem Fun.binds {x qual:Str} {st:Stmt} {f:Addr} {fd:FuncData} {ps:List Str} (F:Fun K x qual st f fd)
  (h:∀(kV doc pm:Value) (an:Option Addr) (cdv ct:Value) (us:List Value),us.length=ps.length->bindArgs (PySem.W.fnOf x qual (ib st) (eB st) (ay st) .none kV doc pm an cdv ct) ⟨us,[]⟩=pure (ps.zip us)):Binds K fd ps []:=by
 obtain⟨oc,od,kV,doc,pm,an,cdv,ct,osl,rfl,lk,hcd⟩:=F.ex;exact .all (h kV doc pm an cdv ct)
theorem Ff {x qual:Str} {st:Stmt} {f:Addr} {oc:Value} {od an:Option Addr} {osl:Array (Option Value)} {kV doc pm cdv ct:Value} (l:K.lookup f=some ⟨oc,od,.func (PySem.W.fnOf x qual (ib st) (eB st) (ay st) .none kV doc pm an cdv ct),osl⟩)
  (c:PySem.W.codeIn K cdv qual=true) (k:PySem.W.keepIn K (.ref f)=true):Fun K x qual st f (PySem.W.fnOf x qual (ib st) (eB st) (ay st) .none kV doc pm an cdv ct):=⟨⟨oc,od,kV,doc,pm,an,cdv,ct,osl,rfl,l,c⟩,k⟩
end
theorem dB {A:Around} {k:Nat} (hr:Room k A):A.units+2<cLine:=Zm (Vi (by decide:2<=64) _) hr.units
theorem uW {n:Nat} (h:n<=1000):n<sizeLine:=Zm h (by decide)
section
variable {X:Cx}
theorem pv (i:Nat) {x:Str} {pos:Pos} (hN:X.N[i]?=some x:=by rfl) (hv:Jp X.env.scope x:=by first|exact Or.inl rfl|exact Or.inr (Or.inl rfl)|exact Or.inr (Or.inr rfl)) (hd:(x == ("__debug__":Str))=false:=by decide)
  (hcd:(x == ("__classdict__":Str))=false:=by decide):PE X (.Name x pos) (jm i):=Et hN hv hd hcd
end
def Same (H H':Hp):Prop:=∀b o,H b=some o->H' b=some o
theorem Same.refl (H:Hp):Same H H:=fun _ _ h=>h
end L2
namespace L2
open PySem PySem.Spec PyProof.Rows
def bx (env:Env):List (Str×NameKind)->List (Str×Addr)->List (Str×Addr)
 | [],acc=>acc
 | (n,k)::r,acc=>if k=.free then bx env r ((n,(env.cells.lookup n).getD 0)::acc) else bx env r acc
theorem fN {env:Env} {f:Str×NameKind->List (Str×Addr)->Sem (ForInStep (List (Str×Addr)))}
  (h1:∀n k cs c,k=NameKind.free->env.cells.lookup n=some c->f (n,k) cs=pure (.yield ((n,c)::cs)))
  (h2:∀n k cs,k≠NameKind.free->f (n,k) cs=pure (.yield cs)) :
  ∀(names:List (Str×NameKind)) (acc:List (Str×Addr)),(∀x∈names,x.2=.free->∃c,env.cells.lookup x.1=some c)->forIn names acc f=pure (bx env names acc)
 | [],_,_=>rfl
 | (n,k)::r,acc,h=>by
  have hr:∀x∈r,x.2=.free->∃c,env.cells.lookup x.1=some c:=fun x hx=>h x (Yc _ hx);by_cases hk:k=.free
  ·obtain⟨c,hc⟩:=h (n,k) Wd hk;have e:bx env ((n,k)::r) acc=bx env r ((n,c)::acc):=by
    show(if k=.free then _ else _)=_;rw[Ae hk];have hc':env.cells.lookup n=some c:=hc;rw[hc'];rfl
   rw[AU,h1 n k acc c hk hc,pure_bind,e];exact fN h1 h2 r _ hr
  ·have e:bx env ((n,k)::r) acc=bx env r acc:=by
    show(if k=.free then _ else _)=_;rw[Af hk]
   rw[AU,h2 n k acc hk,pure_bind,e];exact fN h1 h2 r _ hr
theorem jp {scope:Scope} {env:Env} (h:∀x∈scope.names,x.2=.free->∃c,env.cells.lookup x.1=some c):closureFor scope env=pure (bx env scope.names []):=by
 simp only[closureFor];have key:=fun f h1 h2=>fN (env:=env) (f:=f) h1 h2 scope.names [] h
 rw[key _ (fun n k cs c hk hc=>by subst hk;simp[cellOf,hc]) (fun n k cs hk=>by
  have:(k == NameKind.free)=false:=by simpa using hk
  simp only[this,We,if_false])]
 rfl
theorem bJ {α β:Type} [BEq α] {x n:α} {k:β} {r:List (α×β)}:List.lookup x ((n,k)::r)=if (x == n)=true then some k else List.lookup x r:=by
 rw[List.lookup_cons];cases x == n<;>rfl
theorem eL {env:Env} {x:Str} {c:Addr}:∀(names:List (Str×NameKind)) (acc:List (Str×Addr)),(∀x∈names,x.2=.free->∃c,env.cells.lookup x.1=some c) ->
  (∀y c,acc.lookup y=some c->env.cells.lookup y=some c)->(bx env names acc).lookup x=some c->env.cells.lookup x=some c
 | [],acc,_,ha,e=>ha x c e
 | (n,k)::r,acc,h,ha,e=>by
  have hr:∀x∈r,x.2=.free->∃c,env.cells.lookup x.1=some c:=fun x hx=>h x (Yc _ hx);by_cases hk:k=.free
  ·obtain⟨c',hc⟩:=h (n,k) Wd hk;have hc':env.cells.lookup n=some c':=hc;have q:bx env ((n,k)::r) acc=bx env r ((n,c')::acc):=by
    show(if k=.free then _ else _)=_;rw[Ae hk,hc'];rfl
   rw[q]at e;refine eL r _ hr (fun y d hy=>?_) e;rw[bJ]at hy;by_cases hyn:(y == n)=true
   ·rw[Ae hyn]at hy;have:y=n:=by simpa using hyn
    rw[this,hc',hy]
   ·rw[Af hyn]at hy;exact ha y d hy
  ·have q:bx env ((n,k)::r) acc=bx env r acc:=by
    show(if k=.free then _ else _)=_;rw[Af hk]
   rw[q]at e;exact eL r _ hr ha e
theorem iX {env:Env} {x:Str} {c:Addr} (hx:env.cells.lookup x=some c):∀(names:List (Str×NameKind)) (acc:List (Str×Addr)),(acc.lookup x=some c∨(x,NameKind.free)∈names)->(bx env names acc).lookup x=some c
 | [],acc,h=>by
  rcases h with h|h
  ·exact h
  ·cases h
 | (n,k)::r,acc,h=>by
  by_cases hk:k=.free
  ·have q:bx env ((n,k)::r) acc=bx env r ((n,(env.cells.lookup n).getD 0)::acc):=by
    show(if k=.free then _ else _)=_;rw[Ae hk]
   rw[q];refine iX hx r _ ?_;by_cases hxn:(x == n)=true
   ·left;have e:x=n:=by simpa using hxn
    rw[bJ,Ae hxn,← e,hx];rfl
   ·rcases h with h|h
    ·left;rw[bJ,Af hxn];exact h
    ·right;rcases Xd.mp h with h|h
     ·cases h;exact absurd (by simp) hxn
     ·exact h
  ·have q:bx env ((n,k)::r) acc=bx env r acc:=by
    show(if k=.free then _ else _)=_;rw[Af hk]
   rw[q];refine iX hx r _ ?_;rcases h with h|h
   ·exact .inl h
   ·rcases Xd.mp h with h|h
    ·cases h;exact absurd rfl hk
    ·exact .inr h
theorem cx {env:Env} {x:Str}:∀(names:List (Str×NameKind)),
  ((names.map fun(n,k)=>if (k == NameKind.free&&env.scope.kind == .function&&env.kindOf n == some .cell) then(n,NameKind.cell) else(n,k)).lookup x=none/\names.lookup x=none) ∨
  ∃k k',names.lookup x=some k/\(names.map fun(n,k)=>if (k == NameKind.free&&env.scope.kind == .function&&env.kindOf n == some .cell) then(n,NameKind.cell) else(n,k)).lookup x=some k'/\(k'=k∨(k=.free/\k'=.cell))
 | []=>.inl ⟨rfl,rfl⟩
 | (n,k)::r=>by
  have ih:=@cx env x r;show(List.lookup x ((if (k == NameKind.free&&env.scope.kind == .function&&env.kindOf n == some .cell)=true then(n,NameKind.cell) else(n,k))::_)=none/\_)∨∃k' k'',_/\List.lookup x ((if (k == NameKind.free&&env.scope.kind == .function&&env.kindOf n == some .cell)=true then(n,NameKind.cell) else(n,k))::_)=_/\_;by_cases hc:(k == NameKind.free&&env.scope.kind == .function&&env.kindOf n == some .cell)=true
  ·rw[Ae hc,bJ,bJ];have hk:k=.free:=by
    simp only[Xg]at hc;simpa using hc.1.1
   by_cases hx:(x == n)=true
   ·rw[Ae hx,Ae hx];exact .inr ⟨k,.cell,rfl,rfl,.inr ⟨hk,rfl⟩⟩
   ·rw[Af hx,Af hx];exact ih
  ·rw[Af hc,bJ,bJ];by_cases hx:(x == n)=true
   ·rw[Ae hx,Ae hx];exact .inr ⟨k,k,rfl,rfl,.inl rfl⟩
   ·rw[Af hx,Af hx];exact ih
abbrev oC (X:Cx) (N:List Str) (scope:Scope) (C:Addr) (s:Shared) (H:Hp) (fp:List Addr):Cx :=
 { X with N:=N,s₀:=s,H₀:=H,env:=compEnvC scope (bx X.env scope.names []) C X.env,outer:=X.stack,stack:=X.stack,ex:=fp,fn:=fun _=>false,pn:=[],xe:=fun _ _=>False }
structure BlkScope (X:Cx) (N:List Str) (k:Nat) (caps:List Nat) (scope:Scope):Prop where
 kind:scope.kind=.function
 nocell:∀y∈scope.names,y.2≠.cell
 loc:∀y∈scope.names,y.2=.local->scope.names.lookup y.1=some .local
 free:∀y∈scope.names,y.2=.free->(X.env.kindOf y.1=some .cell∨X.env.kindOf y.1=some .free)
 len:N.length=k+caps.length
 cap:∀(j i:Nat),caps[j]?=some i->∃x,N[k+j]?=some x/\X.N[i]?=some x/\scope.names.lookup x=some .free
def blk (k:Nat) (caps:List Nat) (σ:St):St:=List.replicate k none++caps.map fun i=>(σ[i]?).getD none
section
variable {X:Cx} {N:List Str} {k:Nat} {caps:List Nat} {scope:Scope}
theorem BlkScope.cells (S:BlkScope X N k caps scope) (ok:X.Ok):∀x∈scope.names,x.2=.free->∃c,X.env.cells.lookup x.1=some c:=fun x hx hk=>ok.has x.1 (S.free x hx hk)
theorem BlkScope.sub (S:BlkScope X N k caps scope) (ok:X.Ok) {x:Str} {c:Addr} (e:(bx X.env scope.names []).lookup x=some c):X.env.cells.lookup x=some c :=
 eL _ _ (S.cells ok) (fun y c h=>by cases h) e
theorem BlkScope.has (S:BlkScope X N k caps scope) (ok:X.Ok) {x:Str} (h:scope.names.lookup x=some .free):∃c,X.env.cells.lookup x=some c/\(bx X.env scope.names []).lookup x=some c:=by
 have hm:=PySem.mem_of_lookup h;obtain⟨c,hc⟩:=S.cells ok _ hm rfl;exact⟨c,hc,iX hc _ _ (.inr hm)⟩
theorem sZ (σ:St):(blk k caps σ).length=k+caps.length:=by unfold blk;simp
theorem s9 {σ:St} {i:Nat} {v:V} (h:(blk k caps σ)[i]?=some (some v)):∃j i',i=k+j/\caps[j]?=some i'/\σ[i']?=some (some v):=by grind [blk]
theorem Fg {pins:List (Addr×Obj)} {σ:St} {H:Hp} {s:Shared} {fp:List Addr} {C:Addr} (S:BlkScope X N k caps scope) (I:Inv X pins σ H s) (hf:∀b∈fp,jX X pins H b) (hlt:∀b∈fp,b<s.heap.objs.size) (hC:s.heap.objs.size<=C) :
  (oC X N scope C s H fp).Ok:=by
 have nfs:∀b∈fp,b∉rq X.stack:=fun b hb z=>by
  rcases Xd.mp (I.stkSub b z) with e|e
  ·exact(hf b hb).2.1 e
  ·exact(hf b hb).2.2.1 e
 refine⟨I.ok.mod,S.kind,I.ok.glob,I.ok.blt,hC,fun x y c h1 h2=>I.ok.inj x y c (S.sub I.ok h1) (S.sub I.ok h2),fun x hx=>?_,fun x c h=>(by cases h),I.ok.hd,I.ok.frames,.inl rfl,fun b hb=>⟨?_,fun x c e=>?_⟩,I.bs,Ze I.ok.bsz I.sz,fun b o e hb=>?_,nfs,I.stack,I.stkFree⟩
 ·have hx':(relabel scope X.env).names.lookup x=some .cell∨(relabel scope X.env).names.lookup x=some .free:=hx;rcases cx (env:=X.env) (x:=x) scope.names with⟨e,_⟩|⟨k1,k2,e1,e2,e3⟩
  ·rcases hx' with z|z<;>(have z':=e.symm.trans z;cases z')
  ·have hk2:k2=.cell∨k2=.free:=by
    rcases hx' with z|z
    ·exact .inl (Option.some.inj (e2.symm.trans z))
    ·exact .inr (Option.some.inj (e2.symm.trans z))
   have hfree:k1=.free:=by
    rcases e3 with z|⟨z,_⟩
    ·rcases hk2 with q|q
     ·exact absurd (z.symm.trans q) (S.nocell _ (PySem.mem_of_lookup e1))
     ·exact z.symm.trans q
    ·exact z
   rw[hfree]at e1;obtain⟨c,_,hc⟩:=S.has I.ok e1;exact⟨c,hc⟩
 ·exact Xf (Zc (hlt b hb) hC)
 ·exact(hf b hb).2.2.2.2.1 x c (S.sub I.ok e)
 ·rcases(hf b hb).2.2.2.1 with z|z
  ·exact I.ok.noex b o e z
  ·exact absurd (Zc (Ai (I.ok.bs b o e).1) z) (Yh _)
theorem zn {pins:List (Addr×Obj)} {σ:St} {H:Hp} {s s3:Shared} {fp:List Addr} {C:Addr} {m:Str->Option Value} (S:BlkScope X N k caps scope) (I:Inv X pins σ H s) (hf:∀b∈fp,jX X pins H b) (hlt:∀b∈fp,b<s.heap.objs.size)
  (hC:s.heap.objs.size<=C) (hos:s3.os=s.os) (hg:s3.gens=s.gens) (kp:∀b o,s.heap.get? b=some o->s3.heap.get? b=some o) (hn:s3.heap.Ns C m) (ht:0<s3.toks):Inv (oC X N scope C s H fp) [] (blk k caps σ) H s3:=by
 refine⟨Fg S I hf hlt hC,hos,by rw[hg];exact I.bare,Un.kept kp,⟨m,hn,fun i x v e1 e2 e3=>?_⟩,fun x c e=>?_,I.hok.fresh hC,fun x c e=>I.freeC x c (S.sub I.ok e),fun p hp=>absurd hp (by simp),I.hok.kept kp,by rw[sZ];exact S.len.symm,ht⟩
 ·obtain⟨j,i',rfl,hc,hv⟩:=s9 e2;obtain⟨y,h1,h2,h3⟩:=S.cap j i' hc;have exy:y=x:=Option.some.inj (h1.symm.trans e1);subst exy;obtain⟨c,hc1,hc2⟩:=S.has I.ok h3;obtain⟨m0,hn0,hl0⟩:=I.loc;have hkind:=S.free _ (PySem.mem_of_lookup h3) rfl;obtain⟨u,ru,lu⟩:=hl0 i' y v h2 hv (hkind.elim (fun z=>.inr (.inl z)) (fun z=>.inr (.inr z)));refine⟨u,ru,.inr ⟨?_,c,hc2,?_⟩⟩
  ·rcases cx (env:=X.env) (x:=y) scope.names with⟨_,e⟩|⟨k1,k2,q1,q2,q3⟩
   ·rw[e]at h3;cases h3
   ·have hk1:k1=.free:=Option.some.inj (q1.symm.trans h3);rcases q3 with z|⟨_,z⟩
    ·right;show(relabel scope X.env).names.lookup y=_;exact q2.trans (by rw[z,hk1])
    ·left;show(relabel scope X.env).names.lookup y=_;exact q2.trans (by rw[z])
  ·rcases lu with⟨hk,_⟩|⟨_,c',hc',cell⟩
   ·rcases hkind with z|z<;>(have z':=hk.symm.trans z;cases z')
   ·have:c'=c:=Option.some.inj (hc'.symm.trans hc1);subst this;obtain⟨o,ho,hd⟩:=cell;exact⟨o,kp _ o ho,hd⟩
 ·obtain⟨v,o,ho,hd⟩:=I.cell x c (S.sub I.ok e);exact⟨v,o,kp _ o ho,hd⟩
end
def Je (X:Cx) (ifs:List Expr) (t:TT):Prop :=
 ∀(pins:List (Addr×Obj)) (s:Shared) (σ:St) (H:Hp) (Q:Bool->Hp->Prop),Inv X pins σ H s->t σ H Q ->
  wpAny (model X.prog X.w) X.A (forIn ifs true fun c r=>if r=true then do let ok ← isTrue c X.env (eval c X.env);pure (ForInStep.yield ok) else pure (ForInStep.yield r)) (TP X pins σ Q) X.xe s
def HF:TT:=fun _ H Q=>Q true H
theorem dF {X:Cx}:Je X [] HF:=fun _ _ _ H _ I h=>wpAny_tests_nil ⟨H,I,h⟩
theorem tf {X:Cx} {c:Expr} {t:TT} (h:PT X c t):Je X [c] t:=fun pins s σ H Q I hw=>wpAny_tests_one (h pins s σ H Q I hw)
theorem gE {prog:Program} {w:World} {A:Around} {R:Result->Shared->Prop} {s:Shared} {elt target iter:Expr} {ifs:List Expr} {scope:Scope} {pos:Pos} {it acc:Value} {env:Env} (I:Nat->Shared->Prop)
  (turn:∀n s,I n s->wpAny (model prog w) A (pyNext it) (fun r s₁=>match r with
   | none=>R (.ok .next) s₁
   | some v=>wpAny (model prog w) A (letOwnedTupleGo target it v) (fun _ s₀=>wpAny (model prog w) A (assign target env v) (fun _ s₂ =>
     wpAny (model prog w) A (forIn ifs true fun c r=>if r=true then do let ok ← isTrue c env (eval c env);pure (ForInStep.yield ok) else pure (ForInStep.yield r)) (fun ok s₃ =>
      if ok=true then wpAny (model prog w) A (eval elt env) (fun x s₄ =>
       wpAny (model prog w) A (call (.builtin "list.append") [acc,x]) (fun _ s₅=>∃m,m<n/\I m s₅) (fun _ _=>False) s₄) (fun _ _=>False) s₃
      else ∃m,m<n/\I m s₃) (fun _ _=>False) s₂) (fun _ _=>False) s₀) (fun _ _=>False) s₁) (fun _ _=>False) s)
  (n:Nat) (h:I n s) :
  codeAny (model prog w) A (.compLoop (.ListComp elt [⟨target,iter,ifs,0⟩] scope pos) 0 it acc env) R s:=by
 refine codeAny_loop rfl I (fun n s hI=>?_) n h;show wpAny _ A ((compTurn (.ListComp elt [⟨target,iter,ifs,0⟩] scope pos) 0 it acc env).onRaise (fun x=>do noteFrame x env;theTreesLotGoes x)) _ _ s
 refine wpAny_noted ?_;rw[compTurn_list];refine Aa (wpAny_standAt (Aa (Az (turn n s hI) (fun r s₁ h₁=>?_) fun _ _ h'=>False.elim h')));cases r with
 | none=>exact Ac h₁
 | some v =>
  refine Aa (Az h₁ (fun _ s₀ h₀=>?_) fun _ _ h'=>False.elim h');refine Aa (Az h₀ (fun _ s₂ h₂=>Aa (Az h₂ (fun ok s₃ h₃=>?_) fun _ _ h'=>False.elim h')) fun _ _ h'=>False.elim h');cases ok with
  | false=>exact Ac ⟨rfl,h₃⟩
  | true =>
   exact Aa (Aa (Az h₃ (fun x s₄ h₄=>Aa (Az h₄ (fun _ s₅ h₅=>Ac (Ac ⟨rfl,h₅⟩)) fun _ _ h'=>False.elim h')) fun _ _ h'=>False.elim h'))
def tq (k:Nat) (caps:List Nat) (wi:TI) (g:TG) (tc:TT) (te:TE):TE:=fun σ H Q=>wi σ H fun J H1=>∃(n:Nat) (W:Nat->List V->Hp->Prop),W 0 [] H1 /\
 (∀xs H,W n xs H->J.stop n H/\∀p,H p=none->Q (.ref p) (upd H p (.lst xs))) /\
 ∀i xs H,i<n->W i xs H->J.go i H/\xs.length<sizeLine/\∀x H',J.yld i H x H'->g x (blk k caps σ) H' fun σ2 H2=>tc σ2 H2 fun ok H3 =>
  if ok=true then te σ2 H3 fun y H4=>σ2.drop k=(blk k caps σ).drop k/\W (i+1) (xs++[y]) H4
  else σ2.drop k=(blk k caps σ).drop k/\W (i+1) xs H3
abbrev dj (its:List Value) (n:Nat):Obj:={ cls:=.type "list",data:=.seq its.toArray n }
def Dr (X:Cx) (pins:List (Addr×Obj)) (H:Hp) (C:Addr):Prop :=
 H C=none/\C≠X.env.locals/\(C∈X.ex∨X.s₀.heap.objs.size<=C)/\(∀x c,X.env.cells.lookup x=some c->c≠C)/\∀p∈X.pn++pins,p.1≠C
inductive CI (X':Cx) (A:Addr) (σ:St) (tn:Nat->Heap->Prop) (fp:List Addr) (n0:Nat) (W:Nat->List V->Hp->Prop) (n:Nat) (s':Shared):Prop
 | mk (i:Nat) (xs:List V) (its:List Value) (nn:Nat) (H':Hp) (J:Inv X' [(A,dj its nn)] σ H' s') (st:tn i s'.heap) (fr:∀b∈fp,H' b=none) (vs:Vals xs its) (hz:xs.length<=sizeLine) (hn:n=n0-i) (hi:i<=n0) (w:W i xs H')
theorem wv {X:Cx} {elt iter tg:Expr} {ifs:List Expr} {scope:Scope} {pos cpos:Pos} {N:List Str} {k:Nat} {caps:List Nat} {wi:TI} {g:TG} {tc:TT} {te:TE} {use:Option (Value->Sem Unit)} {Q':Value->Shared->Prop}
  {pins:List (Addr×Obj)} {s:Shared} {σ:St} {H:Hp} {Q:VK} (S:BlkScope X N k caps scope) (hc:X.calm=true) (hi:PI X tg iter wi)
  (hg:∀C s H fp,PG (oC X N scope C s H fp) tg g) (ht:∀C s H fp,Je (oC X N scope C s H fp) ifs tc) (he:∀C s H fp,PE (oC X N scope C s H fp) elt te)
  (hs:∀x,foldedSetIterable iter X.env x=pure x) (I:Inv X pins σ H s) (h:tq k caps wi g tc te σ H Q)
  (fin:∀(D C:Addr) (H4:Hp) (s4:Shared) (m:Str->Option Value),Inv X pins σ H4 s4->s4.heap.Ns C m->Dr X pins H4 C->Q (.ref D) H4->compPost (model X.prog X.w) X.A X.xe use Q' (.ref D) C (.ok .next) s4) :
  wpAny (model X.prog X.w) X.A (comprehension (.ListComp elt [⟨tg,iter,ifs,0⟩] scope pos) scope X.env cpos (newList []) false (eval iter X.env) use) Q' X.xe s:=by
 refine wpAny_comprehension_free rfl hs (jp (S.cells I.ok)) S.kind S.loc ?_;refine bM (hi pins s σ H _ I h) fun v s1 h1=>bM h1 fun itv s2 h2=>?_;obtain⟨it,fp,tn,J,H2,e,I2,T,st2,f2,n0,W,w0,wstop,turn⟩:=h2;subst e;refine As (wpAny_newFunctionEnv S.nocell (by intro y hy;simp at hy) (fun h₁ hns₁ hsb₁=>?_) S.kind)
 dsimp only at hns₁ hsb₁ ⊢;generalize hG:s2.heap.push { cls:=.type "list",dict:=none,data:=.seq ([]:List Value).toArray }=G at hns₁ hsb₁ ⊢;have hCG:G.objs.size=s2.heap.objs.size+1:=by rw[← hG,AJ]
 have hDC:s2.heap.objs.size≠G.objs.size:=by lia
 have below:∀b,b<s2.heap.objs.size->b≠G.objs.size/\b≠s2.heap.objs.size:=fun b hb=>⟨by lia,by lia⟩
 have old:∀b o,s2.heap.get? b=some o->h₁.get? b=some o:=fun b o e=>hsb₁.extBut b o (below b (Ai e)).1 (Ab _ (hG ▸ Ab _ e));have hacc:h₁.get? s2.heap.objs.size=some (dj [] 0):=hsb₁.extBut _ _ hDC (Ab _ (hG ▸ Ah _ rfl));have hlt:∀b∈fp,b<s2.heap.objs.size:=fun b hb=>by obtain⟨o,ho,_⟩:=T.obj 0 _ st2 b hb;exact Ai ho
 have hDf:s2.heap.objs.size∉fp:=fun z=>Yh _ (hlt _ z);have hle:s2.heap.objs.size<=G.objs.size:=by lia
 have hDcell:∀x c,(bx X.env scope.names []).lookup x=some c->c≠s2.heap.objs.size:=fun x c e z=>by
  obtain⟨v,q⟩:=I2.cell x c (S.sub I2.ok e);exact absurd q.lt (by rw[z];exact Yh _)
 have hDfs:s2.heap.objs.size∉rq X.stack:=fun z=>by
  obtain⟨_,o,ho,_⟩:=I2.stack.mem z;exact absurd (Ai ho) (Yh _)
 have nfs:∀b∈fp,b∉rq X.stack:=fun b hb z=>by
  rcases Xd.mp (I2.stkSub b z) with e|e
  ·exact(f2 b hb).2.1 e
  ·exact(f2 b hb).2.2.1 e
 have fpk:∀{H':Hp} {its:List Value} {n:Nat},(∀b∈fp,H' b=none)->∀b∈fp,jX (oC X N scope G.objs.size s2 H2 fp) [(s2.heap.objs.size,dj its n)] H' b:=fun {H' its n} hn b hb =>
  ⟨hn b hb,(below b (hlt b hb)).1,nfs b hb,.inl hb,fun x c e=>(f2 b hb).2.2.2.2.1 x c (S.sub I2.ok e),fun p hp=>by
   have e:p=(s2.heap.objs.size,dj its n):=by simpa using hp
   rw[e];exact Ne.symm (below b (hlt b hb)).2⟩
 have pinD:∀{H':Hp} {s':Shared} {σ':St} {its:List Value} {n:Nat},Inv (oC X N scope G.objs.size s2 H2 fp) [] σ' H' s'->s'.heap.get? s2.heap.objs.size=some (dj its n)->H' s2.heap.objs.size=none->Inv (oC X N scope G.objs.size s2 H2 fp) [(s2.heap.objs.size,dj its n)] σ' H' s':=fun {H' s' σ' its n} J e hn =>
  J.pins_of fun p hp=>by
   have q:p=(s2.heap.objs.size,dj its n):=by simpa using hp
   rw[q];exact⟨e,hn,hDC,hDfs,fun v z=>by cases z⟩
 have I3:Inv (oC X N scope G.objs.size s2 H2 fp) [] (blk k caps σ) H2 { s2 with heap:=h₁,toks:=s2.toks+([]:List (Str×Value)).length }:=zn S I2 f2 hlt hle rfl rfl old hns₁ (Zc I2.tk (Zj _ _));have loop:codeAny (model X.prog X.w) X.A (.compLoop (.ListComp elt [⟨tg,iter,ifs,0⟩] scope pos) 0 (.ref it) (.ref s2.heap.objs.size) (compEnvC scope (bx X.env scope.names []) G.objs.size X.env))
   (compPost (model X.prog X.w) X.A X.xe use Q' (.ref s2.heap.objs.size) G.objs.size) { s2 with heap:=h₁,toks:=s2.toks+([]:List (Str×Value)).length }:=by
  refine gE (CI (oC X N scope G.objs.size s2 H2 fp) s2.heap.objs.size (blk k caps σ) tn fp n0 W) ?_ n0
   ⟨0,[],[],0,H2,pinD I3 hacc (I2.hok.fresh (Xa _)),T.keep _ _ _ st2 fun b _ o e=>old b o e,fun b hb=>(f2 b hb).1,.nil,Wh _,rfl,Wh _,w0⟩
  rintro n s3 ⟨i,xs,its,nn,H3,J3,st3,fr3,vs3,hz3,hn3,hi3,w3⟩;by_cases hin:i<n0
  rotate_left
  ·have ein:i=n0:=by lia
   subst ein;obtain⟨stop,qn⟩:=wstop xs H3 w3;refine bM (T.done (oC X N scope G.objs.size s2 H2 fp) rfl rfl rfl hc i _ s3 _ H3 _ J3 (fpk fr3) st3 stop) fun r s4 zz9=>?_;obtain⟨hr,J4⟩:=zz9;subst hr;obtain⟨eD,nD,_⟩:=J4.pin (s2.heap.objs.size,dj its nn) (by simp)
   have eD:s4.heap.get? s2.heap.objs.size=some (dj its nn):=eD;have nD:H3 s2.heap.objs.size=none:=nD;obtain⟨m4,hm4,_⟩:=J4.loc;have U:Un (rq X.stack) fp H2 H3 s2.heap s4.heap:=J4.base;have neC:∀b o,s2.heap.get? b=some o->b≠G.objs.size:=fun b o e=>(below b (Ai e)).1;have neD:∀b o,s2.heap.get? b=some o->b≠s2.heap.objs.size:=fun b o e=>(below b (Ai e)).2;have H2D:H2 s2.heap.objs.size=none:=I2.hok.fresh (Xa _);have HC:H3 G.objs.size=none:=J4.free;refine fin s2.heap.objs.size G.objs.size (upd H3 s2.heap.objs.size (.lst xs)) s4 m4 (I2.call' (s':=s4) (ch:=fp) J4.os ?_ ?_ J4.bare ?_ J4.tk) hm4 ?_ (qn _ nD)
   ·refine⟨fun b o e n hb hx=>U.keep b o e n hb hx,fun b o e n hb hx=>U.slot b o e n hb hx,fun b o e n hx=>?_,fun b o e hx=>U.there b o e hx,fun b ys e=>?_,fun b o u e=>?_,fun b ps e=>?_⟩
    ·rw[aB (neD b o e)];exact U.free b o e n hx
    ·rw[aB (aU e H2D)];exact U.tups b ys e
    ·rw[aB (aU e H2D)];exact U.frzs b o u e
    ·obtain⟨more,q⟩:=U.tbls b ps e;exact⟨more,by rw[aB (aU e H2D)];exact q⟩
   ·intro b u e;by_cases hb:b=s2.heap.objs.size
    ·subst hb;rw[aD]at e;cases e;exact⟨hz3,its,nn,vs3,eD⟩
    ·rw[aB hb]at e;exact(J4.hok b u e).stay (fun c v _ q=>q) (fun c q=>by rw[aB (aU q nD)];exact q) fun c ys q=>by rw[aB (aU q nD)];exact q
   ·exact fun b hb=>⟨(f2 b hb).2.2.2.1,(f2 b hb).2.1,(f2 b hb).2.2.2.2.1,(f2 b hb).2.2.2.2.2⟩
   ·refine⟨by rw[aB (Ne.symm hDC)];exact HC,AZ (Zc I2.lt hle),.inr (Ze I2.sz hle),fun x c e z=>?_,fun p hp z=>?_⟩
    ·obtain⟨v,q⟩:=I2.cell x c e;exact absurd (Zc q.lt (by rw[z];exact hle)) (Yh _)
    ·exact absurd (Zc (Ai (I2.pin p hp).1) (by rw[z];exact hle)) (Yh _)
  ·obtain⟨go,hz,step⟩:=turn i xs H3 hin w3;refine bM (T.item (oC X N scope G.objs.size s2 H2 fp) rfl rfl rfl hc i _ s3 _ H3 _ J3 (fpk fr3) st3 go) fun r s4 zz9=>?_;obtain⟨u,hr,h4⟩:=zz9;subst hr;refine bM h4 fun _ s5 zz9=>?_;obtain⟨x,H5,J5,r5,y5,st5,fr5⟩:=zz9;have J5':=J5.pinned (fpk fr5) (T.obj _ _ st5);refine bM (hg _ _ _ _ _ s5 _ H5 x u _ J5' r5 (step x H5 y5)) fun _ s6 zz9=>?_;obtain⟨σ6,H6,J6,q6⟩:=zz9;refine bM (ht _ _ _ _ _ s6 σ6 H6 _ J6 q6) fun ok s7 zz9=>?_;obtain⟨H7,J7,q7⟩:=zz9;have wk:∀{σ8:St} {H8:Hp} {s8:Shared} {pl:List (Addr×Obj)},Inv (oC X N scope G.objs.size s2 H2 fp) pl σ8 H8 s8->σ8.drop k=(blk k caps σ).drop k->Inv (oC X N scope G.objs.size s2 H2 fp) pl (blk k caps σ) H8 s8:=fun {σ8 H8 s8 pl} J8 hd =>
    J8.weak (by rw[sZ,J8.len];exact S.len.symm) fun j v e=>by
     obtain⟨j',i',rfl,hc',hv'⟩:=s9 e;have e1:((blk k caps σ).drop k)[j']?=some (some v):=by rw[Qg];exact e
     rw[← hd,Qg]at e1;exact e1
   have recs:∀{σ8:St} {H8:Hp} {s8:Shared},Inv (oC X N scope G.objs.size s2 H2 fp) ([(s2.heap.objs.size,dj its nn)]++lS fp s5.heap) σ8 H8 s8->(∀b∈fp,∀o,s5.heap.get? b=some o->s8.heap.get? b=some o)/\(∀b∈fp,H8 b=none):=fun {σ8 H8 s8} J8 =>
    ⟨fun b hb o e=>(J8.pin (b,o) (Yf _ (Yf _ (fJ hb e)))).1,fun b hb=>by
     obtain⟨o,e,d⟩:=T.obj _ _ st5 b hb
     exact(J8.pin (b,o) (Yf _ (Yf _ (fJ hb e)))).2.1⟩
   cases ok with
   | false =>
    rw[Af (by decide)]at q7 ⊢
    obtain⟨hd,w7⟩:=q7;obtain⟨k1,k2⟩:=recs J7;exact⟨n0-(i+1),by lia,i+1,xs,its,nn,H7,wk J7.unpinned hd,T.keep _ _ _ st5 k1,k2,vs3,hz3,rfl,hin,w7⟩
   | true =>
    rw[Ae rfl]at q7 ⊢;refine bM (he _ _ _ _ _ s7 σ6 H7 _ J7 q7) fun uy s8 zz9=>?_;obtain⟨y,H8,J8,r8,hd,w8⟩:=zz9;obtain⟨k1,k2⟩:=recs J8;obtain⟨eD,nD,_⟩:=J8.pin (s2.heap.objs.size,dj its nn) (by simp)
    have eD:s8.heap.get? s2.heap.objs.size=some (dj its nn):=eD;have nD:H8 s2.heap.objs.size=none:=nD;have hl3:=vs3.length;refine AM F.slot_list_append ⟨_,eD,rfl⟩ F.entry_list_append (F.args_list_append_2 _ _) (PySem.list_append s2.heap.objs.size its.toArray nn uy (by rw[Yb];lia)) ⟨eD,?_⟩
    have q:=PySem.IsL.update eD (fun a:Array Value=>a.push uy);have qe:its.toArray.push uy=(its++[uy]).toArray:=by simp
    rw[qe]at q;have oth:∀b o,b≠s2.heap.objs.size->s8.heap.get? b=some o->(s8.heap.update s2.heap.objs.size (Obj.mapSeq fun a=>a.push uy)).get? b=some o:=fun b o hb e=>(Bp s8.heap _ (Ne.symm hb)).trans e;have J9:Inv (oC X N scope G.objs.size s2 H2 fp) [] σ6 H8 { s8 with heap:=s8.heap.update s2.heap.objs.size (Obj.mapSeq fun a=>a.push uy),toks:=s8.toks } :=
     (J8.pins_of (pins':=[]) fun p hp=>absurd hp (by simp)).turned oth nD hDC (.inr (Xa _)) hDcell (fun p hp=>absurd hp (by simp))
    refine⟨n0-(i+1),by lia,i+1,xs++[y],its++[uy],_,H8,wk (pinD J9 q nD) hd,T.keep _ _ _ st5 fun b hb o e=>oth b o (fun z=>hDf (z ▸ hb)) (k1 b hb o e),k2,vs3.append (.cons r8 .nil),?_,rfl,hin,w8⟩
    rw[Va,Vc];lia
 exact codeAny_compStart_list loop (T.self _ 0 _ _ _ (T.keep _ _ _ st2 fun b _ o e=>old b o e) loop)
theorem Inv.aside {X:Cx} {pins:List (Addr×Obj)} {σ:St} {H:Hp} {s:Shared} {C:Addr} {h':Heap} (I:Inv X pins σ H s) (a:Dr X pins H C) (hs:Heap.SameBut C s.heap h'):Inv X pins σ H { s with heap:=h' } :=
 I.turned (t':=s.toks) (fun b o hb e=>hs.extBut b o hb e) a.1 a.2.1 a.2.2.1 a.2.2.2.1 a.2.2.2.2
theorem cy {X:Cx} {elt iter tg:Expr} {ifs:List Expr} {scope:Scope} {pos:Pos} {N:List Str} {k:Nat} {caps:List Nat} {wi:TI} {g:TG} {tc:TT} {te:TE} (S:BlkScope X N k caps scope) (hc:X.calm=true) (hi:PI X tg iter wi)
  (hg:∀C s H fp,PG (oC X N scope C s H fp) tg g) (ht:∀C s H fp,Je (oC X N scope C s H fp) ifs tc) (he:∀C s H fp,PE (oC X N scope C s H fp) elt te)
  (hs:∀x,foldedSetIterable iter X.env x=pure x:=by intro _;rfl):PE X (.ListComp elt [⟨tg,iter,ifs,0⟩] scope pos) (tq k caps wi g tc te):=by
 intro pins s σ H Q I h;rw[eval_ListComp];exact wv (use:=none) S hc hi hg ht he hs I h fun D C H4 s4 m I4 hm a q=>⟨m,hm,fun h' hs'=>⟨.ref D,H4,I4.aside a hs',rfl,q⟩⟩
end L2
namespace L2
open PySem PySem.Spec PyProof.Rows
def Jw (x:Str):It:=⟨fun i _=>i<x.cps.size,fun i H v H'=>H'=H/\∃c,x.cps[i]?=some c/\v=.str ⟨#[c]⟩,fun i _=>x.cps.size<=i⟩
theorem uX {P:Program} {w:World} {K:PySem.W.Frag} {tg:Expr} (it:Addr) (x:Str) (t:Tok):Turn P w K tg (Jw x) [it] it (fun i h=>h.IsStrIter it "str_ascii_iterator" x t i) where
 mem:=by simp
 obj:=fun i h st b hb=>by
  have e:b=it:=by simpa using hb
  subst e;obtain⟨o,e,c,d⟩:=st;exact⟨o,e,fun v z=>by rw[d]at z;cases z⟩
 keep:=fun i h h' st k=>let ⟨o,ho,r⟩:=st;⟨o,k it (by simp) o ho,r⟩
 item:=by
  intro X hP hw hK hc i pins s σ H E I hf st hg;subst hP hw hK;obtain⟨f0,f1,f2,f3,f4,f5⟩:=hf it (by simp)
  have hg':i<x.cps.size:=hg;refine wpAny_pyNext_ascii_item st (c:=x.cps[i]) (by simp[hg']) fun h' st' sb=>?_
  have I1:Inv X pins σ H { s with heap:=h',toks:=s.toks+1 }:=I.turned (fun b o hb e=>sb.extBut b o hb e) f0 f1 f3 f4 f5;obtain⟨o,e,c,d⟩:=id st';exact⟨_,rfl,lP (s:={ s with heap:=h',toks:=s.toks+1 }) e c d (by decide) ⟨.str ⟨#[x.cps[i]]⟩,H,I1,⟨_,rfl⟩,⟨rfl,_,by simp[hg'],rfl⟩,st',fun b hb=>(hf b hb).1⟩⟩
 done:=by
  intro X hP hw hK hc i pins s σ H E I hf st hg;subst hP hw hK;obtain⟨f0,f1,f2,f3,f4,f5⟩:=hf it (by simp)
  have hg':x.cps.size<=i:=hg;exact wpAny_pyNext_ascii_end (I.ok.hd hc) st (by simp[hg']) fun h' eb=>⟨rfl,I.turned (t':=s.toks) (fun b o hb e=>eb b o hb e) f0 f1 f3 f4 f5⟩
 self:=fun _ _ _ _ _ st h=>wpAny_pyIter_striter_ascii st h
theorem uY {P:Program} {w:World} {K:PySem.W.Frag} {tg:Expr} (it:Addr) (x:Str) (t:Tok):Turn P w K tg (Jw x) [it] it (fun i h=>h.IsStrIter it "str_iterator" x t i) where
 mem:=by simp
 obj:=fun i h st b hb=>by
  have e:b=it:=by simpa using hb
  subst e;obtain⟨o,e,c,d⟩:=st;exact⟨o,e,fun v z=>by rw[d]at z;cases z⟩
 keep:=fun i h h' st k=>let ⟨o,ho,r⟩:=st;⟨o,k it (by simp) o ho,r⟩
 item:=by
  intro X hP hw hK hc i pins s σ H E I hf st hg;subst hP hw hK;obtain⟨f0,f1,f2,f3,f4,f5⟩:=hf it (by simp)
  have hg':i<x.cps.size:=hg;refine wpAny_pyNext_wide_item st (c:=x.cps[i]) (by simp[hg']) fun h' st' sb=>?_
  have I1:Inv X pins σ H { s with heap:=h',toks:=s.toks+1 }:=I.turned (fun b o hb e=>sb.extBut b o hb e) f0 f1 f3 f4 f5;obtain⟨o,e,c,d⟩:=id st';exact⟨_,rfl,lP (s:={ s with heap:=h',toks:=s.toks+1 }) e c d (by decide) ⟨.str ⟨#[x.cps[i]]⟩,H,I1,⟨_,rfl⟩,⟨rfl,_,by simp[hg'],rfl⟩,st',fun b hb=>(hf b hb).1⟩⟩
 done:=by
  intro X hP hw hK hc i pins s σ H E I hf st hg;subst hP hw hK;obtain⟨f0,f1,f2,f3,f4,f5⟩:=hf it (by simp)
  have hg':x.cps.size<=i:=hg;exact wpAny_pyNext_wide_end (I.ok.hd hc) st (by simp[hg']) fun h' eb=>⟨rfl,I.turned (t':=s.toks) (fun b o hb e=>eb b o hb e) f0 f1 f3 f4 f5⟩
 self:=fun _ _ _ _ _ st h=>wpAny_pyIter_striter_wide st h
section
variable {X:Cx} {tg:Expr}
def Fh (tl:TE):TI:=fun σ H R=>tl σ H fun x H1=>∃z,x=.str z/\R (Jw z) H1
theorem Fi {l:Expr} {tl:TE} (hl:PE X l tl):PI X tg l (Fh tl):=by
 intro pins s σ H R I h;refine bM (hl pins s σ H _ I h) fun v s1 zz9=>?_;obtain⟨x,H1,I1,r1,q1⟩:=zz9;obtain⟨z,e,q⟩:=q1;subst e;obtain⟨t,rfl⟩:=r1;have fpk:∀b∈[s1.heap.objs.size],jX X pins H1 b:=fun b hb=>by
  have e:b=s1.heap.objs.size:=by simpa using hb
  subst e;exact I1.fpOk (Xa _) (I1.hok.fresh (Xa _))
 cases ha:z.cps.all (·<128) with
 | true=>exact wpAny_pyIter_ascii ha ⟨s1.heap.objs.size,[s1.heap.objs.size],_,_,H1,rfl,I1.kept (t':=s1.toks) fun b o e=>Ab _ e,uX _ z t,⟨_,Ah _ rfl,rfl,rfl⟩,fpk,q⟩
 | false=>exact wpAny_pyIter_wide ha ⟨s1.heap.objs.size,[s1.heap.objs.size],_,_,H1,rfl,I1.kept (t':=s1.toks) fun b o e=>Ab _ e,uY _ z t,⟨_,Ah _ rfl,rfl,rfl⟩,fpk,q⟩
theorem range_all (bs:List Bool):(List.range bs.length).all (fun i=>bs.getD i true)=bs.all id:=by
 induction bs with
 | nil=>rfl
 | cons b r ih =>
  rw[Zd,Cg,Bg,List.all_map,Bg,← ih];rfl
theorem ww (hc:X.calm=true):CallR X (.builtin "all") (fun xs H Q=>∃(p:Addr) (bs:List Bool),xs=[.ref p]/\eY X.K H p (bs.map V.bl)/\Q (.bl (bs.all id)) H):=by
 intro pins s σ H xs us Q I rv h;obtain⟨p,bs,rfl,hq,q⟩:=h;obtain⟨u,rfl,ru⟩:=vals1 rv;cases ru;obtain⟨its,r,pl,hz⟩:=I.list hq;have hlen:its.length=bs.length:=by have:=r.length;simpa using this.symm
 obtain⟨op,np,ep,cp,dp,sp⟩:=id pl;have hne:p≠s.heap.objs.size:=Xf (Ai ep);refine bw (call_all_walk (BN pl.isList ?_));refine⟨s.heap.objs.size,_,_,_,_,_,fun i=>bs.getD i true,rfl,Walks.list (show X.A.in1.handled=none from I.ok.hd hc) s.heap.objs.size p hne its.toArray,⟨⟨_,Ah _ rfl,rfl,rfl⟩,⟨op,Ab _ ep,cp,np,sp⟩⟩,?_,fun h' tk kp hle=>?_⟩
 ·intro i v s' Q' E' hv hQ';have hv':its[i]?=some v:=by simpa using hv
  have hi:i<its.length:=(Vb.mp hv').1;have hb:(bs.map V.bl)[i]?=some (V.bl (bs[i]'(by lia))):=by
   rw[Wb,Za (by lia)];rfl
  obtain⟨u',e1,e2⟩:=r.get hb;rw[hv']at e1;cases e1;cases e2;have:bs.getD i true=bs[i]'(by lia):=by rw[Yd,Za (by lia)];rfl
  have hQ2:Q' (bs.getD i true) s':=hQ';rw[this]at hQ2;exact Av hQ2
 ·have e:(List.range its.toArray.size).all (fun i=>bs.getD i true)=bs.all id:=by
   rw[Yb,hlen];exact range_all bs
  rw[e]
  exact⟨.bl (bs.all id),H,I.kept (fun b o e=>kp b o (by
   intro z;have z':b=s.heap.objs.size:=by simpa using z
   exact absurd (Ai e) (by rw[z'];exact Yh _)) (Ab _ e)) (I.tkl' hle),rfl,q⟩
def sgn (x:Str):List V:=x.cps.toList.map fun c=>.str ⟨#[c]⟩
theorem qa {x:Str} {acc:Array Value} (h:ItemsOf (SignAt x) acc x.cps.size):Vals (sgn x) acc.toList:=by
 obtain⟨h1,h2⟩:=h;have gen:∀(cs:List Nat) (us:List Value),us.length=cs.length->(∀(j:Nat) v,us[j]?=some v->∃c u,cs[j]?=some c/\v=Value.str ⟨#[c]⟩ u)->Vals (cs.map fun c=>V.str ⟨#[c]⟩) us:=by
  intro cs;induction cs with
  | nil=>intro us hl _;cases us with
   | nil=>exact .nil
   | cons _ _=>cases hl
  | cons c cs ih =>
   intro us hl hu;cases us with
   | nil=>cases hl
   | cons u us =>
    obtain⟨c',tk,e1,e2⟩:=hu 0 u rfl;have:c=c':=by simpa using e1
    subst this;subst e2;refine .cons ⟨tk,rfl⟩ (ih us (by simpa using hl) fun j v e=>?_)
    have:=hu (j+1) v (by simpa using e)
    simpa using this
 refine gen x.cps.toList acc.toList (by simp[h1]) fun j v e=>?_
 obtain⟨c,u,e1,e2⟩:=h2 j v (by simpa using e)
 exact⟨c,u,by simpa using e1,e2⟩
theorem tz (x:Str):(sgn x).length=x.cps.size:=by simp[sgn]
theorem lX (hc:X.calm=true):CallR X (.type "list") (fun xs H Q=>∃z:Str,xs=[.str z]/\z.cps.size<=sizeLine/\∀l,H l=none->Q (.ref l) (upd H l (.lst (sgn z)))):=by
 intro pins s σ H xs us Q I rv h;obtain⟨z,rfl,hz,q⟩:=h;obtain⟨u,rfl,ru⟩:=vals1 rv;obtain⟨t,rfl⟩:=ru;refine bw (call_list_str (I.ok.hd hc) z t (fun h' tk acc' c' kp hS hi hle=>?_) hz);refine⟨.ref s.heap.objs.size,upd H s.heap.objs.size (.lst (sgn z)),I.laid kp (Xa _) ⟨by rw[tz];exact hz,acc'.toList,c',qa hi,by simpa using hS⟩ (I.tkl' hle),rfl,q _ (I.hok.fresh (Xa _))⟩
theorem ObjOk.there {P:Program} {w:World} {H:Hp} {h:Heap} {a:Addr} {o:HO} (x:ObjOk P w H h a o):∃ob,h.get? a=some ob:=by
 cases o with
 | lst xs=>obtain⟨_,_,_,_,e⟩:=x;exact⟨_,e⟩
 | tup xs=>obtain⟨_,_,_,o,e,_⟩:=x;exact⟨_,e⟩
 | dK kvs=>obtain⟨_,_,_,_,o,_,_,e,_⟩:=x;exact⟨_,e⟩
 | dT ep kvs=>obtain⟨_,_,_,_,_,o,_,e,_⟩:=x;exact⟨_,e⟩
 | set S n=>obtain⟨o,_,_,_,e,_⟩:=x;exact⟨_,e⟩
 | ins C dx fs=>obtain⟨_,_,_,e,_⟩:=x;exact⟨_,e⟩
 | own y=>exact x
 | xd fs=>obtain⟨_,⟨_,_,_,e,_⟩,_⟩:=x;exact⟨_,e⟩
 | rng lo hi=>obtain⟨_,_,_,e⟩:=x;exact⟨_,e⟩
 | frz ob u=>obtain⟨e,_⟩:=x;exact⟨_,e⟩
 | tbl ps=>exact⟨_,x⟩
 | met f y=>exact⟨_,x⟩
 | ext φ=>obtain⟨_,e,_⟩:=x;exact e
theorem Inv.laid2 {pins:List (Addr×Obj)} {σ:St} {H:Hp} {s:Shared} {h':Heap} {a:Addr} {o:HO} {t':Nat} (I:Inv X pins σ H s) (k:∀b u,s.heap.get? b=some u->h'.get? b=some u) (hne:∀b u,s.heap.get? b=some u->b≠a) (hn:H a=none) (new:ObjOk X.prog X.w (upd H a o) h' a o) (ht:0<t':=by first|assumption|exact Wg _|exact Inv.tk (by assumption)|exact Inv.tkl (by assumption) (by assumption)|lia) :
  Inv X pins σ (upd H a o) { s with heap:=h',toks:=t' }:=by
 refine I.un ⟨fun b u e _ _ _=>k b u e,fun b u e _ _ _=>⟨u.slots,k b u e⟩,fun b u e n _=>by rw[aB (hne b u e)];exact n,fun b u e _=>⟨u,k b u e⟩,fun b xs e=>by rw[aB (aU e hn)];exact e,fun b u v e=>by rw[aB (aU e hn)];exact e,fun b ps e=>⟨#[],by rw[aB (aU e hn),e];simp⟩⟩ ?_
 intro b u e;by_cases hb:b=a
 ·subst hb;rw[aD]at e;cases e;exact new
 ·rw[aB hb]at e;exact(I.hok b u e).stay (fun c v _ q=>k c v q) (fun c q=>by rw[aB (aU q hn)];exact q) fun c xs q=>by rw[aB (aU q hn)];exact q
theorem kU (hc:X.calm=true):CallR X (.type "tuple") (fun xs H Q=>∃z:Str,xs=[.str z]/\z.cps.size<=sizeLine/\∀l,H l=none->Q (.ref l) (upd H l (.tup (sgn z)))):=by
 intro pins s σ H xs us Q I rv h;obtain⟨z,rfl,hz,q⟩:=h;obtain⟨u,rfl,ru⟩:=vals1 rv;obtain⟨t,rfl⟩:=ru;refine bw (call_tuple_str (I.ok.hd hc) z t (fun h' tk acc kp hi hle=>?_) hz);have hne:∀b u,s.heap.get? b=some u->b≠h'.objs.size:=fun b u e z=>absurd (Ai (kp b u e)) (by rw[z];exact Yh _)
 have hn:H h'.objs.size=none:=by
  cases e:H h'.objs.size with
  | none=>rfl
  | some o =>
   obtain⟨ob,eo⟩:=(I.hok _ _ e).there;exact absurd rfl (hne _ _ eo)
 refine⟨.ref h'.objs.size,upd H h'.objs.size (.tup (sgn z)),I.laid2 (fun b u e=>Ab _ (kp b u e)) hne hn ⟨by rw[tz];exact hz,acc.toList,qa hi,⟨_,Ah _ rfl,rfl,0,by simp⟩⟩ (I.tkl' hle),rfl,q _ hn⟩
theorem Fj:SlR X (fun x lo hi H Q=>∃z:Str,x=.str z/\z.length<=sizeLine/\Q (.str (Txt.slice z lo hi)) H):=by
 intro pins s σ H x v vl vu lo hi sl Q I rx hs pl pu h;obtain⟨z,rfl,hz,q⟩:=h;obtain⟨t,rfl⟩:=rx;refine⟨"str",_,F.slot_str_getitem.lookup,B5 _ _ _,?_⟩;have fin:∀(o p:Option Int),lo=o->hi=p->∀t' k,s.toks<=k->EP X pins σ Q (.str (Txt.slice z o p) t') { s with toks:=k }:=fun o p e1 e2 t' k hle=>⟨.str _,H,I.tok k (I.tkl' hle),⟨t',rfl⟩,by rw[← e1,← e2];exact q⟩
 refine bw ?_;cases pl with
 | none =>
  cases pu with
  | none=>exact AG (l:=none) (u:=none) (st:=none) hs rfl (Br ⟨Ze (BP z _ _) hz,fun t' k=>fin _ _ rfl rfl t' k⟩)
  | int j uj=>exact AG (l:=none) (u:=some (j,uj)) (st:=none) hs rfl (Br ⟨Ze (BP z _ _) hz,fun t' k=>fin _ _ rfl rfl t' k⟩)
 | int i ui =>
  cases pu with
  | none=>exact AG (l:=some (i,ui)) (u:=none) (st:=none) hs rfl (Br ⟨Ze (BP z _ _) hz,fun t' k=>fin _ _ rfl rfl t' k⟩)
  | int j uj=>exact AG (l:=some (i,ui)) (u:=some (j,uj)) (st:=none) hs rfl (Br ⟨Ze (BP z _ _) hz,fun t' k=>fin _ _ rfl rfl t' k⟩)
end
end L2
namespace L2
open PySem PySem.Spec PyProof.Rows
structure Cal (P:Program) (w:World) (K:PySem.W.Frag) (mg:Str->Option Value) (base:Heap) (x:Str) (k:Nat) (ps:List Str) (sp:Sp):Prop where
 ex:∃f fd,FnOk P w K mg base yX k f fd ps sp/\mg x=some (.ref f)/\PySem.W.keepIn K (.ref f)=true/\Binds K fd ps []
def qb (sp:Sp) (t:TA):TE:=fun σ H Q=>t σ H fun vs H1=>sp vs H1 Q E0
section
variable {X:Cx}
theorem aR (C:Cal X.prog X.w X.K X.mg X.base x k ps sp) (hr:Room k' X.A) (hg:Gl X x) (ha:PA X (e::es) t) (hk:k<=k':=by decide)
  (hdb:(x == ("__debug__":Str))=false:=by decide) (he:starEach (e::es) X.env=(false,eval e X.env)::starEach es X.env:=by rfl) (hpl:(backTo pos (starEach es X.env)).any (·.1)=false:=by rfl) :
  PE X (.Call (.Name x p) (e::es) [] pos) (qb sp t):=by
 obtain⟨f,fd,F,hm,hkp,hb⟩:=C.ex;intro pins s σ H Q I h;refine zc F (hr.mono hk) hg hm hkp hb .nil HE ha hdb he hpl pins s σ H Q I ?_;have e0:qb sp t=v9 sp [] E0 t:=by
  funext σ H Q
  unfold qb v9;simp only[AV]
 rw[e0]at h;exact h
def rN:Expr->Bool
 | .Starred ..=>false
 | _=>true
theorem uZ (h:rN e=true):starEach (e::es) env=(false,eval e env)::starEach es env:=by
 cases e<;>first|rfl|cases h
theorem ao (ha:PE X e te) (hr:PA X es t) (h:rN e=true:=by rfl):PA X (e::es) (cr te t):=jo ha hr (uZ h)
theorem aS (i:Nat) {pos' pos:Pos} (hN:X.N.Nodup) (he:PE X e te) (hi:X.N[i]?=some x:=by rfl) (hx:Loc X.env.scope x:=by first|exact Or.inl rfl|exact Or.inr rfl) (hf:X.fn x=true∨X.env.scope.names.lookup x=some .local:=by first|exact .inl rfl|exact .inr rfl|assumption)
  (hs:swapsWithSole [.Name x pos'] e pos.line X.env=pure false:=by rfl) (hw:swappedStores [.Name x pos'] e X.env=pure none:=by rfl) (h1:(assignEach [.Name x pos'] X.env).map (·.2)=[assign (.Name x pos') X.env]:=by rfl) :
  PS X (.Assign [.Name x pos'] e pos) (uL te (kG i)):=df he (sK hN hi hx hf) hs hw h1
theorem bB (i:Nat) (hN:X.N.Nodup) (hi:X.N[i]?=some x:=by rfl) (hx:Loc X.env.scope x:=by first|exact Or.inl rfl|exact Or.inr rfl) (hf:X.fn x=true∨X.env.scope.names.lookup x=some .local:=by first|exact .inl rfl|exact .inr rfl|assumption):PG X (.Name x pos) (kG i):=sK hN hi hx hf
end
theorem ck:bootBuiltins "list"=some (.type "list"):=by decide +kernel
theorem gF:bootBuiltins "tuple"=some (.type "tuple"):=by decide +kernel
theorem dN:bootBuiltins "int"=some (.type "int"):=by decide +kernel
theorem rO:bootBuiltins "bool"=some (.type "bool"):=by decide +kernel
theorem Fk {K:PySem.W.Frag} {T S:String} {b:Bool} (h:(if (Value.type T == Value.type S)=true then some true else if PySem.W.kitMeta S=true then(fastBuiltinMro T).map (·.contains (Value.type S)) else none)=some b):PySem.W.kitOne K (.type T) (.type S)=some b:=h
theorem boot_isinstance:bootBuiltins "isinstance"=some (.builtin "isinstance"):=by decide +kernel
theorem boot_all:bootBuiltins "all"=some (.builtin "all"):=by decide +kernel
def wx (osc:Scope) (ON N:List Str) (k:Nat) (caps:List Nat) (scope:Scope):Bool :=
 decide (scope.kind=.function)&&scope.names.all (fun y=>decide (y.2≠.cell))&&scope.names.all (fun y=>decide (y.2=.local->scope.names.lookup y.1=some .local)) &&
 scope.names.all (fun y=>decide (y.2=.free->(osc.names.lookup y.1=some .cell∨osc.names.lookup y.1=some .free)))&&decide (N.length=k+caps.length) &&
 (List.range caps.length).all fun j=>match caps[j]?,N[k+j]? with
  | some i,some x=>decide (ON[i]?=some x)&&decide (scope.names.lookup x=some .free)
  | _,_=>false
theorem dO {X:Cx} (h:wx osc ON N k caps scope=true) (ho:X.env.scope=osc) (hN:X.N=ON):BlkScope X N k caps scope:=by
 unfold wx at h;simp only[Xg,decide_eq_true_eq,Yn]at h;obtain⟨⟨⟨⟨⟨h1,h2⟩,h3⟩,h4⟩,h5⟩,h6⟩:=h;refine⟨h1,h2,h3,fun y hy hf=>?_,h5,fun j i hj=>?_⟩
 ·show X.env.scope.names.lookup y.1=_∨X.env.scope.names.lookup y.1=_;rw[ho];exact h4 y hy hf
 ·have hlt:j<caps.length:=(Vb.mp hj).1;have q:=h6 j (Qb.mpr hlt);rw[hj]at q;cases e:N[k+j]? with
  | none=>rw[e]at q;cases q
  | some x =>
   rw[e]at q;have q':(decide (ON[i]?=some x)&&decide (scope.names.lookup x=some .free))=true:=q;simp only[Xg,decide_eq_true_eq]at q';exact⟨x,rfl,by rw[hN];exact q'.1,q'.2⟩
theorem aG (h:H p=none) (o:HO):Same H (upd H p o):=fun b u q=>by rw[aB (aU q h)];exact q
theorem wy {xs:List α} {i:Int} (h0:0<=i) (h1:i<xs.length):∃v,lV xs i=some v/\v∈xs/\xs[i.toNat]?=some v:=by
 have hk:i.toNat<xs.length:=by lia
 have ek:i=((i.toNat:Nat):Int):=by lia
 refine⟨xs[i.toNat],?_,Yj hk,Za hk⟩;have q:lV xs ((i.toNat:Nat):Int)=some xs[i.toNat]:=ot (Za hk);rw[← ek]at q;exact q
end L2
namespace L2
open PySem PySem.Spec PyProof.Rows
section
variable {X:Cx}
theorem mulOk_of {x:Str} {n:Int} (h0:0<=n) (hn:n<=1000) (hx:x.length<=1000):MulOk x n:=by
 have hx':(x.length:Int)<=1000:=by lia
 have hm:(x.length:Int)*n<=1000*1000:=Int.mul_le_mul hx' hn h0 (by decide)
 have hm2:x.length*n.toNat<=1000*1000:=Nat.mul_le_mul hx (by lia)
 refine⟨?_,fun h1 _=>?_,fun h1 h2=>?_⟩
 ·rw[Ad (by lia),Ad (by lia)];rfl
 ·have:(x.length:Int)<=(2 ^ 63-1) / n:=(Int.le_ediv_iff_mul_le (by lia)).mpr (Int.le_trans hm (by decide))
  lia
 ·unfold Builtin.Str.tooLong;have:=uW (Xa 1000);exact Ad (by rw[Bb];lia)
theorem rP:OpR X (binaryOp .Mult) (fun x y H Q=>∃(a:Str) (n:Int),x=.str a/\y=.int n/\MulOk a n/\Q (.str (Txt.mul a n)) H):=by
 intro pins s σ H x y v u Q I rx ry h;obtain⟨a,n,rfl,rfl,hok,q⟩:=h;obtain⟨t,rfl⟩:=rx;obtain⟨t',rfl⟩:=ry;exact bw (SB.mul hok fun t2 k hle=>⟨.str _,H,I.tok k (I.tkl' hle),⟨t2,rfl⟩,q⟩)
theorem Fm (hu:X.A.units<cLine):OpR X (compareOp .NotEq) (fun x y H Q=>∃(a b:Addr) (xs:List V),x=.ref a/\y=.ref b/\eY X.K H a xs/\eY X.K H b []/\Q (.bl (!xs.isEmpty)) H):=by
 intro pins s σ H x y v u Q I rx ry h;obtain⟨a,b,xs,rfl,rfl,ha,hb,q⟩:=h;cases rx;cases ry;obtain⟨its,r,pl,_⟩:=I.list ha;obtain⟨its2,r2,pl2,_⟩:=I.list hb;cases r2;cases xs with
 | nil =>
  cases r;exact SeqAt.RcNeAt.lists (e:=fun _=>true) pl.isList pl2.isList rfl hu (fun j h1 _=>absurd h1 (by simp)) _ _ _ _ ⟨.bl _,H,I,rfl,q⟩
 | cons x1 xr =>
  cases r;exact B7 pl.isList pl2.isList (by simp) hu _ _ _ _ ⟨.bl _,H,I,rfl,q⟩
end
theorem aW {X:Cx} {K:PySem.W.Frag} (h:X.K=K):IxR X (Ju K):=h ▸ EX
end L2
namespace VX
open PySem
def yφ (C e:Addr) (dx:Option Addr) (T:Addr):Heap->Prop:=fun h=>∃vs sl,h.get? e=some ⟨.ref C,dx,.fields vs,sl⟩/\vs[1]?=some (.ref T)
def tφ (T:Addr) (fl:Value):Heap->Prop:=fun h=>∃o ts,h.get? T=some o/\o.data=.fields ts/\ts[3]?=some fl
end VX
namespace VF
open PySem L2
abbrev AS:=Addr->Prop
theorem bT {α β γ:Type} {o:Option (α×β)} {f:α×β->Option γ} {z:γ} {P:Prop} (h:o.bind f=some z) (k:∀a b,o=some (a,b)->f (a,b)=some z->P):P:=by
 obtain⟨⟨a,b⟩,e,h⟩:=Wk.mp h;exact k a b e h
theorem bp {α γ:Type} {o:Option α} {f:α->Option γ} {z:γ} {P:Prop} (h:o.bind f=some z) (k:∀a,o=some a->f a=some z->P):P:=by
 obtain⟨a,e,h⟩:=Wk.mp h;exact k a e h
theorem aC {i:Decidable c} (h:(if c then x else none)=some z):c/\x=some z:=by simp_all
abbrev U (O Z:AS):AS:=fun p=>O p∨Z p
abbrev ins (p:Addr) (O:AS):AS:=fun b=>b=p∨O b
inductive D where
 | non|bl (b:Bool)|int (i:Int)|str (x:Str)|tup (ds:List D)|lst (ds:List D)|fl (ds:List D)|ty (n:String)|dk (kvs:List (Key×D))|dt (kvs:List (aN×D))|xc (c n:Str) (x:Option Str)
def oV:Option Str->V
 | none=>.non
 | some x=>.str x
def Fd (Y:AS) (H:Hp) (dx:Option Addr) (n:Str) (v:V):Prop:=(n=""/\dx=none)∨∃d,dx=some d/\¬ Y d/\H d=some (.xd [(n,v)])
def XO (K:PySem.W.Frag) (Y:AS) (H:Hp) (a:Addr) (c n:Str) (x:Option Str):Prop:=∃C dx T,PySem.W.nsIn K mainGlobals c=some (some (.ref C))/\T≠a/\(¬ Y a/\¬ Y T)/\H a=some (.ext (VX.yφ C a dx T))/\Fd Y H dx n (oV x)/\H T=some (.ext (VX.tφ T .none))
theorem Fd.go (h:Fd Y H dx n v) (k:∀b o,H b=some o->¬ Y b->H' b=some o) (m:∀b,Y' b->Y b∨H b=none):Fd Y' H' dx n v:=by
 rcases h with h|⟨d,e,ny,h⟩
 ·exact .inl h
 ·refine .inr ⟨d,e,fun z=>?_,k _ _ h ny⟩;rcases m d z with w|w
  ·exact ny w
  ·rw[h]at w;cases w
theorem XO.go (h:XO K Y H a c n x) (k:∀b o,H b=some o->¬ Y b->H' b=some o) (m:∀b,Y' b->Y b∨H b=none):XO K Y' H' a c n x:=by
 obtain⟨C,dx,T,h1,h2,⟨q1,q3⟩,h4,h5,h6⟩:=h;refine⟨C,dx,T,h1,h2,⟨fun z=>?_,fun z=>?_⟩,k _ _ h4 q1,h5.go k m,k _ _ h6 q3⟩
 ·rcases m a z with w|w
  ·exact q1 w
  ·rw[h4]at w;cases w
 ·rcases m T z with w|w
  ·exact q3 w
  ·rw[h6]at w;cases w
def TupA (K:PySem.W.Frag) (Y:AS) (H:Hp) (a:Addr) (vs:List V):Prop:=H a=some (.tup vs)/\¬ Y a
def LstA (K:PySem.W.Frag) (Y:AS) (H:Hp) (a:Addr) (vs:List V):Prop:=(Rd H a (.lst vs)/\¬ Y a)∨∀H',eY K H' a vs
theorem TupA.sq (h:TupA K Y H a vs):iz K H a vs:=.inl (.inl h.1)
theorem LstA.sq (h:LstA K Y H a vs):eY K H a vs:=by
 rcases h with h|h
 ·exact .inl h.1
 ·exact h H
def KA (Y:AS) (H:Hp) (as:List Addr):Prop:=∀b∈as,(¬ Y b/\H b≠none)/\∀xs,H b=some (.tup xs)->∀c,V.ref c∈xs->¬ Y c/\H c≠none
theorem KA.go (h:KA Y H as) (k:∀b o,H b=some o->¬ Y b->H' b=some o) (n:∀b,Y' b->Y b∨H b=none):KA Y' H' as:=fun b hb=>by
 obtain⟨⟨h1,h2⟩,h3⟩:=h b hb;have one:∀b,¬ Y b->H b≠none->¬ Y' b/\H' b≠none:=fun b h1 h2=>by
  refine⟨fun z=>(n b z).elim h1 h2,?_⟩;cases e:H b with
  | none=>exact absurd e h2
  | some o=>rw[k b o e h1];simp
 refine⟨one b h1 h2,fun xs e c hc=>?_⟩;cases e':H b with
 | none=>exact absurd e' h2
 | some o =>
  rw[k b o e' h1]at e;cases e;obtain⟨g1,g2⟩:=h3 xs e' c hc;exact one c g1 g2
theorem KA.less (h:KA Y H as) (n:∀b,Y' b->Y b):KA Y' H as:=fun b hb=>⟨⟨fun z=>(h b hb).1.1 (n b z),(h b hb).1.2⟩,fun xs e c hc=>⟨fun z=>((h b hb).2 xs e c hc).1 (n c z),((h b hb).2 xs e c hc).2⟩⟩
inductive DA (K:PySem.W.Frag) (Y:AS) (H:Hp):V->D->Prop where
 | non:DA K Y H .non .non
 | bl (b:Bool):DA K Y H (.bl b) (.bl b)
 | int (i:Int):DA K Y H (.int i) (.int i)
 | str (x:Str):DA K Y H (.str x) (.str x)
 | tup {a:Addr} {vs:List V} {ds:List D}:TupA K Y H a vs->vs.length=ds.length->(∀(i:Nat) v d,vs[i]?=some v->ds[i]?=some d->DA K Y H v d)->DA K Y H (.ref a) (.tup ds)
 | ty (n:String):DA K Y H (.ty n) (.ty n)
 | lst {a:Addr} {vs:List V} {ds:List D}:¬ Y a->H a=some (.lst vs)->vs.length=ds.length->(∀(i:Nat) v d,vs[i]?=some v->ds[i]?=some d->DA K Y H v d)->DA K Y H (.ref a) (.lst ds)
 | fl {a:Addr} {vs:List V} {ds:List D}:LstA K Y H a vs->vs.length=ds.length->(∀(i:Nat) v d,vs[i]?=some v->ds[i]?=some d->DA K Y H v d)->DA K Y H (.ref a) (.fl ds)
 | dk {a:Addr} {kvs:List (Key×V)} {ds:List (Key×D)}:¬ Y a->H a=some (.dK kvs)->kvs.map (·.1)=ds.map (·.1)->(∀(i:Nat) v d,kvs[i]?=some v->ds[i]?=some d->DA K Y H v.2 d.2)->DA K Y H (.ref a) (.dk ds)
 | dt {a:Addr} {ep:Nat×List Addr} {kvs:List (aN×V)} {ds:List (aN×D)}:¬ Y a->KA Y H ep.2->H a=some (.dT ep kvs)->kvs.map (·.1)=ds.map (·.1)->(∀(i:Nat) v d,kvs[i]?=some v->ds[i]?=some d->DA K Y H v.2 d.2)->DA K Y H (.ref a) (.dt ds)
 | xc {a:Addr} {c n:Str} {x:Option Str}:XO K Y H a c n x->DA K Y H (.ref a) (.xc c n x)
def El (K:PySem.W.Frag) (Y:AS) (H:Hp) (vs:List V) (ds:List D):Prop:=vs.length=ds.length/\∀(i:Nat) v d,vs[i]?=some v->ds[i]?=some d->DA K Y H v d
def Lv (H:Hp) (p:Addr):Prop:=H p≠none/\∀vs,H p≠some (.tup vs)
theorem Lv.same (h:Lv H p) (s:∀o,H p=some o->H' p=some o):Lv H' p:=by
 cases e:H p with
 | none=>exact absurd e h.1
 | some o =>
  refine⟨by rw[s o e];simp,fun vs z=>h.2 vs ?_⟩
  rw[s o e]at z;rw[e];exact z
structure Ext (O:AS) (H:Hp) (O':AS) (H':Hp):Prop where
 kp:∀b o,H b=some o->¬ O b->H' b=some o
 nw:∀b,O' b->O b∨H b=none
 al:∀b,H b≠none->H' b≠none
 lv:∀b,Lv H b->Lv H' b
section
variable {K:PySem.W.Frag} {Y Y' O O' O1 O2 Z:AS} {H H' H1 H2:Hp} {v:V} {d:D} {vs:List V} {ds:List D} {a p:Addr}
theorem Ext.refl (O:AS) (H:Hp):Ext O H O H:=⟨fun _ _ h _=>h,fun _ h=>.inl h,fun _ h=>h,fun _ h=>h⟩
theorem Ext.trans (a:Ext O H O1 H1) (b:Ext O1 H1 O2 H2):Ext O H O2 H2:=by
 refine⟨fun c o h n=>b.kp c o (a.kp c o h n) fun z=>?_,fun c h=>?_,fun c h=>b.al c (a.al c h),fun c h=>b.lv c (a.lv c h)⟩
 ·rcases a.nw c z with q|q
  ·exact n q
  ·rw[h]at q;cases q
 ·rcases b.nw c h with q|q
  ·exact a.nw c q
  ·right;cases e:H c with
   | none=>rfl
   | some o=>exact absurd q (a.al c (by rw[e];simp))
theorem Same.ext (h:Same H H'):Ext O H O H':=⟨fun b o e _=>h b o e,fun _ z=>.inl z,fun b z=>by
 cases e:H b with
 | none=>exact absurd e z
 | some o=>rw[h b o e];simp,fun b z=>z.same fun o e=>h b o e⟩
theorem Rd.keep (r:Rd H a u) (k:∀o,H a=some o->H' a=some o):Rd H' a u:=by
 rcases r with r|⟨o,r⟩
 ·exact .inl (k _ r)
 ·exact .inr ⟨o,k _ r⟩
theorem Rd.live (r:Rd H a u):H a≠none:=by
 rcases r with r|⟨o,r⟩<;>(rw[r];simp)
theorem TupA.go (h:TupA K Y H a vs) (k:∀b o,H b=some o->¬ Y b->H' b=some o) (n:∀b,Y' b->Y b∨H b=none):TupA K Y' H' a vs:=by grind [TupA]
theorem LstA.go (h:LstA K Y H a vs) (k:∀b o,H b=some o->¬ Y b->H' b=some o) (n:∀b,Y' b->Y b∨H b=none):LstA K Y' H' a vs:=by
 rcases h with⟨h1,h2⟩|h
 ·refine .inl ⟨Rd.keep h1 fun o e=>k a o e h2,fun z=>?_⟩;rcases n a z with q|q
  ·exact h2 q
  ·exact Rd.live h1 q
 ·exact .inr h
theorem DA.go (h:DA K Y H v d) (k:∀b o,H b=some o->¬ Y b->H' b=some o) (n:∀b,Y' b->Y b∨H b=none):DA K Y' H' v d:=by
 have no:∀a u,H a=some u->¬ Y a->¬ Y' a:=fun a u e ny z=>by
  rcases n a z with q|q
  ·exact ny q
  ·rw[e]at q;cases q
 induction h with
 | non=>exact .non
 | bl b=>exact .bl b
 | int i=>exact .int i
 | str x=>exact .str x
 | tup h1 h2 _ ih=>exact .tup (h1.go k n) h2 ih
 | ty n=>exact .ty n
 | lst h0 h1 h2 _ ih=>exact .lst (no _ _ h1 h0) (k _ _ h1 h0) h2 ih
 | fl h1 h2 _ ih=>exact .fl (h1.go k n) h2 ih
 | dk h0 h1 h2 _ ih=>exact .dk (no _ _ h1 h0) (k _ _ h1 h0) h2 ih
 | dt h0 ka h1 h2 _ ih=>exact .dt (no _ _ h1 h0) (ka.go k n) (k _ _ h1 h0) h2 ih
 | xc h=>exact .xc (h.go k n)
theorem DA.ext (h:DA K (U O Z) H v d) (e:Ext O H O' H'):DA K (U O' Z) H' v d :=
 h.go (fun b o q n=>e.kp b o q fun z=>n (.inl z)) fun b z=>z.elim (fun q=>(e.nw b q).elim (fun x=>.inl (.inl x)) .inr) fun q=>.inl (.inr q)
theorem DA.less (h:DA K Y H v d) (n:∀b,Y' b->Y b):DA K Y' H v d:=h.go (fun _ _ e _=>e) fun b z=>.inl (n b z)
theorem DA.same (h:DA K Y H v d) (s:Same H H'):DA K Y H' v d:=h.go (fun b o e _=>s b o e) fun _ z=>.inl z
theorem DA.away (h:DA K Y H v d) (s:Same H H') (hp:H p=none):DA K (ins p Y) H' v d:=h.go (fun b o e _=>s b o e) fun b z=>z.elim (fun q=>.inr (q ▸ hp)) .inl
theorem El.go (h:El K Y H vs ds) (k:∀b o,H b=some o->¬ Y b->H' b=some o) (n:∀b,Y' b->Y b∨H b=none):El K Y' H' vs ds:=⟨h.1,fun i v d a b=>(h.2 i v d a b).go k n⟩
theorem El.ext (h:El K (U O Z) H vs ds) (e:Ext O H O' H'):El K (U O' Z) H' vs ds:=⟨h.1,fun i v d a b=>(h.2 i v d a b).ext e⟩
theorem El.less (h:El K Y H vs ds) (n:∀b,Y' b->Y b):El K Y' H vs ds:=⟨h.1,fun i v d a b=>(h.2 i v d a b).less n⟩
theorem El.same (h:El K Y H vs ds) (s:Same H H'):El K Y H' vs ds:=⟨h.1,fun i v d a b=>(h.2 i v d a b).same s⟩
theorem El.away (h:El K Y H vs ds) (s:Same H H') (hp:H p=none):El K (ins p Y) H' vs ds:=⟨h.1,fun i v d a b=>(h.2 i v d a b).away s hp⟩
theorem El.nil:El K Y H [] []:=⟨rfl,fun i v d h=>by simp at h⟩
theorem El.cons (h:DA K Y H v d) (r:El K Y H vs ds):El K Y H (v::vs) (d::ds):=by grind [El]
theorem El.uncons (h:El K Y H vs (d::ds)):∃v r,vs=v::r/\DA K Y H v d/\El K Y H r ds:=by
 cases vs with
 | nil=>have:=h.1;simp at this
 | cons v r =>
  refine⟨v,r,rfl,h.2 0 v d rfl rfl,?_,fun i v' d' h1 h2=>h.2 (i+1) v' d' (by simpa using h1) (by simpa using h2)⟩
  have:=h.1;simpa using this
theorem El.unnil (h:El K Y H vs []):vs=[]:=by
 have:=h.1;simpa using this
theorem El.app (h:El K Y H vs ds) (r:El K Y H ws es):El K Y H (vs++ws) (ds++es):=by grind [El]
theorem El.at (h:El K Y H vs ds) {i:Nat} {d:D} (e:ds[i]?=some d):∃v,vs[i]?=some v/\DA K Y H v d:=by
 have hi:i<ds.length:=(Vb.mp e).1;have hv:i<vs.length:=by rw[h.1];exact hi
 exact⟨vs[i],Za hv,h.2 i _ d (Za hv) e⟩
theorem El.one (h:DA K Y H v d):El K Y H [v] [d]:=El.cons h El.nil
theorem El.rev (h:El K Y H vs ds):El K Y H vs.reverse ds.reverse:=by grind [El]
theorem El.take (h:El K Y H vs ds) (n:Nat):El K Y H (vs.take n) (ds.take n):=by grind [El]
theorem El.drop (h:El K Y H vs ds) (n:Nat):El K Y H (vs.drop n) (ds.drop n):=by
 refine⟨by simp[h.1],fun i v d h1 h2=>?_⟩
 rw[Qg]at h1 h2;exact h.2 _ v d h1 h2
theorem El.set (h:El K Y H vs ds) (hv:DA K Y H v d) (j:Nat):El K Y H (vs.set j v) (ds.set j d):=by grind [El]
theorem El.erase (h:El K Y H vs ds) (j:Nat):El K Y H (vs.eraseIdx j) (ds.eraseIdx j):=by grind [El]
def OA (K:PySem.W.Frag) (Y:AS) (H:Hp) (p:Addr):D->Prop
 | .lst ds=>∃vs,H p=some (.lst vs)/\El K Y H vs ds
 | .dk ds=>∃kvs,H p=some (.dK kvs)/\kvs.map (·.1)=ds.map (·.1)/\∀(i:Nat) v d,kvs[i]?=some v->ds[i]?=some d->DA K Y H v.2 d.2
 | .dt ds=>∃ep kvs,KA Y H ep.2/\H p=some (.dT ep kvs)/\kvs.map (·.1)=ds.map (·.1)/\∀(i:Nat) v d,kvs[i]?=some v->ds[i]?=some d->DA K Y H v.2 d.2
 | _=>False
theorem OA.live (h:OA K Y H p d):H p≠none:=by
 cases d with
 | lst ds=>obtain⟨vs,e,_⟩:=h;rw[e];simp
 | dk ds=>obtain⟨vs,e,_⟩:=h;rw[e];simp
 | dt ds=>obtain⟨_,vs,_,e,_⟩:=h;rw[e];simp
 | _=>exact h.elim
theorem OA.lv (h:OA K Y H p d):Lv H p:=by
 cases d with
 | lst ds=>obtain⟨vs,e,_⟩:=h;exact⟨by rw[e];simp,fun _ z=>by rw[e]at z;cases z⟩
 | dk ds=>obtain⟨vs,e,_⟩:=h;exact⟨by rw[e];simp,fun _ z=>by rw[e]at z;cases z⟩
 | dt ds=>obtain⟨_,vs,_,e,_⟩:=h;exact⟨by rw[e];simp,fun _ z=>by rw[e]at z;cases z⟩
 | _=>exact h.elim
theorem OA.go (h:OA K Y H p d) (hp:H' p=H p) (k:∀b o,H b=some o->¬ Y b->H' b=some o) (n:∀b,Y' b->Y b∨H b=none):OA K Y' H' p d:=by
 cases d with
 | lst ds=>obtain⟨vs,e,q⟩:=h;exact⟨vs,hp.trans e,q.go k n⟩
 | dk ds=>obtain⟨vs,e,q1,q2⟩:=h;exact⟨vs,hp.trans e,q1,fun i v d a b=>(q2 i v d a b).go k n⟩
 | dt ds=>obtain⟨ep,vs,ka,e,q1,q2⟩:=h;exact⟨ep,vs,ka.go k n,hp.trans e,q1,fun i v d a b=>(q2 i v d a b).go k n⟩
 | _=>exact h.elim
theorem OA.da (h:OA K Y H p d) (hp:¬ Y' p) (n:∀b,Y' b->Y b):DA K Y' H (.ref p) d:=by
 cases d with
 | lst ds=>obtain⟨vs,e,q⟩:=h;exact .lst hp e q.1 (q.less n).2
 | dk ds=>obtain⟨vs,e,q1,q2⟩:=h;exact .dk hp e q1 fun i v d a b=>(q2 i v d a b).less n
 | dt ds=>obtain⟨ep,vs,ka,e,q1,q2⟩:=h;exact .dt hp (ka.less n) e q1 fun i v d a b=>(q2 i v d a b).less n
 | _=>exact h.elim
def BA (K:PySem.W.Frag) (Y:AS) (H:Hp) (v:V):D->Prop
 | .non=>v=.non
 | .bl b=>v=.bl b
 | .int i=>v=.int i
 | .str x=>v=.str x
 | .tup ds=>∃a vs,v=.ref a/\TupA K Y H a vs/\El K Y H vs ds
 | .ty n=>v=.ty n
 | .lst ds=>∃a vs,v=.ref a/\H a=some (.lst vs)/\El K Y H vs ds
 | .fl ds=>∃a vs,v=.ref a/\LstA K Y H a vs/\El K Y H vs ds
 | .dk ds=>∃a kvs,v=.ref a/\H a=some (.dK kvs)/\kvs.map (·.1)=ds.map (·.1)/\∀(i:Nat) v d,kvs[i]?=some v->ds[i]?=some d->DA K Y H v.2 d.2
 | .dt ds=>∃a ep kvs,v=.ref a/\KA Y H ep.2/\H a=some (.dT ep kvs)/\kvs.map (·.1)=ds.map (·.1)/\∀(i:Nat) v d,kvs[i]?=some v->ds[i]?=some d->DA K Y H v.2 d.2
 | .xc c n x=>∃a,v=.ref a/\XO K Y H a c n x
theorem DA.ba (h:DA K Y H v d):BA K Y H v d:=by
 cases h with
 | non=>rfl
 | bl b=>rfl
 | int i=>rfl
 | str x=>rfl
 | tup h1 h2 h3=>exact⟨_,_,rfl,h1,h2,h3⟩
 | ty n=>rfl
 | lst h0 h1 h2 h3=>exact⟨_,_,rfl,h1,h2,h3⟩
 | fl h1 h2 h3=>exact⟨_,_,rfl,h1,h2,h3⟩
 | dk h0 h1 h2 h3=>exact⟨_,_,rfl,h1,h2,h3⟩
 | dt h0 ka h1 h2 h3=>exact⟨_,_,_,rfl,ka,h1,h2,h3⟩
 | xc h=>exact⟨_,rfl,h⟩
theorem OA.ba (h:OA K Y H p d):BA K Y H (.ref p) d:=by
 cases d with
 | lst ds=>obtain⟨vs,e,q⟩:=h;exact⟨p,vs,rfl,e,q⟩
 | dk ds=>obtain⟨vs,e,q1,q2⟩:=h;exact⟨p,vs,rfl,e,q1,q2⟩
 | dt ds=>obtain⟨ep,vs,ka,e,q1,q2⟩:=h;exact⟨p,ep,vs,rfl,ka,e,q1,q2⟩
 | _=>exact h.elim
end
end VF
namespace VF
open PySem L2
inductive Sl where
 | e|v (d:D)|o (d:D)|io (d:D)
abbrev En:=List Sl
def Sl.get:Sl->Option D
 | .e=>none
 | .v d=>some d
 | .o d=>some d
 | .io d=>some d
def Sl.ow:Sl->Option D
 | .o d=>some d
 | .io d=>some d
 | _=>none
def Sl.put (y:D):Sl->Sl
 | .io _=>.io y
 | _=>.o y
theorem Sl.put_ow (y:D) (s:Sl):(s.put y).ow=some y:=by cases s<;>rfl
theorem Sl.put_v (y z:D) (s:Sl):s.put y≠.v z:=by cases s<;>(intro e;cases e)
inductive Rs where
 | d (x:D)|f (x:D)|s (i:Nat)
structure ER (K:PySem.W.Frag) (st:En) (σ:St) (H:Hp) (O Z:AS):Prop where
 len:st.length=σ.length
 val:∀(i:Nat) d,st[i]?=some (.v d)->∃v,σ[i]?=some (some v)/\DA K (U O Z) H v d
 own:∀(i:Nat) s d,st[i]?=some s->s.ow=some d->∃p,σ[i]?=some (some (.ref p))/\O p/\OA K (U O Z) H p d
 uni:∀(i j:Nat) s t d d' p,st[i]?=some s->s.ow=some d->st[j]?=some t->t.ow=some d'->σ[i]?=some (some (.ref p))->σ[j]?=some (some (.ref p))->i=j
 dis:∀p,O p->¬ Z p
 liv:∀p,U O Z p->Lv H p
structure Kp (st st':En):Prop where
 len:st'.length=st.length
 has:∀(i:Nat) s,st[i]?=some s->s.get≠none->∃s',st'[i]?=some s'/\s'.get≠none
 io:∀(i:Nat) d,st[i]?=some (.io d)->∃d',st'[i]?=some (.io d')
theorem Kp.refl (st:En):Kp st st:=⟨rfl,fun i s h g=>⟨s,h,g⟩,fun i d h=>⟨d,h⟩⟩
theorem Kp.trans (x:Kp a b) (y:Kp b c):Kp a c:=by
 refine⟨y.len.trans x.len,fun i s h g=>?_,fun i d h=>?_⟩
 ·obtain⟨s',h',g'⟩:=x.has i s h g;exact y.has i s' h' g'
 ·obtain⟨d',h'⟩:=x.io i d h;exact y.io i d' h'
def RVal (K:PySem.W.Frag) (Z:AS) (st:En) (σ:St) (H:Hp) (O:AS) (v:V):Rs->Prop
 | .d x=>DA K (U O Z) H v x
 | .f x=>∃p,v=.ref p/\¬ O p/\¬ Z p/\OA K (ins p (U O Z)) H p x/\ER K st σ H (ins p O) Z
 | .s i=>σ[i]?=some (some v)/\∃s,st[i]?=some s/\s.get≠none
def cont (st:En):Rs->Option D
 | .d x=>some x
 | .f x=>some x
 | .s i=>(st[i]?).bind Sl.get
def Rs.nf:Rs->Rs
 | .f x=>.d x
 | r=>r
section
variable {K:PySem.W.Frag} {Y Y' O O' O1 O2 Z:AS} {H H' H1 H2:Hp} {v:V} {d:D} {vs:List V} {ds:List D} {a p:Addr} {st st' st1 st2:En} {σ σ':St}
theorem jq (st:En) (r:Rs):cont st r.nf=cont st r:=by cases r<;>rfl
theorem RVal.nf {r:Rs} (h:RVal K Z st σ H O v r):RVal K Z st σ H O v r.nf:=by
 cases r with
 | d x=>exact h
 | s i=>exact h
 | f x =>
  obtain⟨p,rfl,h1,h2,h3,_⟩:=h;exact h3.da (fun z=>z.elim h1 h2) fun b z=>.inr z
theorem RVal.ba (h:RVal K Z st σ H O v r) (E:ER K st σ H O Z) (c:cont st r=some d):BA K (U O Z) H v d:=by
 cases r with
 | d x=>cases c;exact DA.ba h
 | f x =>
  cases c;have:=RVal.nf h;exact DA.ba (show DA K (U O Z) H v _ from this)
 | s i =>
  obtain⟨h1,s,h2,h3⟩:=h;have c':(st[i]?).bind Sl.get=some d:=c;rw[h2]at c';cases s with
  | e=>cases c'
  | v x =>
   cases c';obtain⟨u,g1,g2⟩:=E.val i _ h2;rw[h1]at g1;cases g1;exact g2.ba
  | o x =>
   cases c';obtain⟨p,g1,g2,g3⟩:=E.own i _ _ h2 rfl;rw[h1]at g1;cases g1;exact g3.ba
  | io x =>
   cases c';obtain⟨p,g1,g2,g3⟩:=E.own i _ _ h2 rfl;rw[h1]at g1;cases g1;exact g3.ba
theorem RVal.ext {r:Rs} (h:RVal K Z st σ H O v r.nf) (e:Ext O H O' H') (k:Kp st st'):RVal K Z st' σ H' O' v r.nf:=by
 cases r with
 | d x=>exact DA.ext (show DA K (U O Z) H v x from h) e
 | f x=>exact DA.ext (show DA K (U O Z) H v x from h) e
 | s i =>
  obtain⟨h1,s,h2,h3⟩:=h;exact⟨h1,k.has i s h2 h3⟩
theorem ER.same (E:ER K st σ H O Z) (s:Same H H'):ER K st σ H' O Z:=by
 refine⟨E.len,fun i d h=>?_,fun i s' d h1 h2=>?_,E.uni,E.dis,fun p hp=>?_⟩
 ·obtain⟨v,h1,h2⟩:=E.val i d h;exact⟨v,h1,h2.same s⟩
 ·obtain⟨p,g1,g2,g3⟩:=E.own i s' d h1 h2;refine⟨p,g1,g2,g3.go ?_ (fun b o e _=>s b o e) fun b z=>.inl z⟩;cases e:H p with
  | none=>exact absurd e g3.live
  | some o=>exact s p o e
 ·exact(E.liv p hp).same fun o e=>s p o e
theorem ER.away (E:ER K st σ H O Z) (s:Same H H') (hp:H p=none) (hp':Lv H' p):ER K st σ H' (ins p O) Z:=by
 have sub:∀b,U (ins p O) Z b->ins p (U O Z) b:=fun b z=>by
  rcases z with(z|z)|z
  ·exact .inl z
  ·exact .inr (.inl z)
  ·exact .inr (.inr z)
 refine⟨E.len,fun i d h=>?_,fun i s' d h1 h2=>?_,E.uni,fun q hq=>?_,fun q hq=>?_⟩
 ·obtain⟨v,h1,h2⟩:=E.val i d h;exact⟨v,h1,(h2.away s hp).less sub⟩
 ·obtain⟨q,g1,g2,g3⟩:=E.own i s' d h1 h2;refine⟨q,g1,.inr g2,g3.go ?_ (fun b o e _=>s b o e) fun b z=>?_⟩
  ·cases e:H q with
   | none=>exact absurd e g3.live
   | some o=>exact s q o e
  ·rcases sub b z with z|z
   ·exact .inr (z ▸ hp)
   ·exact .inl z
 ·rcases hq with rfl|hq
  ·exact fun z=>(E.liv _ (.inr z)).1 hp
  ·exact E.dis q hq
 ·rcases hq with(rfl|hq)|hq
  ·exact hp'
  ·exact(E.same s).liv q (.inl hq)
  ·exact(E.same s).liv q (.inr hq)
theorem ER.free (E:ER K st σ H O Z) (hp:H p=none):¬ O p/\¬ Z p:=⟨fun z=>(E.liv p (.inl z)).1 hp,fun z=>(E.liv p (.inr z)).1 hp⟩
theorem ER.new (E:ER K st σ H O Z) (hp:H p=none) (el:El K (U O Z) H vs ds):ER K st σ (upd H p (.lst vs)) O Z/\RVal K Z st σ (upd H p (.lst vs)) O (.ref p) (.f (.lst ds)):=by
 have s:=aG hp (.lst vs);have hf:=E.free hp;refine⟨E.same s,p,rfl,hf.1,hf.2,⟨vs,aD,el.away s hp⟩,E.away s hp ⟨by rw[aD];simp,fun _ z=>by rw[aD]at z;cases z⟩⟩
theorem ER.newT (E:ER K st σ H O Z) (hp:H p=none) (el:El K (U O Z) H vs ds):ER K st σ (upd H p (.tup vs)) O Z/\RVal K Z st σ (upd H p (.tup vs)) O (.ref p) (.d (.tup ds)):=by
 have s:=aG hp (.tup vs);have hf:=E.free hp;exact⟨E.same s,.tup ⟨aD,fun z=>z.elim hf.1 hf.2⟩ el.1 (el.same s).2⟩
def qc (st:En) (i:Nat):Option En:=match st[i]? with
 | some (.v _)=>some st
 | some (.o d)=>some (st.set i (.v d))
 | _=>none
def wz (st:En):Rs->Option En
 | .s i=>qc st i
 | _=>some st
theorem aj {l:List α} (h:i≠j):(l.set i x)[j]?=l[j]?:=by rw[Wm,Af h]
theorem aM {l:List α} (h:l[i]?=some y):(l.set i x)[i]?=some x:=by
 have hi:=(Vb.mp h).1;rw[Wm,Ae rfl,Ae hi]
theorem tD (h:qc st i=some st'):Kp st st'/\∃d,st'[i]?=some (.v d)/\(st[i]?).bind Sl.get=some d:=by
 unfold qc at h;split at h
 ·rename_i d e
  cases h;exact⟨Kp.refl st,d,e,by rw[e];rfl⟩
 ·rename_i d e
  cases h;refine⟨⟨by simp,fun j s hj g=>?_,fun j d' hj=>?_⟩,d,aM e,by rw[e];rfl⟩
  ·by_cases q:i=j
   ·subst q;exact⟨.v d,aM e,by simp[Sl.get]⟩
   ·exact⟨s,by rw[aj q];exact hj,g⟩
  ·have q:i≠j:=fun z=>by subst z;rw[e]at hj;cases hj
   exact⟨d',by rw[aj q];exact hj⟩
 ·cases h
theorem ER.frz (E:ER K st σ H O Z) (h:qc st i=some st'):∃O',Ext O H O' H/\ER K st' σ H O' Z/\(∀b,O' b->O b):=by
 unfold qc at h;split at h
 ·cases h;exact⟨O,Ext.refl O H,E,fun _ z=>z⟩
 ·rename_i d e
  cases h;obtain⟨p,g1,g2,g3⟩:=E.own i _ _ e rfl;have less:∀b,U (fun b=>O b/\b≠p) Z b->U O Z b:=fun b z=>z.elim (fun q=>.inl q.1) .inr;refine⟨fun b=>O b/\b≠p,⟨fun b o q _=>q,fun b z=>.inl z.1,fun b z=>z,fun b z=>z⟩,⟨by simp[E.len],fun j x hj=>?_,fun j s x hj hs=>?_,fun j k s t x y q hj hs hk ht e1 e2=>?_,fun q hq=>E.dis q hq.1,fun q hq=>E.liv q (less q hq)⟩,fun b z=>z.1⟩
  ·by_cases q:i=j
   ·subst q;rw[aM e]at hj;cases hj;exact⟨.ref p,g1,g3.da (fun z=>z.elim (fun y=>y.2 rfl) (E.dis p g2)) less⟩
   ·rw[aj q]at hj;obtain⟨v,h1,h2⟩:=E.val j x hj;exact⟨v,h1,h2.less less⟩
  ·have q:i≠j:=fun z=>by
    subst z;rw[aM e]at hj;cases hj;cases hs
   rw[aj q]at hj;obtain⟨r,h1,h2,h3⟩:=E.own j s x hj hs;refine⟨r,h1,⟨h2,fun z=>q ?_⟩,h3.go rfl (fun _ _ e _=>e) fun b z=>.inl (less b z)⟩;subst z;exact E.uni i j _ _ _ _ r e rfl hj hs g1 h1
  ·have q1:i≠j:=fun z=>by
    subst z;rw[aM e]at hj;cases hj;cases hs
   have q2:i≠k:=fun z=>by
    subst z;rw[aM e]at hk;cases hk;cases ht
   rw[aj q1]at hj;rw[aj q2]at hk;exact E.uni j k s t x y q hj hs hk ht e1 e2
 ·cases h
theorem RVal.frz (h:RVal K Z st σ H O v r) (E:ER K st σ H O Z) (f:wz st r=some st') (c:cont st r=some d):∃O',Ext O H O' H/\Kp st st'/\ER K st' σ H O' Z/\DA K (U O' Z) H v d:=by
 cases r with
 | d x=>cases f;cases c;exact⟨O,Ext.refl O H,Kp.refl st,E,h⟩
 | f x=>cases f;cases c;exact⟨O,Ext.refl O H,Kp.refl st,E,RVal.nf h⟩
 | s i =>
  obtain⟨h1,s,h2,h3⟩:=h;have f':qc st i=some st':=f;obtain⟨k,x,k1,k2⟩:=tD f';obtain⟨O',e1,e2,_⟩:=E.frz f';have c':(st[i]?).bind Sl.get=some d:=c;have ex:x=d:=Option.some.inj (k2.symm.trans c');subst ex;obtain⟨u,g1,g2⟩:=e2.val i _ k1;rw[h1]at g1;cases g1;exact⟨O',e1,k,e2,g2⟩
theorem ER.write {s:Sl} (E:ER K st σ H O Z) (hs:st[i]?=some s) (ho:s.ow=some x) (hp:σ[i]?=some (some (.ref p))) (new:OA K (U O Z) (upd H p o) p y) :
  ER K (st.set i (s.put y)) σ (upd H p o) O Z/\Ext O H O (upd H p o)/\Kp st (st.set i (s.put y)):=by
 obtain⟨q,g1,g2,g3⟩:=E.own i s x hs ho;have eq:q=p:=by rw[hp]at g1;cases g1;rfl
 subst eq;have keep:∀b u,H b=some u->¬ U O Z b->upd H q o b=some u:=fun b u e n=>by
  have hb:b≠q:=fun z=>n (.inl (by rw[z];exact g2))
  rw[aB hb];exact e
 refine⟨⟨by simp[E.len],fun j d hj=>?_,fun j t d hj ht=>?_,fun j k t t' d d' r hj ht hk ht' e1 e2=>?_,E.dis,fun r hr=>?_⟩,⟨fun b u e n=>?_,fun b z=>.inl z,fun b z=>?_,fun b z=>?_⟩,⟨by simp,fun j t hj ht=>?_,fun j d hj=>?_⟩⟩
 ·by_cases e:i=j
  ·subst e;rw[aM hs]at hj;exact absurd (Option.some.inj hj) (Sl.put_v _ _ _)
  ·rw[aj e]at hj;obtain⟨v,h1,h2⟩:=E.val j d hj;exact⟨v,h1,h2.go keep fun b z=>.inl z⟩
 ·by_cases e:i=j
  ·subst e;rw[aM hs]at hj;have:=Option.some.inj hj;subst this;rw[Sl.put_ow]at ht;cases ht;exact⟨q,hp,g2,new⟩
  ·rw[aj e]at hj;obtain⟨r,h1,h2,h3⟩:=E.own j t d hj ht;have hne:r≠q:=fun z=>by subst z;exact e (E.uni i j s t x d r hs ho hj ht hp h1)
   exact⟨r,h1,h2,h3.go (aB hne) keep fun b z=>.inl z⟩
 ·have own':∀(m:Nat) (t:Sl) (d:D),(st.set i (s.put y))[m]?=some t->t.ow=some d->∃t2 d2,st[m]?=some t2/\t2.ow=some d2:=fun m t d hm ht=>by
   by_cases e:i=m
   ·subst e;exact⟨s,x,hs,ho⟩
   ·rw[aj e]at hm;exact⟨t,d,hm,ht⟩
  obtain⟨t1,d1,a1,b1⟩:=own' j t d hj ht;obtain⟨t2,d2,a2,b2⟩:=own' k t' d' hk ht';exact E.uni j k t1 t2 d1 d2 r a1 b1 a2 b2 e1 e2
 ·by_cases e:r=q
  ·subst e;exact new.lv
  ·exact(E.liv r hr).same fun o' eo=>by rw[aB e];exact eo
 ·have hb:b≠q:=fun z=>n (by rw[z];exact g2)
  rw[aB hb];exact e
 ·by_cases e:b=q
  ·subst e;rw[aD];simp
  ·rw[aB e];exact z
 ·by_cases e:b=q
  ·subst e;exact new.lv
  ·exact z.same fun o' eo=>by rw[aB e];exact eo
 ·by_cases e:i=j
  ·subst e;exact⟨s.put y,aM hs,by cases s<;>simp[Sl.put,Sl.get]⟩
  ·exact⟨t,by rw[aj e];exact hj,ht⟩
 ·by_cases e:i=j
  ·subst e;rw[hs]at hj;cases hj;exact⟨y,aM hs⟩
  ·exact⟨d,by rw[aj e];exact hj⟩
end
end VF
namespace VF
open PySem L2
abbrev FE:=En->Option (Rs×En)
abbrev FA:=En->Option (List Rs×En)
abbrev FT:=En->Option (Bool×En)
abbrev Rz:=D×Bool
def mk:Rz->Rs
 | (d,true)=>.f d
 | (d,false)=>.d d
def RES (K:PySem.W.Frag) (Y:AS) (H H':Hp) (v:V):Rz->Prop
 | (d,true)=>∃p,v=.ref p/\H p=none/\OA K (ins p Y) H' p d
 | (d,false)=>DA K Y H' v d
def Fsh (H:Hp) (v:V):Rs->Prop
 | .f _=>∀p,v=.ref p->H p=none
 | _=>True
theorem Ext.dead (e:Ext O H O' H') (h:H' p=none):H p=none:=by
 cases q:H p with
 | none=>rfl
 | some o=>exact absurd h (e.al p (by rw[q];simp))
theorem Fsh.back (h:Fsh H' v r) (e:Ext O H O' H'):Fsh H v r:=by
 cases r with
 | f x=>exact fun p hp=>e.dead (h p hp)
 | d x=>trivial
 | s i=>trivial
def cM (K:PySem.W.Frag) (te:TE) (f:FE):Prop:=∀(st:En) (σ:St) (H:Hp) (O Z:AS) (Q:VK),ER K st σ H O Z->∀r st',f st=some (r,st') ->
 (∀v H' O',Ext O H O' H'->Kp st st'->ER K st' σ H' O' Z->RVal K Z st' σ H' O' v r->Fsh H v r->Q v H')->te σ H Q
inductive RVs (K:PySem.W.Frag) (Z:AS) (st:En) (σ:St) (H:Hp) (O:AS):List V->List Rs->Prop where
 | nil:RVs K Z st σ H O [] []
 | cons {v:V} {vs:List V} {r:Rs} {rs:List Rs}:RVal K Z st σ H O v r.nf->RVs K Z st σ H O vs rs->RVs K Z st σ H O (v::vs) (r::rs)
def rQ (K:PySem.W.Frag) (ta:TA) (f:FA):Prop:=∀(st:En) (σ:St) (H:Hp) (O Z:AS) (Q:List V->Hp->Prop),ER K st σ H O Z->∀rs st',f st=some (rs,st') ->
 (∀vs H' O',Ext O H O' H'->Kp st st'->ER K st' σ H' O' Z->RVs K Z st' σ H' O' vs rs->Q vs H')->ta σ H Q
def oD (K:PySem.W.Frag) (tt:TT) (f:FT):Prop:=∀(st:En) (σ:St) (H:Hp) (O Z:AS) (Q:Bool->Hp->Prop),ER K st σ H O Z->∀c st',f st=some (c,st') ->
 (∀H' O',Ext O H O' H'->Kp st st'->ER K st' σ H' O' Z->Q c H')->tt σ H Q
def RdOp (K:PySem.W.Frag) (r:R2) (b:D->D->Option Rz):Prop:=∀(Y:AS) (H:Hp) (x y:V) (d1 d2:D) (z:Rz) (Q:VK),(∀p,Y p->Lv H p)->BA K Y H x d1->BA K Y H y d2->b d1 d2=some z ->
 (∀v H',Same H H'->RES K Y H H' v z->Q v H')->r x y H Q
def HG (K:PySem.W.Frag) (r:V->Hp->VK->Prop) (b:D->Option Rz):Prop:=∀(Y:AS) (H:Hp) (x:V) (d1:D) (z:Rz) (Q:VK),(∀p,Y p->Lv H p)->BA K Y H x d1->b d1=some z ->
 (∀v H',Same H H'->RES K Y H H' v z->Q v H')->r x H Q
inductive BAs (K:PySem.W.Frag) (Y:AS) (H:Hp):List V->List D->Prop where
 | nil:BAs K Y H [] []
 | cons {v:V} {vs:List V} {d:D} {ds:List D}:BA K Y H v d->BAs K Y H vs ds->BAs K Y H (v::vs) (d::ds)
def RdCB (K:PySem.W.Frag) (r:List V->Hp->VK->Prop) (b:List D->Option Rz):Prop:=∀(Y:AS) (H:Hp) (xs:List V) (ds:List D) (z:Rz) (Q:VK),(∀p,Y p->Lv H p)->BAs K Y H xs ds->b ds=some z ->
 (∀v H',Same H H'->RES K Y H H' v z->Q v H')->r xs H Q
section
variable {K:PySem.W.Frag} {Y Y' O O' O1 O2 Z:AS} {H H' H1 H2:Hp} {v:V} {d:D} {vs:List V} {ds:List D} {a p:Addr} {st st' st1 st2:En} {σ σ':St}
theorem RES.rv (E:ER K st σ H O Z) (s:Same H H') (h:RES K (U O Z) H H' v z):ER K st σ H' O Z/\RVal K Z st σ H' O v (mk z):=by
 obtain⟨d,fr⟩:=z;cases fr with
 | false=>exact⟨E.same s,h⟩
 | true =>
  obtain⟨p,rfl,hp,ho⟩:=h;have hf:=E.free hp;exact⟨E.same s,p,rfl,hf.1,hf.2,ho,E.away s hp ho.lv⟩
theorem RES.fsh (h:RES K Y H H' v z):Fsh H v (mk z):=by
 obtain⟨d,fr⟩:=z;cases fr with
 | false=>trivial
 | true=>obtain⟨p,rfl,hp,_⟩:=h;exact fun q e=>by cases e;exact hp
theorem RVs.ext (h:RVs K Z st σ H O vs rs) (e:Ext O H O' H') (k:Kp st st'):RVs K Z st' σ H' O' vs rs:=by
 induction h with
 | nil=>exact .nil
 | cons h1 _ ih=>exact .cons (h1.ext e k) ih
def bW (st:En):List Rs->Option (List D)
 | []=>some []
 | r::rs=>(cont st r).bind fun d=>(bW st rs).bind fun ds=>some (d::ds)
theorem RVs.bas (h:RVs K Z st σ H O vs rs) (E:ER K st σ H O Z):∀{ds:List D},bW st rs=some ds->BAs K (U O Z) H vs ds:=by
 induction h with
 | nil=>intro ds e;cases e;exact .nil
 | @cons v vs r rs h1 _ ih =>
  intro ds e;refine bp e fun d e1 e=>?_;refine bp e fun ds' e2 e=>?_;cases e;exact .cons (h1.ba E (by rw[jq];exact e1)) (ih e2)
def cm:List Rs->En->Option (List D×En)
 | [],st=>some ([],st)
 | r::rs,st=>(cont st r).bind fun d=>(wz st r).bind fun st1=>(cm rs st1).bind fun x=>some (d::x.1,x.2)
theorem zo (st:En) (r:Rs):wz st r.nf=wz st r:=by cases r<;>rfl
theorem RVs.esc:∀{rs:List Rs} {vs:List V} {st:En} {O:AS} {ds:List D} {st':En},RVs K Z st σ H O vs rs->ER K st σ H O Z->cm rs st=some (ds,st')->∃O',Ext O H O' H/\Kp st st'/\ER K st' σ H O' Z/\El K (U O' Z) H vs ds
 | [],_,st,O,ds,st',.nil,E,e=>by cases e;exact⟨O,Ext.refl O H,Kp.refl _,E,El.nil⟩
 | r::rs,_,st,O,ds,st',.cons h1 h2,E,e=>by
  refine bp e fun d e1 e=>?_;refine bp e fun st1 e2 e=>?_;refine bT e fun ds2 st2 e3 e=>?_;cases e;obtain⟨O1,x1,k1,E1,da⟩:=h1.frz E (by rw[zo];exact e2) (by rw[jq];exact e1)
  obtain⟨O2,x2,k2,E2,el⟩:=RVs.esc (h2.ext x1 k1) E1 e3;exact⟨O2,x1.trans x2,k1.trans k2,E2,El.cons (da.ext x2) el⟩
def aP (i:Nat):FE:=fun st=>match st[i]? with
 | some (.v d)=>some (.d d,st)
 | some (.o _)=>some (.s i,st)
 | some (.io _)=>some (.s i,st)
 | _=>none
theorem ac (i:Nat):cM K (jm i) (aP i):=by
 intro st σ H O Z Q E r st' h q;unfold aP at h;split at h
 ·rename_i d e
  cases h;obtain⟨v,h1,h2⟩:=E.val i d e;exact⟨v,h1,q v H O (Ext.refl O H) (Kp.refl _) E h2 True.intro⟩
 ·rename_i d e
  cases h;obtain⟨p,h1,h2,h3⟩:=E.own i _ _ e rfl;exact⟨.ref p,h1,q _ H O (Ext.refl O H) (Kp.refl _) E ⟨h1,_,e,by simp[Sl.get]⟩ True.intro⟩
 ·rename_i d e
  cases h;obtain⟨p,h1,h2,h3⟩:=E.own i _ _ e rfl;exact⟨.ref p,h1,q _ H O (Ext.refl O H) (Kp.refl _) E ⟨h1,_,e,by simp[Sl.get]⟩ True.intro⟩
 ·cases h
def fC (d:D):FE:=fun st=>some (.d d,st)
theorem u5 (h:∀Y H,DA K Y H v d):cM K (tC v) (fC d):=by
 intro st σ H O Z Q E r st' e q;cases e;exact q v H O (Ext.refl O H) (Kp.refl _) E (h _ _) True.intro
theorem ai (i:Int):cM K (tC (.int i)) (fC (.int i)):=u5 fun _ _=>.int i
theorem nH (b:Bool):cM K (tC (.bl b)) (fC (.bl b)):=u5 fun _ _=>.bl b
def aH (b:D->D->Option Rz) (fa fb:FE):FE:=fun st=>(fa st).bind fun x=>(fb x.2).bind fun y=>(cont y.2 x.1).bind fun d1=>(cont y.2 y.1).bind fun d2=>(b d1 d2).bind fun z=>some (mk z,y.2)
theorem ak (hr:RdOp K r b) (ha:cM K ta fa) (hb:cM K tb fb):cM K (ED r ta tb) (aH b fa fb):=by
 intro st σ H O Z Q E r' st' h q;refine bT h fun r1 st1 e1 h=>?_;refine bT h fun r2 st2 e2 h=>?_;refine bp h fun d1 e3 h=>?_;refine bp h fun d2 e4 h=>?_;refine bp h fun z e5 h=>?_;cases h;refine ha st σ H O Z _ E r1 st1 e1 fun v1 H1 O1 x1 k1 E1 rv1 w1=>?_;refine hb st1 σ H1 O1 Z _ E1 r2 st2 e2 fun v2 H2 O2 x2 k2 E2 rv2 w2=>?_;have b1:=(rv1.nf.ext x2 k2).ba E2 (by rw[jq];exact e3)
 refine hr (U O2 Z) H2 v1 v2 d1 d2 z _ E2.liv b1 (rv2.ba E2 e4) e5 fun v H3 s hres=>?_;obtain⟨E3,rv3⟩:=hres.rv E2 s;exact q v H3 O2 ((x1.trans x2).trans (Same.ext s)) (k1.trans k2) E3 rv3 (hres.fsh.back (x1.trans x2))
def JW (b:D->Option Rz) (fa:FE):FE:=fun st=>(fa st).bind fun x=>(cont x.2 x.1).bind fun d1=>(b d1).bind fun z=>some (mk z,x.2)
theorem HH (hr:HG K r b) (ha:cM K ta fa):cM K (JS r ta) (JW b fa):=by
 intro st σ H O Z Q E r' st' h q;refine bT h fun r1 st1 e1 h=>?_;refine bp h fun d1 e3 h=>?_;refine bp h fun z e5 h=>?_;cases h;refine ha st σ H O Z _ E r1 st1 e1 fun v1 H1 O1 x1 k1 E1 rv1 w1=>?_;refine hr (U O1 Z) H1 v1 d1 z _ E1.liv (rv1.ba E1 e3) e5 fun v H3 s hres=>?_;obtain⟨E3,rv3⟩:=hres.rv E1 s;exact q v H3 O1 (x1.trans (Same.ext s)) k1 E3 rv3 (hres.fsh.back x1)
def Fn (st:En) (r:Rs):Option Bool:=match cont st r with
 | some (.bl c)=>some c
 | _=>none
theorem wA (E:ER K st σ H O Z) (h:RVal K Z st σ H O v r) (t:Fn st r=some c):v=.bl c:=by
 unfold Fn at t;split at t
 ·rename_i b e
  cases t;exact h.ba E e
 ·cases t
def bc (fa:FE):FT:=fun st=>(fa st).bind fun x=>(Fn x.2 x.1).bind fun c=>some (c,x.2)
theorem bb (ha:cM K ta fa):oD K (Di ta) (bc fa):=by
 intro st σ H O Z Q E c st' h q;refine bT h fun r1 st1 e1 h=>?_;refine bp h fun c' e2 h=>?_;cases h;exact ha st σ H O Z _ E r1 st1 e1 fun v1 H1 O1 x1 k1 E1 rv1 w1=>⟨c,wA E1 rv1 e2,q H1 O1 x1 k1 E1⟩
theorem tF (ha:cM K ta fa):oD K (tB ta) (bc fa):=bb ha
def lY (f:FT):FT:=fun st=>(f st).bind fun x=>some (!x.1,x.2)
theorem lA (h:oD K t f):oD K (Hl t) (lY f):=by
 intro st σ H O Z Q E c st' e q;refine bT e fun c1 st1 e1 e=>?_;cases e;exact h st σ H O Z _ E c1 st1 e1 q
def nI (f g:FT):FT:=fun st=>(f st).bind fun x=>if x.1=true then g x.2 else some (false,x.2)
theorem zp (h:oD K t f) (h':oD K u g):oD K (Hk t u) (nI f g):=by
 intro st σ H O Z Q E c st' e q;refine bT e fun c1 st1 e1 e=>?_;refine h st σ H O Z _ E c1 st1 e1 fun H1 O1 x1 k1 E1=>?_;cases c1 with
 | true =>
  rw[Ae rfl]at e ⊢;exact h' st1 σ H1 O1 Z _ E1 c st' e fun H2 O2 x2 k2 E2=>q H2 O2 (x1.trans x2) (k1.trans k2) E2
 | false =>
  simp only[We,if_false]at e ⊢;cases e;exact q H1 O1 x1 k1 E1
def rR (f g:FT):FT:=fun st=>(f st).bind fun x=>if x.1=true then some (true,x.2) else g x.2
theorem oE (h:oD K t f) (h':oD K u g):oD K (JO t u) (rR f g):=by
 intro st σ H O Z Q E c st' e q;refine bT e fun c1 st1 e1 e=>?_;refine h st σ H O Z _ E c1 st1 e1 fun H1 O1 x1 k1 E1=>?_;cases c1 with
 | true =>
  rw[Ae rfl]at e ⊢;cases e;exact q H1 O1 x1 k1 E1
 | false =>
  simp only[We,if_false]at e ⊢;exact h' st1 σ H1 O1 Z _ E1 c st' e fun H2 O2 x2 k2 E2=>q H2 O2 (x1.trans x2) (k1.trans k2) E2
def fO:FT:=fun st=>some (true,st)
theorem fP:oD K HF fO:=by
 intro st σ H O Z Q E c st' e q;cases e;exact q H O (Ext.refl O H) (Kp.refl _) E
def tG (fa fb:FE):FE:=fun st=>(fa st).bind fun x=>(Fn x.2 x.1).bind fun c=>if c=true then fb x.2 else some (.d (.bl false),x.2)
theorem zq (ha:cM K ta fa) (hb:cM K tb fb):cM K (Dd ta tb) (tG fa fb):=by
 intro st σ H O Z Q E r st' h q;refine bT h fun r1 st1 e1 h=>?_;refine bp h fun c e2 h=>?_;refine ha st σ H O Z _ E r1 st1 e1 fun v1 H1 O1 x1 k1 E1 rv1 w1=>⟨c,wA E1 rv1 e2,?_⟩;cases c with
 | true =>
  rw[Ae rfl]at h ⊢;exact hb st1 σ H1 O1 Z _ E1 r st' h fun v H2 O2 x2 k2 E2 rv w2=>q v H2 O2 (x1.trans x2) (k1.trans k2) E2 rv (w2.back x1)
 | false =>
  rw[Af (by decide)]at h ⊢
  cases h;exact q _ H1 O1 x1 k1 E1 (.bl false) True.intro
def Ds (fa:FE):FE:=fun st=>(fa st).bind fun x=>(Fn x.2 x.1).bind fun c=>some (.d (.bl (!c)),x.2)
theorem zr (ha:cM K ta fa):cM K (De ta) (Ds fa):=by
 intro st σ H O Z Q E r st' h q;refine bT h fun r1 st1 e1 h=>?_;refine bp h fun c e2 h=>?_;cases h;exact ha st σ H O Z _ E r1 st1 e1 fun v1 H1 O1 x1 k1 E1 rv1 w1=>⟨c,wA E1 rv1 e2,q _ H1 O1 x1 k1 E1 (.bl _) True.intro⟩
def Fo (f:FT) (fa fb:FE):FE:=fun st=>(f st).bind fun x=>if x.1=true then fa x.2 else fb x.2
theorem Dt (h:oD K t f) (ha:cM K ta fa) (hb:cM K tb fb):cM K (JP t ta tb) (Fo f fa fb):=by
 intro st σ H O Z Q E r st' e q;refine bT e fun c1 st1 e1 e=>?_;refine h st σ H O Z _ E c1 st1 e1 fun H1 O1 x1 k1 E1=>?_;cases c1 with
 | true =>
  rw[Ae rfl]at e ⊢;exact ha st1 σ H1 O1 Z _ E1 r st' e fun v H2 O2 x2 k2 E2 rv w2=>q v H2 O2 (x1.trans x2) (k1.trans k2) E2 rv (w2.back x1)
 | false =>
  simp only[We,if_false]at e ⊢;exact hb st1 σ H1 O1 Z _ E1 r st' e fun v H2 O2 x2 k2 E2 rv w2=>q v H2 O2 (x1.trans x2) (k1.trans k2) E2 rv (w2.back x1)
def aq:FA:=fun st=>some ([],st)
theorem af:rQ K jY aq:=by
 intro st σ H O Z Q E rs st' e q;cases e;exact q [] H O (Ext.refl O H) (Kp.refl _) E .nil
def ad (fa:FE) (fr:FA):FA:=fun st=>(fa st).bind fun x=>(fr x.2).bind fun y=>some (x.1::y.1,y.2)
theorem aa (ha:cM K ta fa) (hr:rQ K tr fr):rQ K (cr ta tr) (ad fa fr):=by
 intro st σ H O Z Q E rs st' h q;refine bT h fun r1 st1 e1 h=>?_;refine bT h fun rs2 st2 e2 h=>?_;cases h;refine ha st σ H O Z _ E r1 st1 e1 fun v1 H1 O1 x1 k1 E1 rv1 w1=>?_;refine hr st1 σ H1 O1 Z _ E1 rs2 st2 e2 fun vs H2 O2 x2 k2 E2 rvs=>?_;exact q (v1::vs) H2 O2 (x1.trans x2) (k1.trans k2) E2 (.cons (rv1.nf.ext x2 k2) rvs)
theorem gn (h:n<=1000000):n<=sizeLine:=Ze h (by decide)
def gG (fa:FA):FE:=fun st=>(fa st).bind fun x=>(cm x.1 x.2).bind fun y=>if y.1.length<=1000000 then some (.d (.tup y.1),y.2) else none
theorem fQ (ha:rQ K ta fa):cM K (Hw ta) (gG fa):=by
 intro st σ H O Z Q E r st' h q;refine bT h fun rs st1 e1 h=>?_;refine bT h fun ds st2 e2 h=>?_;refine ha st σ H O Z _ E rs st1 e1 fun vs H1 O1 x1 k1 E1 rvs=>?_;obtain⟨O2,x2,k2,E2,el⟩:=rvs.esc E1 e2;obtain⟨hz,h⟩:=aC h;cases h;refine⟨by rw[el.1];exact gn hz,fun p hp=>?_⟩
 obtain⟨E3,rv⟩:=E2.newT hp el;exact q _ _ O2 ((x1.trans x2).trans (Same.ext (aG hp _))) (k1.trans k2) E3 rv True.intro
def eM (fa:FA):FE:=fun st=>(fa st).bind fun x=>(cm x.1 x.2).bind fun y=>if y.1.length<=1000000 then some (.f (.lst y.1),y.2) else none
theorem bY (ha:rQ K ta fa):cM K (v7 ta) (eM fa):=by
 intro st σ H O Z Q E r st' h q;refine bT h fun rs st1 e1 h=>?_;refine bT h fun ds st2 e2 h=>?_;refine ha st σ H O Z _ E rs st1 e1 fun vs H1 O1 x1 k1 E1 rvs=>?_;obtain⟨O2,x2,k2,E2,el⟩:=rvs.esc E1 e2;obtain⟨hz,h⟩:=aC h;cases h;refine⟨by rw[el.1];exact gn hz,fun p hp=>?_⟩
 obtain⟨E3,rv⟩:=E2.new hp el;exact q _ _ O2 ((x1.trans x2).trans (Same.ext (aG hp _))) (k1.trans k2) E3 rv fun p' e=>by cases e;exact(x1.trans x2).dead hp
def b8 (b:List D->Option Rz) (fa:FA):FE:=fun st=>(fa st).bind fun x=>(bW x.2 x.1).bind fun ds=>(b ds).bind fun z=>some (mk z,x.2)
theorem aO (hr:RdCB K r b) (ha:rQ K ta fa):cM K (Hy r ta) (b8 b fa):=by
 intro st σ H O Z Q E r0 st' h q;refine bT h fun rs st1 e1 h=>?_;refine bp h fun ds e2 h=>?_;refine bp h fun z e3 h=>?_;cases h;refine ha st σ H O Z _ E rs st1 e1 fun vs H1 O1 x1 k1 E1 rvs=>?_;refine hr (U O1 Z) H1 vs ds z _ E1.liv (rvs.bas E1 e2) e3 fun v H3 s hres=>?_;obtain⟨E3,rv3⟩:=hres.rv E1 s;exact q v H3 O1 (x1.trans (Same.ext s)) k1 E3 rv3 (hres.fsh.back x1)
end
end VF
namespace VF
open PySem L2
def D.isSc:D->Bool
 | .non=>true
 | .bl _=>true
 | .int _=>true
 | .str _=>true
 | .ty _=>true
 | _=>false
def lB (K:PySem.W.Frag) (g:List D->Option Rz):Sp:=fun vs H Q _=>∃(Z:AS) (ds:List D) (z:Rz),El K Z H vs ds/\(∀p,Z p->Lv H p)/\g ds=some z/\∀v H',Same H H'->RES K Z H H' v z->Q v H'
def Jx (K:PySem.W.Frag) (Y:AS) (f:Addr) (x':D) (H H':Hp) (v:V):Rz->Prop
 | (d,true)=>∃p,v=.ref p/\H p=none/\OA K (ins p Y) H' p d/\OA K (ins p Y) H' f x'
 | (d,false)=>DA K Y H' v d/\OA K Y H' f x'
def qd (K:PySem.W.Frag) (g:D->List D->Option (Rz×D)):Sp:=fun vs H Q _=>∃(f:Addr) (ws:List V) (Z:AS) (x:D) (ds:List D) (z:Rz) (x':D),vs=.ref f::ws/\¬ Z f/\OA K (ins f Z) H f x/\El K (ins f Z) H ws ds/\(∀p,Z p->Lv H p)/\g x ds=some (z,x') /\
 ∀v H',(∀b o,H b=some o->b≠f->H' b=some o)->Jx K (ins f Z) f x' H H' v z->Q v H'
section
variable {K:PySem.W.Frag} {Y Y' O O' O1 O2 Z:AS} {H H' H1 H2:Hp} {v:V} {d:D} {vs:List V} {ds:List D} {a p:Addr} {st st' st1 st2:En} {σ σ':St}
def cJ (g:List D->Option Rz) (fa:FA):FE:=fun st=>(fa st).bind fun x=>(cm x.1 x.2).bind fun y=>(g y.1).bind fun z=>some (mk z,y.2)
theorem bP (ha:rQ K ta fa):cM K (qb (lB K g) ta) (cJ g fa):=by
 intro st σ H O Z Q E r0 st' h q;refine bT h fun rs st1 e1 h=>?_;refine bT h fun ds st2 e2 h=>?_;refine bp h fun z e3 h=>?_;cases h;refine ha st σ H O Z _ E rs st1 e1 fun vs H1 O1 x1 k1 E1 rvs=>?_;obtain⟨O2,x2,k2,E2,el⟩:=rvs.esc E1 e2;refine⟨U O2 Z,ds,z,el,E2.liv,e3,fun v H3 s hres=>?_⟩;obtain⟨E3,rv3⟩:=hres.rv E2 s;exact q v H3 O2 ((x1.trans x2).trans (Same.ext s)) (k1.trans k2) E3 rv3 (hres.fsh.back (x1.trans x2))
theorem RVal.da0 (h:RVal K Z st σ H O v r) (E:ER K st σ H O Z) (c:cont st r=some d):DA K (fun _=>False) H v d:=by
 cases r with
 | d x=>cases c;exact DA.less (show DA K (U O Z) H v d from h) fun b z=>z.elim
 | f x=>cases c;exact DA.less (show DA K (U O Z) H v d from RVal.nf h) fun b z=>z.elim
 | s i =>
  obtain⟨h1,s,h2,h3⟩:=h;have c':(st[i]?).bind Sl.get=some d:=c;rw[h2]at c';cases s with
  | e=>cases c'
  | v x =>
   cases c';obtain⟨u,g1,g2⟩:=E.val i _ h2;rw[h1]at g1;cases g1;exact g2.less fun b z=>z.elim
  | o x =>
   cases c';obtain⟨p,g1,g2,g3⟩:=E.own i _ _ h2 rfl;rw[h1]at g1;cases g1;exact g3.da (fun z=>z) fun b z=>z.elim
  | io x =>
   cases c';obtain⟨p,g1,g2,g3⟩:=E.own i _ _ h2 rfl;rw[h1]at g1;cases g1;exact g3.da (fun z=>z) fun b z=>z.elim
theorem RVs.el0 (h:RVs K Z st σ H O vs rs) (E:ER K st σ H O Z):∀{ds:List D},bW st rs=some ds->El K (fun _=>False) H vs ds:=by
 induction h with
 | nil=>intro ds e;cases e;exact El.nil
 | @cons v vs r rs h1 _ ih =>
  intro ds e;refine bp e fun d e1 e=>?_;refine bp e fun ds' e2 e=>?_;cases e;exact El.cons (h1.da0 E (by rw[jq];exact e1)) (ih e2)
theorem DA.sc (h:DA K Y H v d) (s:d.isSc=true):DA K Y' H' v d:=by
 cases h with
 | non=>exact .non
 | bl b=>exact .bl b
 | int i=>exact .int i
 | str x=>exact .str x
 | ty n=>exact .ty n
 | _=>cases s
def dQ (g:List D->Option Rz) (fa:FA):FE:=fun st=>(fa st).bind fun x=>(bW x.2 x.1).bind fun ds=>(g ds).bind fun z=>if (z.1.isSc&&!z.2)=true then some (.d z.1,x.2) else none
theorem fm (ha:rQ K ta fa):cM K (qb (lB K g) ta) (dQ g fa):=by
 intro st σ H O Z Q E r0 st' h q;refine bT h fun rs st1 e1 h=>?_;refine bp h fun ds e2 h=>?_;refine bT h fun dz fr e3 h=>?_;obtain⟨hc,h⟩:=aC h;cases h;have h1:dz.isSc=true/\fr=false:=by simpa using hc
 obtain⟨h1,rfl⟩:=h1;refine ha st σ H O Z _ E rs _ e1 fun vs H1 O1 x1 k1 E1 rvs=>?_;refine⟨fun _=>False,ds,(dz,false),rvs.el0 E1 e2,fun p z=>z.elim,e3,fun v H3 s hres=>?_⟩;exact q v H3 O1 (x1.trans (Same.ext s)) k1 (E1.same s) (DA.sc (show DA K (fun _=>False) H3 v dz from hres) h1) True.intro
theorem qg {s:Sl} (E:ER K st σ H O Z) (hs:st[i]?=some s) (hx:s.ow=some x) (hv:σ[i]?=some (some v)) (el:El K (U O Z) H ws ds) (hg:g x ds=some (z,x'))
  (q:∀v H' O',Ext O H O' H'->Kp st (st.set i (s.put x'))->ER K (st.set i (s.put x')) σ H' O' Z->RVal K Z (st.set i (s.put x')) σ H' O' v (mk z)->Fsh H v (mk z)->Q v H'):qd K g (v::ws) H Q XE:=by
 obtain⟨p,g1,g2,g3⟩:=E.own i s x hs hx;have ev:v=.ref p:=by rw[hv]at g1;cases g1;rfl
 subst ev;have a1:∀b,ins p (fun b=>U O Z b/\b≠p) b->U O Z b:=fun b z=>z.elim (fun q=>by rw[q];exact .inl g2) fun q=>q.1
 have a2:∀b,U O Z b->ins p (fun b=>U O Z b/\b≠p) b:=fun b z=>by
  by_cases e:b=p
  ·exact .inl e
  ·exact .inr ⟨z,e⟩
 refine⟨p,ws,fun b=>U O Z b/\b≠p,x,ds,z,x',rfl,fun z=>z.2 rfl,g3.go rfl (fun _ _ e _=>e) (fun b z=>.inl (a1 b z)),el.less a1,fun b z=>E.liv b z.1,hg,fun u H' kp hres=>?_⟩;have ho:OA K (ins p fun b=>U O Z b/\b≠p) H' p x':=by
  obtain⟨dz,fr⟩:=z;cases fr with
  | false=>exact hres.2
  | true=>obtain⟨r,_,_,_,h⟩:=hres;exact h.go rfl (fun _ _ e _=>e) fun b z=>.inl (.inr z)
 have kp':∀b o,H b=some o->¬ U O Z b->H' b=some o:=fun b o e n=>kp b o e fun z=>n (by rw[z];exact .inl g2)
 have al:∀b,H b≠none->H' b≠none:=fun b hb=>by
  by_cases e:b=p
  ·rw[e];exact ho.live
  ·cases eb:H b with
   | none=>exact absurd eb hb
   | some o=>rw[kp b o eb e];simp
 have al':∀b,Lv H b->Lv H' b:=fun b hb=>by
  by_cases e:b=p
  ·rw[e];exact ho.lv
  ·exact hb.same fun o eb=>kp b o eb e
 have ex:Ext O H O H':=⟨fun b o e n=>kp b o e fun z=>n (by rw[z];exact g2),fun b z=>.inl z,al,al'⟩
 have ho':OA K (U O Z) H' p x':=ho.go rfl (fun _ _ e _=>e) fun b z=>.inl (a2 b z);have mkE:∀(O2:AS),(∀b,O b->O2 b)->(∀b,O2 b->O b∨H b=none)->(∀b,O2 b->¬ Z b)->(∀b,O2 b->Lv H' b)->OA K (U O2 Z) H' p x'->ER K (st.set i (s.put x')) σ H' O2 Z:=fun O2 up dn ds lv ho2=>by
  have nn:∀b,U O2 Z b->U O Z b∨H b=none:=fun b z=>z.elim (fun y=>(dn b y).elim (fun w=>.inl (.inl w)) .inr) fun y=>.inl (.inr y);refine⟨by simp[E.len],fun j d hj=>?_,fun j t d hj ht=>?_,fun j k t t' d d' r hj ht hk ht' e1 e2=>?_,ds,fun r hr=>hr.elim (lv r) fun y=>al' r (E.liv r (.inr y))⟩
  ·by_cases e:i=j
   ·subst e;rw[aM hs]at hj;exact absurd (Option.some.inj hj) (Sl.put_v _ _ _)
   ·rw[aj e]at hj;obtain⟨v,h1,h2⟩:=E.val j d hj;exact⟨v,h1,h2.go kp' nn⟩
  ·by_cases e:i=j
   ·subst e;rw[aM hs]at hj;have:=Option.some.inj hj;subst this;rw[Sl.put_ow]at ht;cases ht;exact⟨p,g1,up p g2,ho2⟩
   ·rw[aj e]at hj;obtain⟨r,h1,h2,h3⟩:=E.own j t d hj ht;have hne:r≠p:=fun z=>by subst z;exact e (E.uni i j s t x d r hs hx hj ht g1 h1)
    refine⟨r,h1,up r h2,h3.go ?_ kp' nn⟩;cases er:H r with
    | none=>exact absurd er h3.live
    | some o=>exact kp r o er hne
  ·have own':∀(m:Nat) (t:Sl) (d:D),(st.set i (s.put x'))[m]?=some t->t.ow=some d->∃t2 d2,st[m]?=some t2/\t2.ow=some d2:=fun m t d hm ht=>by
    by_cases e:i=m
    ·subst e;exact⟨s,x,hs,hx⟩
    ·rw[aj e]at hm;exact⟨t,d,hm,ht⟩
   obtain⟨t1,d1,a1,b1⟩:=own' j t d hj ht;obtain⟨t2,d2,a2,b2⟩:=own' k t' d' hk ht';exact E.uni j k t1 t2 d1 d2 r a1 b1 a2 b2 e1 e2
 have kk:Kp st (st.set i (s.put x')):=by
  refine⟨by simp,fun j t hj ht=>?_,fun j d hj=>?_⟩
  ·by_cases e:i=j
   ·subst e;exact⟨s.put x',aM hs,by cases s<;>simp[Sl.put,Sl.get]⟩
   ·exact⟨t,by rw[aj e];exact hj,ht⟩
  ·by_cases e:i=j
   ·subst e;rw[hs]at hj;cases hj;exact⟨x',aM hs⟩
   ·exact⟨d,by rw[aj e];exact hj⟩
 have E':=mkE O (fun _ z=>z) (fun _ z=>.inl z) E.dis (fun b z=>al' b (E.liv b (.inl z))) ho';refine q u H' O ex kk E' ?_ ?_
 rotate_left
 ·obtain⟨dz,fr⟩:=z;cases fr with
  | false=>trivial
  | true=>obtain⟨r,rfl,hr,_⟩:=hres;exact fun q e=>by cases e;exact hr
 obtain⟨dz,fr⟩:=z;cases fr with
 | false=>exact DA.less (show DA K _ H' u dz from hres.1) a2
 | true =>
  obtain⟨r,rfl,hr,hor,hof⟩:=hres;have hf:=E.free hr;have a3:∀b,ins r (U O Z) b->ins r (ins p fun b=>U O Z b/\b≠p) b:=fun b z=>z.elim .inl fun y=>.inr (a2 b y);refine⟨r,rfl,hf.1,hf.2,hor.go rfl (fun _ _ e _=>e) (fun b z=>.inl (a3 b z)),mkE (ins r O) (fun _ z=>.inr z) (fun b z=>z.elim (fun y=>.inr (by rw[y];exact hr)) .inl) (fun b z=>z.elim (fun y=>by rw[y];exact hf.2) (E.dis b)) (fun b z=>z.elim (fun y=>by rw[y];exact hor.lv) fun y=>al' b (E.liv b (.inl y))) ?_⟩
  exact hof.go rfl (fun _ _ e _=>e) fun b z=>.inl (a3 b (z.elim (fun y=>y.elim .inl fun w=>.inr (.inl w)) fun y=>.inr (.inr y)))
def pK (g:D->List D->Option (Rz×D)) (i:Nat) (fr:FA):FE:=fun st=>(st[i]?).bind fun s0=>(s0.ow).bind fun _=>(fr st).bind fun x=>(cm x.1 x.2).bind fun y=>(y.2[i]?).bind fun s=>(s.ow).bind fun d=>(g d y.1).bind fun z=>some (mk z.1,y.2.set i (s.put z.2))
theorem gp (hr:rQ K tr fr):cM K (qb (qd K g) (cr (jm i) tr)) (pK g i fr):=by
 intro st σ H O Z Q E r0 st' h q;refine bp h fun s0 f1 h=>?_;refine bp h fun x0 f2 h=>?_;refine bT h fun rs st1 e1 h=>?_;refine bT h fun ds st2 e2 h=>?_;refine bp h fun s e3 h=>?_;refine bp h fun x e4 h=>?_;refine bT h fun z x' e5 h=>?_;cases h;obtain⟨p,g1,_,_⟩:=E.own i s0 x0 f1 f2;refine⟨.ref p,g1,?_⟩;refine hr st σ H O Z _ E rs st1 e1 fun vs H1 O1 x1 k1 E1 rvs=>?_;obtain⟨O2,x2,k2,E2,el⟩:=rvs.esc E1 e2;exact qg E2 e3 e4 g1 el e5 fun v H' O' ex kk E' rv w=>q v H' O' ((x1.trans x2).trans ex) ((k1.trans k2).trans kk) E' rv (w.back (x1.trans x2))
end
end VF
namespace VF
open PySem L2
structure Kq (st:En) (σ:St) (st':En) (σ':St):Prop where
 len:st'.length=st.length
 io:∀(i:Nat) d,st[i]?=some (.io d)->σ'[i]?=σ[i]?/\∃d',st'[i]?=some (.io d')
theorem Kq.refl (st:En) (σ:St):Kq st σ st σ:=⟨rfl,fun i d h=>⟨rfl,d,h⟩⟩
theorem Kq.trans (h:Kq a x b y) (g:Kq b y c z):Kq a x c z:=by
 refine⟨g.len.trans h.len,fun i d e=>?_⟩;obtain⟨e1,d1,e2⟩:=h.io i d e;obtain⟨e3,d2,e4⟩:=g.io i d1 e2;exact⟨e3.trans e1,d2,e4⟩
theorem Kp.kq (k:Kp st st'):Kq st σ st' σ:=⟨k.len,fun i d h=>⟨rfl,k.io i d h⟩⟩
abbrev FG:=D->En->Option En
def G9 (K:PySem.W.Frag) (g:TG) (fg:FG) (tg:List Nat):Prop:=∀(st:En) (σ:St) (H:Hp) (O Z:AS) (x:V) (d:D) (Q:St->Hp->Prop),ER K st σ H O Z->DA K (U O Z) H x d->∀st',fg d st=some st' ->
 (∀σ',(∀j,j∉tg->σ'[j]?=σ[j]?/\st'[j]?=st[j]?)->Kq st σ st' σ'->ER K st' σ' H O Z->Q σ' H)->g x σ H Q
def Sl.isIo:Sl->Bool
 | .io _=>true
 | _=>false
def kc (i:Nat) (s:Sl) (st:En):Option En:=(st[i]?).bind fun t=>if t.isIo=true then none else some (st.set i s)
section
variable {K:PySem.W.Frag} {Y Y' O O' O1 O2 Z:AS} {H H' H1 H2:Hp} {v:V} {d:D} {vs:List V} {ds:List D} {a p:Addr} {st st' st1 st2:En} {σ σ':St}
theorem lC (h:kc i s st=some st'):∃t,st[i]?=some t/\t.isIo=false/\st'=st.set i s:=by grind [kc]
theorem oF {s t:Sl} (e:st[i]?=some t) (n:t.isIo=false):Kq st σ (st.set i s) (σ.set i w):=by
 refine⟨by simp,fun j d h=>?_⟩
 have q:i≠j:=fun z=>by subst z;rw[e]at h;cases h;cases n
 exact⟨aj q,d,by rw[aj q];exact h⟩
theorem ER.asg (E:ER K st σ H O Z) (e:st[i]?=some t) (h:DA K (U O Z) H v d):ER K (st.set i (.v d)) (σ.set i (some v)) H O Z:=by
 have hi:i<σ.length:=by rw[← E.len];exact(Vb.mp e).1
 have sg:(σ.set i (some v))[i]?=some (some v):=by rw[Wm,Ae rfl,Ae hi]
 have ne:∀(j:Nat) s x,(st.set i (.v d))[j]?=some s->s.ow=some x->i≠j/\st[j]?=some s:=fun j s x h1 h2=>by
  by_cases q:i=j
  ·subst q;rw[aM e]at h1;cases h1;cases h2
  ·exact⟨q,by rw[aj q]at h1;exact h1⟩
 refine⟨by simp[E.len],fun j x hj=>?_,fun j s x h1 h2=>?_,fun j k s s' x x' r h1 h2 h3 h4 h5 h6=>?_,E.dis,E.liv⟩
 ·by_cases q:i=j
  ·subst q;rw[aM e]at hj;cases hj;exact⟨v,sg,h⟩
  ·rw[aj q]at hj;obtain⟨w,g1,g2⟩:=E.val j x hj;exact⟨w,by rw[aj q];exact g1,g2⟩
 ·obtain⟨q,h1⟩:=ne j s x h1 h2;obtain⟨r,g1,g2⟩:=E.own j s x h1 h2;exact⟨r,by rw[aj q];exact g1,g2⟩
 ·obtain⟨q1,h1⟩:=ne j s x h1 h2;obtain⟨q2,h3⟩:=ne k s' x' h3 h4;rw[aj q1]at h5;rw[aj q2]at h6;exact E.uni j k s s' x x' r h1 h2 h3 h4 h5 h6
theorem ER.asgF (E0:ER K st σ H O Z) (E:ER K st σ H (ins p O) Z) (np:¬ O p) (e:st[i]?=some t) (h:OA K (ins p (U O Z)) H p x):ER K (st.set i (.o x)) (σ.set i (some (.ref p))) H (ins p O) Z:=by
 have hi:i<σ.length:=by rw[← E.len];exact(Vb.mp e).1
 have sg:(σ.set i (some (V.ref p)))[i]?=some (some (.ref p)):=by rw[Wm,Ae rfl,Ae hi]
 have fresh:∀(j:Nat) s y,st[j]?=some s->s.ow=some y->σ[j]?≠some (some (.ref p)):=fun j s y h1 h2 z=>by
  obtain⟨r,g1,g2,_⟩:=E0.own j s y h1 h2;rw[z]at g1;cases g1;exact np g2
 refine⟨by simp[E.len],fun j y hj=>?_,fun j s y h1 h2=>?_,fun j k s s' y y' r h1 h2 h3 h4 h5 h6=>?_,E.dis,E.liv⟩
 ·by_cases q:i=j
  ·subst q;rw[aM e]at hj;cases hj
  ·rw[aj q]at hj;obtain⟨w,g1,g2⟩:=E.val j y hj;exact⟨w,by rw[aj q];exact g1,g2⟩
 ·by_cases q:i=j
  ·subst q;rw[aM e]at h1;cases h1;cases h2;refine⟨p,sg,.inl rfl,h.go rfl (fun _ _ e _=>e) fun b z=>.inl ?_⟩;rcases z with(z|z)|z
   ·exact .inl z
   ·exact .inr (.inl z)
   ·exact .inr (.inr z)
  ·rw[aj q]at h1;obtain⟨r,g1,g2⟩:=E.own j s y h1 h2;exact⟨r,by rw[aj q];exact g1,g2⟩
 ·by_cases q1:i=j
  ·by_cases q2:i=k
   ·exact q1.symm.trans q2
   ·subst q1;rw[aj q2]at h3 h6;rw[sg]at h5;cases h5;exact absurd h6 (fresh k s' y' h3 h4)
  ·by_cases q2:i=k
   ·subst q2;rw[aj q1]at h1 h5;rw[sg]at h6;cases h6;exact absurd h5 (fresh j s y h1 h2)
   ·rw[aj q1]at h1 h5;rw[aj q2]at h3 h6;exact E.uni j k s s' y y' r h1 h2 h3 h4 h5 h6
def gN (i:Nat):FG:=fun d st=>kc i (.v d) st
theorem aQ (i:Nat):G9 K (kG i) (gN i) [i]:=by
 intro st σ H O Z x d Q E da st' h q;obtain⟨t,e,n,rfl⟩:=lC h;refine q (σ.set i (some x)) (fun j hj=>?_) (oF e n) (E.asg e da);have q:i≠j:=fun z=>hj (by rw[z];simp)
 exact⟨aj q,aj q⟩
def zt (K:PySem.W.Frag) (g:Df) (fg:List D->En->Option En) (tg:List Nat):Prop:=∀(st:En) (σ:St) (H:Hp) (O Z:AS) (xs:List V) (ds:List D) (Q:St->Hp->Prop),ER K st σ H O Z->El K (U O Z) H xs ds->∀st',fg ds st=some st' ->
 (∀σ',(∀j,j∉tg->σ'[j]?=σ[j]?/\st'[j]?=st[j]?)->Kq st σ st' σ'->ER K st' σ' H O Z->Q σ' H)->g xs σ H Q
def Du:List D->En->Option En:=fun ds st=>match ds with
 | []=>some st
 | _=>none
theorem oG:zt K Ho Du []:=by
 intro st σ H O Z xs ds Q E el st' h q;cases ds with
 | nil =>
  cases h;exact⟨el.unnil,q σ (fun j _=>⟨rfl,rfl⟩) (Kq.refl _ _) E⟩
 | cons d ds=>cases h
def rS (fg:FG) (fgs:List D->En->Option En):List D->En->Option En:=fun ds st=>match ds with
 | d::r=>(fg d st).bind fun st1=>fgs r st1
 | []=>none
theorem fq (h1:G9 K g fg t1) (h2:zt K gs fgs t2):zt K (Dg g gs) (rS fg fgs) (t1++t2):=by
 intro st σ H O Z xs ds Q E el st' h q;cases ds with
 | nil=>cases h
 | cons d ds =>
  refine bp h fun st1 e1 h=>?_;obtain⟨v,r,rfl,da,el⟩:=el.uncons;refine⟨v,r,rfl,h1 st σ H O Z v d _ E da st1 e1 fun σ1 k1 q1 E1=>?_⟩;refine h2 st1 σ1 H O Z r ds _ E1 el st' h fun σ2 k2 q2 E2=>q σ2 (fun j hj=>?_) (q1.trans q2) E2;have a:=k1 j fun z=>hj (Qm _ z);have b:=k2 j fun z=>hj (Yf _ z);exact⟨b.1.trans a.1,b.2.trans a.2⟩
def gT (n:Nat) (fgs:List D->En->Option En):FG:=fun d st=>match d with
 | .tup ds=>if ds.length=n then fgs ds st else none
 | _=>none
theorem rT (h:zt K gs fgs t):G9 K (Ez K n gs) (gT n fgs) t:=by
 intro st σ H O Z x d Q E da st' e q;cases d with
 | tup ds =>
  obtain⟨hn,e⟩:=aC e;cases da with
  | tup h1 h2 h3=>exact⟨_,_,rfl,h1.sq,h2.trans hn,h st σ H O Z _ ds Q E ⟨h2,h3⟩ st' e q⟩
 | _=>cases e
abbrev FI:=En->Option (List D×En)
def HI (K:PySem.W.Frag) (Z:AS) (J:It) (items:List D) (H:Hp) (O:AS):Prop:=∀H' O',Ext O H O' H'->(∀p,U O' Z p->Lv H' p)->(∀i,items.length<=i->J.stop i H')/\∀(i:Nat) d,items[i]?=some d->J.go i H'/\∀x H'',J.yld i H' x H''->Same H' H''/\DA K (U O' Z) H'' x d
def RdI (K:PySem.W.Frag) (wi:TI) (fi:FI):Prop:=∀(st:En) (σ:St) (H:Hp) (O Z:AS) (R:It->Hp->Prop),ER K st σ H O Z->∀items st',fi st=some (items,st') ->
 (∀J H' O',Ext O H O' H'->Kp st st'->ER K st' σ H' O' Z->HI K Z J items H' O'->R J H')->wi σ H R
def esc (r:Rs) (st:En):Option (D×En):=(cont st r).bind fun d=>(wz st r).bind fun st1=>some (d,st1)
theorem RVal.esc (h:RVal K Z st σ H O v r) (E:ER K st σ H O Z) (e:esc r st=some (d,st')):∃O',Ext O H O' H/\Kp st st'/\ER K st' σ H O' Z/\DA K (U O' Z) H v d:=by
 refine bp e fun x e1 e=>?_;refine bp e fun s1 e2 e=>?_;cases e;exact h.frz E e2 e1
def D.its:D->Option (List D)
 | .lst ds=>some ds
 | .fl ds=>some ds
 | _=>none
def D.itt:D->Option (List D)
 | .tup ds=>some ds
 | _=>none
def Ha (fe:FE):FI:=fun st=>(fe st).bind fun x=>(esc x.1 x.2).bind fun y=>(y.1.its).bind fun ds=>some (ds,y.2)
theorem zu (h:cM K te fe):RdI K (lQ K te) (Ha fe):=by
 intro st σ H O Z R E items st' e q;refine bT e fun r st1 e1 e=>?_;refine bT e fun d st2 e2 e=>?_;refine bp e fun ds e3 e=>?_;cases e;refine h st σ H O Z _ E r st1 e1 fun v H1 O1 x1 k1 E1 rv w1=>?_;obtain⟨O2,x2,k2,E2,da⟩:=rv.esc E1 e2;have fin:∀{a:Addr} {vs:List V},El K (U O2 Z) H1 vs items->(∀H' O',Ext O2 H1 O' H'->eY K H' a vs)->lQ K (fun _ H Q=>Q (.ref a) H) σ H1 R:=fun {a vs} el sq=>by
  refine⟨a,rfl,⟨vs,sq H1 O2 (Ext.refl _ _)⟩,q _ H1 O2 (x1.trans x2) (k1.trans k2) E2 fun H' O' ex _=>?_⟩;have g1:=sq H' O' ex;have el':=el.ext ex;have hl:=el.1;refine⟨fun i hi=>⟨vs,g1,by lia⟩,fun i d hd=>?_⟩
  obtain⟨v,hv,hdv⟩:=el'.at hd;refine⟨⟨vs,v,g1,hv⟩,fun x H'' hx=>?_⟩;obtain⟨rfl,hx⟩:=hx;have:=hx vs g1;rw[hv]at this;cases this;exact⟨Same.refl _,hdv⟩
 cases d with
 | lst ds' =>
  cases e3;cases da with
  | @lst a vs _ h0 h1 h2 h3=>exact fin ⟨h2,h3⟩ fun H' O' ex=>.inl (.inl (ex.kp a _ h1 fun z=>h0 (.inl z)))
 | fl ds' =>
  cases e3;cases da with
  | @fl a vs _ h1 h2 h3 =>
   refine fin ⟨h2,h3⟩ fun H' O' ex=>?_;rcases h1 with⟨h1,hn⟩|h1
   ·exact .inl (Rd.keep h1 fun o e=>ex.kp a o e fun z=>hn (.inl z))
   ·exact h1 H'
 | _=>cases e3
def Jf (fe:FE):FI:=fun st=>(fe st).bind fun x=>(esc x.1 x.2).bind fun y=>(y.1.itt).bind fun ds=>some (ds,y.2)
theorem Fp (h:cM K te fe):RdI K (EB K te) (Jf fe):=by
 intro st σ H O Z R E items st' e q;refine bT e fun r st1 e1 e=>?_;refine bT e fun d st2 e2 e=>?_;refine bp e fun ds e3 e=>?_;cases e;refine h st σ H O Z _ E r st1 e1 fun v H1 O1 x1 k1 E1 rv w1=>?_;obtain⟨O2,x2,k2,E2,da⟩:=rv.esc E1 e2;cases d with
 | tup ds' =>
  cases e3;cases da with
  | @tup a vs _ h1 h2 h3 =>
   refine⟨a,rfl,⟨vs,h1.sq⟩,q _ H1 O2 (x1.trans x2) (k1.trans k2) E2 fun H' O' ex _=>?_⟩;have da':=(DA.tup h1 h2 h3).ext ex;cases da' with
   | @tup _ ws _ g1 g2 g3 =>
    refine⟨fun i hi=>⟨ws,g1.sq,by lia⟩,fun i d hd=>?_⟩
    obtain⟨v,hv,hdv⟩:=El.at ⟨g2,g3⟩ hd;refine⟨⟨ws,v,g1.sq,hv⟩,fun x H'' hx=>?_⟩;obtain⟨rfl,hx⟩:=hx;have:=hx ws g1.sq;rw[hv]at this;cases this;exact⟨Same.refl _,hdv⟩
 | _=>cases e3
def rng (lo:Int) (n:Nat):List D:=(List.range n).map fun(i:Nat)=>D.int (lo+(i:Int))
theorem Fq (h:(rng lo n)[i]?=some d):i<n/\d=.int (lo+i):=by grind [rng]
theorem zv (lo:Int) (n:Nat):(rng lo n).length=n:=by simp[rng]
theorem wB:HI K Z (Jb lo n) (rng lo n) H O:=fun H' O' ex _=>by
 refine⟨fun i hi=>by rw[zv]at hi;exact hi,fun i d hd=>?_⟩
 obtain⟨h1,rfl⟩:=Fq hd;refine⟨h1,fun x H'' hx=>?_⟩;obtain⟨rfl,rfl⟩:=hx;exact⟨Same.refl _,.int _⟩
def rV:List D->Option Int
 | [.int j]=>some j
 | _=>none
def zw:List D->Option (Int×Int)
 | [.int i,.int j]=>some (i,j)
 | _=>none
def m5 (fa:FA):FI:=fun st=>(fa st).bind fun x=>(bW x.2 x.1).bind fun ds=>(rV ds).bind fun j=>if -(2 ^ 62)<=j/\j<2 ^ 62 then some (rng 0 j.toNat,x.2) else none
theorem ie (h:rQ K ta fa):RdI K (Dh ta) (m5 fa):=by
 intro st σ H O Z R E items st' e q;refine bT e fun rs st1 e1 e=>?_;refine bp e fun ds e2 e=>?_;refine bp e fun j e3 e=>?_;obtain⟨hc,e⟩:=aC e;cases e;refine h st σ H O Z _ E rs _ e1 fun vs H1 O1 x1 k1 E1 rvs=>?_;have bs:=rvs.bas E1 e2;have ed:ds=[.int j]:=by
  unfold rV at e3;split at e3
  ·cases e3;rfl
  ·cases e3
 subst ed;cases bs with
 | cons b1 b2 =>
  cases b2;obtain rfl:=(show _=V.int j from b1);exact⟨j,rfl,hc.1,hc.2,q _ H1 O1 x1 k1 E1 wB⟩
def qh (x:Str):List D:=x.cps.toList.map fun c=>D.str ⟨#[c]⟩
def JX (fe:FE):FI:=fun st=>(fe st).bind fun x=>match cont x.2 x.1 with
 | some (.str z)=>some (qh z,x.2)
 | _=>none
theorem Fr (h:cM K te fe):RdI K (Fh te) (JX fe):=by
 intro st σ H O Z R E items st' e q;refine bT e fun r st1 e1 e=>?_;refine h st σ H O Z _ E r st1 e1 fun v H1 O1 x1 k1 E1 rv w1=>?_;dsimp only at e;split at e
 ·rename_i z ez
  cases e;have ev:v=.str z:=rv.ba E1 ez;refine⟨z,ev,q _ H1 O1 x1 k1 E1 fun H' O' ex _=>⟨fun i hi=>?_,fun i d hd=>?_⟩⟩
  ·show z.cps.size<=i;simpa[qh]using hi
  ·unfold qh at hd;rw[Wb]at hd;obtain⟨c,hc,rfl⟩:=Xc.mp hd;have hc':z.cps[i]?=some c:=by simpa using hc
   refine⟨(Array.getElem?_eq_some_iff.mp hc').1,fun x H'' hx=>?_⟩;obtain⟨rfl,c',h1,rfl⟩:=hx;rw[hc']at h1;cases h1;exact⟨Same.refl _,.str _⟩
 ·cases e
inductive Ot where
 | nx (st:En)|rt (r:Rs) (st:En)|bk (st:En)|ct (st:En)
abbrev FS:=En->Option Ot
def Out (K:PySem.W.Frag) (Z O:AS) (H:Hp) (st:En) (σ:St) (Dn:Ends):Ot->Prop
 | .nx st'=>∀σ' H' O',Ext O H O' H'->Kq st σ st' σ'->ER K st' σ' H' O' Z->Dn.nx σ' H'
 | .rt r st'=>∀v σ' H' O',Ext O H O' H'->Kq st σ st' σ'->ER K st' σ' H' O' Z->RVal K Z st' σ' H' O' v r->Fsh H v r->Dn.rt v H'
 | .bk st'=>∀σ' H' O',Ext O H O' H'->Kq st σ st' σ'->ER K st' σ' H' O' Z->Dn.bk σ' H'
 | .ct st'=>∀σ' H' O',Ext O H O' H'->Kq st σ st' σ'->ER K st' σ' H' O' Z->Dn.ct σ' H'
def m6 (K:PySem.W.Frag) (ts:TS) (F:FS):Prop:=∀(st:En) (σ:St) (H:Hp) (O Z:AS) (Dn:Ends),ER K st σ H O Z->∀o,F st=some o->Out K Z O H st σ Dn o->ts Dn σ H
theorem Out.trans (h:Out K Z O H st σ Dn o) (x:Ext O H O1 H1) (k:Kq st σ st1 σ'):Out K Z O1 H1 st1 σ' Dn o:=by
 cases o with
 | nx s=>exact fun σ2 H2 O2 x2 k2 E2=>h σ2 H2 O2 (x.trans x2) (k.trans k2) E2
 | bk s=>exact fun σ2 H2 O2 x2 k2 E2=>h σ2 H2 O2 (x.trans x2) (k.trans k2) E2
 | ct s=>exact fun σ2 H2 O2 x2 k2 E2=>h σ2 H2 O2 (x.trans x2) (k.trans k2) E2
 | rt r s=>exact fun v σ2 H2 O2 x2 k2 E2 rv w=>h v σ2 H2 O2 (x.trans x2) (k.trans k2) E2 rv (w.back x)
def dC:FS:=fun st=>some (.nx st)
theorem cz:m6 K lN dC:=by
 intro st σ H O Z Dn E o e q;cases e;exact q σ H O (Ext.refl _ _) (Kq.refl _ _) E
def aL (F G:FS):FS:=fun st=>(F st).bind fun o=>match o with
 | .nx s=>G s
 | o=>some o
theorem ax (h1:m6 K t F) (h2:m6 K u G):m6 K (lO t u) (aL F G):=by
 intro st σ H O Z Dn E o e q;refine bp e fun o1 e1 e=>?_;refine h1 st σ H O Z _ E o1 e1 ?_;cases o1 with
 | nx s=>exact fun σ1 H1 O1 x1 k1 E1=>h2 s σ1 H1 O1 Z Dn E1 o e (q.trans x1 k1)
 | bk s=>cases e;exact q
 | ct s=>cases e;exact q
 | rt r s=>cases e;exact q
def fu (fe:FE):FS:=fun st=>(fe st).bind fun x=>some (.nx x.2)
theorem cV (h:cM K te fe):m6 K (vU te) (fu fe):=by
 intro st σ H O Z Dn E o e q;refine bT e fun r st1 e1 e=>?_;cases e;exact h st σ H O Z _ E r st1 e1 fun v H1 O1 x1 k1 E1 rv w1=>q σ H1 O1 x1 k1.kq E1
def cI (fe:FE):FS:=fun st=>(fe st).bind fun x=>some (.rt x.1 x.2)
theorem bz (h:cM K te fe):m6 K (Hm te) (cI fe):=by
 intro st σ H O Z Dn E o e q;refine bT e fun r st1 e1 e=>?_;cases e;exact h st σ H O Z _ E r st1 e1 fun v H1 O1 x1 k1 E1 rv w1=>q v σ H1 O1 x1 k1.kq E1 rv w1
def kW (f:FT) (F G:FS):FS:=fun st=>(f st).bind fun x=>if x.1=true then F x.2 else G x.2
theorem dR (hc:oD K c f) (h1:m6 K t F) (h2:m6 K u G):m6 K (rA c t u) (kW f F G):=by
 intro st σ H O Z Dn E o e q;refine bT e fun b st1 e1 e=>?_;refine hc st σ H O Z _ E b st1 e1 fun H1 O1 x1 k1 E1=>?_;cases b with
 | true =>
  rw[Ae rfl]at e ⊢;exact h1 st1 σ H1 O1 Z Dn E1 o e (q.trans x1 k1.kq)
 | false =>
  simp only[We,if_false]at e ⊢;exact h2 st1 σ H1 O1 Z Dn E1 o e (q.trans x1 k1.kq)
def bm (fe:FE) (i:Nat):FS:=fun st=>(fe st).bind fun x=>match x.1 with
 | .d y=>(kc i (.v y) x.2).bind fun s=>some (.nx s)
 | .f y=>(kc i (.o y) x.2).bind fun s=>some (.nx s)
 | .s j=>(esc (.s j) x.2).bind fun y=>(kc i (.v y.1) y.2).bind fun s=>some (.nx s)
theorem aE (h:cM K te fe):m6 K (uL te (kG i)) (bm fe i):=by
 intro st σ H O Z Dn E o e q;refine bT e fun r st1 e1 e=>?_;refine h st σ H O Z _ E r st1 e1 fun v H1 O1 x1 k1 E1 rv w1=>?_;show Dn.nx (σ.set i (some v)) H1;cases r with
 | d y =>
  refine bp e fun s e2 e=>?_;cases e;obtain⟨t,f1,f2,rfl⟩:=lC e2;exact q _ H1 O1 x1 (k1.kq.trans (oF f1 f2)) (E1.asg f1 rv)
 | f y =>
  refine bp e fun s e2 e=>?_;cases e;obtain⟨t,f1,f2,rfl⟩:=lC e2;obtain⟨p,rfl,np,nz,ho,E2⟩:=rv;have hp:H p=none:=w1 p rfl;exact q _ H1 (ins p O1) ⟨x1.kp,fun b z=>z.elim (fun y=>by rw[y];exact .inr hp) (x1.nw b),x1.al,x1.lv⟩ (k1.kq.trans (oF f1 f2)) (E1.asgF E2 np f1 ho)
 | s j =>
  refine bT e fun d st2 e2 e=>?_;refine bp e fun s e3 e=>?_;cases e;obtain⟨O2,x2,k2,E2,da⟩:=rv.esc E1 e2;obtain⟨t,f1,f2,rfl⟩:=lC e3;exact q _ H1 O2 (x1.trans x2) ((k1.kq.trans k2.kq).trans (oF f1 f2)) (E2.asg f1 da)
end
end VF
namespace VF
open PySem L2
section
variable {K:PySem.W.Frag} {Y Y' O O' O1 O2 Z:AS} {H H' H1 H2:Hp} {v:V} {d:D} {vs:List V} {ds:List D} {a p:Addr} {st st' st1 st2:En} {σ σ':St}
def dD (fg:FG) (B:FS):List D->FS
 | [],st=>some (.nx st)
 | x::r,st=>(fg x st).bind fun s1=>(B s1).bind fun o=>match o with
  | .nx s2=>dD fg B r s2
  | .ct s2=>dD fg B r s2
  | .bk s2=>some (.nx s2)
  | .rt y s2=>some (.rt y s2)
def gH (fi:FI) (fg:FG) (B:FS):FS:=fun st=>(fi st).bind fun x=>dD fg B x.1 x.2
theorem cA (hi:RdI K wi fi) (hg:G9 K g fg tg) (hb:m6 K tb B):m6 K (y9 wi g tb) (gH fi fg B):=by
 intro st σ H O Z Dn E o e q;refine bT e fun items st1 e1 e=>?_;refine hi st σ H O Z _ E items st1 e1 fun J H1 O1 x1 k1 E1 it=>?_;have q1:=q.trans x1 (k1.kq (σ:=σ));refine⟨fun i m σ' H'=>m=items.length-i/\i<=items.length/\∃s O',Ext O1 H1 O' H'/\Kq st1 σ s σ'/\ER K s σ' H' O' Z/\dD fg B (items.drop i) s=some o,⟨items.length,by simp,Wh _,st1,O1,Ext.refl _ _,Kq.refl _ _,E1,e⟩,?_⟩
 rintro i m σ' H' ⟨rfl,hle,s,O',x2,k2,E2,e2⟩;obtain⟨stop,go⟩:=it H' O' x2 E2.liv;by_cases hlt:i<items.length
 ·right;have hd:items.drop i=items[i]::items.drop (i+1):=Vj hlt;rw[hd]at e2;refine bp e2 fun s1 e3 e2=>?_;refine bp e2 fun o1 e4 e2=>?_;obtain⟨g1,g2⟩:=go i _ (Za hlt);refine⟨g1,fun σ3 H3=>∃s O3,Ext O1 H1 O3 H3/\Kq st1 σ s σ3/\ER K s σ3 H3 O3 Z/\dD fg B (items.drop (i+1)) s=some o,fun σ3 H3 ⟨s3,O3,x3,k3,E3,e3'⟩=>⟨items.length-(i+1),by lia,rfl,hlt,s3,O3,x3,k3,E3,e3'⟩,fun x H'' hy=>?_⟩
  obtain⟨sm,da⟩:=g2 x H'' hy;have xm:Ext O' H' O' H'':=Same.ext sm;refine hg s σ' H'' O' Z x _ _ (E2.same sm) da s1 e3 fun σ4 _ k4 E4=>?_;refine hb s1 σ4 H'' O' Z _ E4 o1 e4 ?_;have xx:=x2.trans xm;cases o1 with
  | nx s2=>exact fun σ5 H5 O5 x5 k5 E5=>⟨s2,O5,xx.trans x5,(k2.trans k4).trans k5,E5,e2⟩
  | ct s2=>exact fun σ5 H5 O5 x5 k5 E5=>⟨s2,O5,xx.trans x5,(k2.trans k4).trans k5,E5,e2⟩
  | bk s2 =>
   cases e2;exact fun σ5 H5 O5 x5 k5 E5=>q1 σ5 H5 O5 (xx.trans x5) ((k2.trans k4).trans k5) E5
  | rt y s2 =>
   cases e2;exact fun v σ5 H5 O5 x5 k5 E5 rv w=>q1 v σ5 H5 O5 (xx.trans x5) ((k2.trans k4).trans k5) E5 rv (w.back xx)
 ·left;have hn:items.drop i=[]:=Ck (by lia)
  rw[hn]at e2;cases e2;exact⟨stop i (by lia),q1 σ' H' O' x2 k2 E2⟩
def vM (f:FT) (B:FS):Nat->FS
 | 0,_=>none
 | n+1,st=>(f st).bind fun x=>if x.1=true then(B x.2).bind fun o=>match o with
   | .nx s2=>vM f B n s2
   | .ct s2=>vM f B n s2
   | .bk s2=>some (.nx s2)
   | .rt y s2=>some (.rt y s2)
  else some (.nx x.2)
theorem qi (n:Nat) (hc:oD K c f) (hb:m6 K tb B):m6 K (vW c tb) (vM f B n):=by
 intro st σ H O Z Dn E o e q;refine⟨fun m σ' H'=>∃s O',Ext O H O' H'/\Kq st σ s σ'/\ER K s σ' H' O' Z/\vM f B m s=some o,⟨n,st,O,Ext.refl _ _,Kq.refl _ _,E,e⟩,?_⟩;rintro m σ' H' ⟨s,O',x2,k2,E2,e2⟩;cases m with
 | zero=>cases e2
 | succ m =>
  refine bT e2 fun b s1 e3 e2=>?_;refine hc s σ' H' O' Z _ E2 b s1 e3 fun H3 O3 x3 k3 E3=>?_;have xx:=x2.trans x3;have kk:=k2.trans (k3.kq (σ:=σ'));cases b with
  | false =>
   simp only[We,if_false]at e2 ⊢;cases e2;exact q σ' H3 O3 xx kk E3
  | true =>
   rw[Ae rfl]at e2 ⊢;refine bp e2 fun o1 e4 e2=>?_;refine⟨fun σ5 H5=>∃s O5,Ext O H O5 H5/\Kq st σ s σ5/\ER K s σ5 H5 O5 Z/\vM f B m s=some o,fun σ5 H5 h=>⟨m,Nat.lt_succ_self _,h⟩,?_⟩;refine hb s1 σ' H3 O3 Z _ E3 o1 e4 ?_;cases o1 with
   | nx s2=>exact fun σ5 H5 O5 x5 k5 E5=>⟨s2,O5,xx.trans x5,kk.trans k5,E5,e2⟩
   | ct s2=>exact fun σ5 H5 O5 x5 k5 E5=>⟨s2,O5,xx.trans x5,kk.trans k5,E5,e2⟩
   | bk s2 =>
    cases e2;exact fun σ5 H5 O5 x5 k5 E5=>q σ5 H5 O5 (xx.trans x5) (kk.trans k5) E5
   | rt y s2 =>
    cases e2;exact fun v σ5 H5 O5 x5 k5 E5 rv w=>q v σ5 H5 O5 (xx.trans x5) (kk.trans k5) E5 rv (w.back xx)
structure RdM (K:PySem.W.Frag) (T:String) (r:V->List V->Hp->VK->Prop) (ok:D->Bool) (m:D->List D->Option (D×D)):Prop where
 ty:∀(Y:AS) (H:Hp) (p:Addr) (x:D),OA K Y H p x->ok x=true->G8 K T (.ref p) H
 run:∀(Y:AS) (H:Hp) (p:Addr) (x:D) (vs:List V) (ds:List D) (y x':D) (Q:VK),Y p->OA K Y H p x->El K Y H vs ds->m x ds=some (y,x') ->
  (∀v o,DA K Y (upd H p o) v y->OA K Y (upd H p o) p x'->Q v (upd H p o))->r (.ref p) vs H Q
def fM (ok:D->Bool) (m:D->List D->Option (D×D)) (i:Nat) (fa:FA):FE:=fun st=>(st[i]?).bind fun s0=>(s0.ow).bind fun x0=>if ok x0=true then(fa st).bind fun x=>(cm x.1 x.2).bind fun y=>(y.2[i]?).bind fun s=>(s.ow).bind fun d=>(m d y.1).bind fun z=>some (.d z.1,y.2.set i (s.put z.2)) else none
theorem lZ (hm:RdM K T r ok m) (ha:rQ K ta fa):cM K (JV K T r (jm i) ta) (fM ok m i fa):=by
 intro st σ H O Z Q E r0 st' h q;refine bp h fun s0 f1 h=>?_;refine bp h fun x0 f2 h=>?_;obtain⟨hok,h⟩:=aC h;refine bT h fun rs st1 e1 h=>?_;refine bT h fun ds st2 e2 h=>?_;refine bp h fun s e3 h=>?_;refine bp h fun x e4 h=>?_;refine bT h fun y x' e5 h=>?_;cases h;obtain⟨p,g1,g2,g3⟩:=E.own i s0 x0 f1 f2;refine⟨.ref p,g1,hm.ty _ _ _ _ g3 hok,?_⟩;refine ha st σ H O Z _ E rs st1 e1 fun vs H1 O1 x1 k1 E1 rvs=>?_;obtain⟨O2,x2,k2,E2,el⟩:=rvs.esc E1 e2;obtain⟨p',j1,j2,j3⟩:=E2.own i s x e3 e4;have ep:p'=p:=by rw[g1]at j1;cases j1;rfl
 subst ep;refine hm.run (U O2 Z) H1 p' x vs ds y x' _ (.inl j2) j3 el e5 fun v o da ho=>?_;obtain⟨E3,x3,k3⟩:=E2.write e3 e4 g1 ho;exact q v _ O2 ((x1.trans x2).trans x3) ((k1.trans k2).trans k3) E3 da True.intro
def Jg (ok:D->Bool) (m:D->List D->Option (D×D)) (i:Nat):FE:=fun st=>(st[i]?).bind fun s=>(s.ow).bind fun x=>if ok x=true then(m x []).bind fun z=>some (.d z.1,st.set i (s.put z.2)) else none
theorem HJ (hm:RdM K T r ok m):cM K (E8 K T r (jm i)) (Jg ok m i):=by
 intro st σ H O Z Q E r0 st' h q;refine bp h fun s e3 h=>?_;refine bp h fun x e4 h=>?_;obtain⟨hok,h⟩:=aC h;refine bT h fun y x' e5 h=>?_;cases h;obtain⟨p,g1,g2,g3⟩:=E.own i s x e3 e4;refine⟨.ref p,g1,hm.ty _ _ _ _ g3 hok,?_⟩;refine hm.run (U O Z) H p x [] [] y x' _ (.inl g2) g3 El.nil e5 fun v o da ho=>?_;obtain⟨E3,x3,k3⟩:=E.write e3 e4 g1 ho;exact q v _ O x3 k3 E3 da True.intro
def wC (K:PySem.W.Frag) (t:vV) (m:D->D->D->Option D):Prop:=∀(Y:AS) (H:Hp) (p:Addr) (x:D) (k v:V) (dk dv x':D) (Q:Hp->Prop),Y p->OA K Y H p x->BA K Y H k dk->DA K Y H v dv->m x dk dv=some x' ->
 (∀o,OA K Y (upd H p o) p x'->Q (upd H p o))->t (.ref p) k v H Q
def iY (m:D->D->D->Option D) (fe:FE) (i:Nat) (fi:FE):FS:=fun st=>(fe st).bind fun x=>(esc x.1 x.2).bind fun y=>(y.2[i]?).bind fun s0=>(s0.ow).bind fun _=>(fi y.2).bind fun w=>(cont w.2 w.1).bind fun dk=>(w.2[i]?).bind fun s=>(s.ow).bind fun z=>(m z dk y.1).bind fun z'=>some (.nx (w.2.set i (s.put z')))
theorem eO (hm:wC K t m) (he:cM K te fe) (hi:cM K ti fi):m6 K (uL te (Hq (jm i) ti t)) (iY m fe i fi):=by
 intro st σ H O Z Dn E o e q;refine bT e fun r st1 e1 e=>?_;refine bT e fun dv st2 e2 e=>?_;refine bp e fun s0 e3 e=>?_;refine bp e fun x0 e4 e=>?_;refine bT e fun rk st3 e5 e=>?_;refine bp e fun dk e6 e=>?_;refine bp e fun s e7 e=>?_;refine bp e fun x e8 e=>?_;refine bp e fun x' e9 e=>?_;cases e;refine he st σ H O Z _ E r st1 e1 fun v H1 O1 x1 k1 E1 rv w1=>?_;obtain⟨O2,x2,k2,E2,da⟩:=rv.esc E1 e2;obtain⟨p,g1,g2,g3⟩:=E2.own i s0 x0 e3 e4;refine⟨.ref p,g1,?_⟩;refine hi st2 σ H1 O2 Z _ E2 rk st3 e5 fun k H3 O3 x3 k3 E3 rk' w3=>?_;obtain⟨p',j1,j2,j3⟩:=E3.own i s x e7 e8;have ep:p'=p:=by rw[g1]at j1;cases j1;rfl
 subst ep;refine hm (U O3 Z) H3 p' x k v dk dv x' _ (.inl j2) j3 (rk'.ba E3 e6) (da.ext x3) e9 fun o ho=>?_;obtain⟨E4,x4,k4⟩:=E3.write e7 e8 g1 ho;exact q σ _ O3 (((x1.trans x2).trans x3).trans x4) (((k1.trans k2).trans k3).trans k4).kq E4
def iw (k:Nat) (caps:List Nat) (st:En):En:=List.replicate k Sl.e++caps.map fun i=>(st[i]?).getD .e
def rf (k:Nat) (s:En):En:=List.replicate k Sl.e++s.drop k
def wb:List Nat->En->En->En
 | i::r,s::sb,st=>wb r sb (st.set i s)
 | _,_,st=>st
def fv (fg:FG) (fc:FT) (fe:FE) (k:Nat):List D->En->Option (List D×En)
 | [],sb=>some ([],sb)
 | x::r,sb=>(fg x sb).bind fun s1=>(fc s1).bind fun c=>if c.1=true then(fe c.2).bind fun y=>(esc y.1 y.2).bind fun w=>(fv fg fc fe k r (rf k w.2)).bind fun z=>some (w.1::z.1,z.2)
  else fv fg fc fe k r (rf k c.2)
def oH (caps:List Nat) (n:Nat):Bool:=decide caps.Nodup&&caps.all fun i=>decide (i<n)
def dS (k:Nat) (caps:List Nat) (fi:FI) (fg:FG) (fc:FT) (fe:FE):FE:=fun st=>(fi st).bind fun x=>if (oH caps x.2.length&&decide (x.1.length<=1000000))=true then(fv fg fc fe k x.1 (iw k caps x.2)).bind fun y=>some (.f (.lst y.1),wb caps (y.2.drop k) x.2) else none
theorem rW:∀(caps:List Nat) (sb st:En),(wb caps sb st).length=st.length
 | [],_,_=>by simp[wb]
 | _::_,[],_=>by simp[wb]
 | i::r,s::sb,st=>by rw[wb,rW r sb];simp
theorem ma:∀(caps:List Nat) (sb st:En) {i:Nat},i∉caps->(wb caps sb st)[i]?=st[i]?
 | [],_,_,_,_=>by simp[wb]
 | _::_,[],_,_,_=>by simp[wb]
 | j::r,s::sb,st,i,h=>by
  rw[wb,ma r sb _ (fun z=>h (Yc _ z))];exact aj fun z=>h (by rw[z];simp)
theorem wD:∀(caps:List Nat) (sb st:En) {j i:Nat},caps.Nodup->sb.length=caps.length->caps[j]?=some i->i<st.length->(wb caps sb st)[i]?=sb[j]?
 | [],_,_,_,_,_,_,h,_=>by simp at h
 | _::_,[],_,_,_,_,h,_,_=>by simp at h
 | c::r,s::sb,st,0,i,nd,hl,h,hi=>by
  have e:c=i:=by simpa using h
  subst e;rw[wb,ma r sb _ (Vg.mp nd).1];rw[Wm,Ae rfl,Ae hi];rfl
 | c::r,s::sb,st,j+1,i,nd,hl,h,hi=>by
  rw[wb,wD r sb _ (j:=j) (Vg.mp nd).2 (by simpa using hl) (by simpa using h) (by simpa using hi)];rfl
theorem tH (h:caps[j]?=some i):(iw k caps st)[k+j]?=some ((st[i]?).getD .e):=by grind [iw]
theorem ju {s:Sl} (h:(iw k caps st)[i]?=some s) (n:s.get≠none):∃j i',i=k+j/\caps[j]?=some i'/\st[i']?=some s:=by
 unfold iw at h;by_cases hi:i<k
 ·rw[Wj (by simpa using hi),Ql,Ae hi]at h
  cases h;exact absurd rfl n
 ·rw[Vh (by simpa using hi),Vm,Wb]at h
  refine⟨i-k,?_⟩;obtain⟨i',e1,e2⟩:=Xc.mp h;refine⟨i',by lia,e1,?_⟩
  cases q:st[i']? with
  | none=>rw[q]at e2;subst e2;exact absurd rfl n
  | some t=>rw[q]at e2;subst e2;rfl
theorem iZ (h:caps[j]?=some i):(blk k caps σ)[k+j]?=some ((σ[i]?).getD none):=by grind [blk]
theorem gI {s:Sl} (h:s.ow=some d):s.get≠none:=by cases s<;>first|(cases h;done)|simp[Sl.get]
theorem wE {l:List Nat} {j j' i:Nat} (nd:l.Nodup) (h:l[j]?=some i) (h':l[j']?=some i):j=j':=by
 obtain⟨h1,h2⟩:=Vb.mp h;obtain⟨h3,h4⟩:=Vb.mp h';exact(BW nd).mp (h2.trans h4.symm)
def Ob (caps:List Nat) (st:En) (σ:St):AS:=fun p=>∃i∈caps,∃s d,st[i]?=some s/\s.ow=some d/\σ[i]?=some (some (.ref p))
def Zb (caps:List Nat) (st:En) (σ:St) (O Z:AS):AS:=fun p=>Z p∨(O p/\¬ Ob caps st σ p)
theorem Ob.o (E:ER K st σ H O Z) (h:Ob caps st σ q):O q:=by
 obtain⟨i,_,s,d,h1,h2,h3⟩:=h;obtain⟨p,g1,g2,_⟩:=E.own i s d h1 h2;rw[h3]at g1;cases g1;exact g2
theorem Fs {k:Nat} {caps:List Nat} (E:ER K st σ H O Z) (nd:caps.Nodup):ER K (iw k caps st) (blk k caps σ) H (Ob caps st σ) (Zb caps st σ O Z):=by
 have up:∀b,U (Ob caps st σ) (Zb caps st σ O Z) b->U O Z b:=fun b z=>z.elim (fun y=>.inl (Ob.o E y)) fun y=>y.elim .inr fun w=>.inl w.1;refine⟨by simp[iw,blk],fun i d h=>?_,fun i s d h1 h2=>?_,fun i j s t d d' p h1 h2 h3 h4 h5 h6=>?_,fun p h z=>?_,fun p h=>E.liv p (up p h)⟩
 ·obtain⟨j,i',rfl,hc,hs⟩:=ju h (by simp[Sl.get])
  obtain⟨v,g1,g2⟩:=E.val i' d hs;exact⟨v,by rw[iZ hc,g1];rfl,g2.less up⟩
 ·obtain⟨j,i',rfl,hc,hs⟩:=ju h1 (gI h2);obtain⟨p,g1,g2,g3⟩:=E.own i' s d hs h2;exact⟨p,by rw[iZ hc,g1];rfl,⟨i',Xb hc,s,d,hs,h2,g1⟩,g3.go rfl (fun _ _ e _=>e) fun b z=>.inl (up b z)⟩
 ·obtain⟨j1,i1,rfl,c1,s1⟩:=ju h1 (gI h2);obtain⟨j2,i2,rfl,c2,s2⟩:=ju h3 (gI h4);obtain⟨p1,g1,_⟩:=E.own i1 s d s1 h2;obtain⟨p2,g2,_⟩:=E.own i2 t d' s2 h4;rw[iZ c1,g1]at h5;rw[iZ c2,g2]at h6;have e1:p1=p:=by simpa using h5
  have e2:p2=p:=by simpa using h6
  subst e1;subst e2;have e:=E.uni i1 i2 s t d d' _ s1 h2 s2 h4 g1 g2;subst e;rw[wE nd c1 c2]
 ·rcases z with z|z
  ·exact E.dis p (Ob.o E h) z
  ·exact z.2 h
theorem wF {τ τ':St} (E:ER K st τ H O Z) (hl:τ'.length=τ.length) (hk:k<=st.length) (h:∀j,k<=j->τ'[j]?=τ[j]?):ER K (rf k st) τ' H O Z:=by
 have at_:∀(i:Nat) s,(rf k st)[i]?=some s->s.get≠none->k<=i/\st[i]?=some s:=fun i s e n=>by
  unfold rf at e;by_cases hi:i<k
  ·rw[Wj (by simpa using hi),Ql,Ae hi]at e
   cases e;exact absurd rfl n
  ·rw[Vh (by simpa using hi),Vm,Qg]at e
   have:k+(i-k)=i:=by lia
   rw[this]at e;exact⟨by lia,e⟩
 refine⟨?_,fun i d e=>?_,fun i s d e1 e2=>?_,fun i j s t d d' p e1 e2 e3 e4 e5 e6=>?_,E.dis,E.liv⟩
 ·rw[hl,← E.len];simp[rf];lia
 ·obtain⟨hk,e⟩:=at_ i _ e (by simp[Sl.get])
  obtain⟨v,g1,g2⟩:=E.val i d e;exact⟨v,by rw[h i hk];exact g1,g2⟩
 ·obtain⟨hk,e⟩:=at_ i _ e1 (gI e2);obtain⟨p,g1,g2⟩:=E.own i s d e e2;exact⟨p,by rw[h i hk];exact g1,g2⟩
 ·obtain⟨hk1,e1⟩:=at_ i _ e1 (gI e2);obtain⟨hk2,e3⟩:=at_ j _ e3 (gI e4);rw[h i hk1]at e5;rw[h j hk2]at e6;exact E.uni i j s t d d' p e1 e2 e3 e4 e5 e6
def Oo (caps:List Nat) (st:En) (σ:St) (O Oi:AS):AS:=fun p=>Oi p∨(O p/\¬ Ob caps st σ p)
theorem rX (E:ER K st σ H O Z) (x:Ext (Ob caps st σ) H Oi H'):Ext O H (Oo caps st σ O Oi) H' :=
 ⟨fun b o e n=>x.kp b o e fun z=>n (Ob.o E z),fun b z=>z.elim (fun y=>(x.nw b y).elim (fun w=>.inl (Ob.o E w)) .inr) fun y=>.inl y.1,x.al,x.lv⟩
theorem wG {caps:List Nat} {sb:En} (E:ER K st σ H O Z) (nd:caps.Nodup) (lt:∀i∈caps,i<st.length) (hl:sb.length=k+caps.length) (x:Ext (Ob caps st σ) H Oi H') (B:ER K sb (blk k caps σ) H' Oi (Zb caps st σ O Z)) :
  ER K (wb caps (sb.drop k) st) σ H' (Oo caps st σ O Oi) Z:=by
 have dl:(sb.drop k).length=caps.length:=by rw[Zn];lia
 have cap:∀(j i:Nat),caps[j]?=some i->(wb caps (sb.drop k) st)[i]?=sb[k+j]?:=fun j i h=>by
  rw[wD caps _ st nd dl h (lt i (Xb h)),Qg]
 have out:∀i,i∉caps->(wb caps (sb.drop k) st)[i]?=st[i]?:=fun i h=>ma caps _ st h;have same:∀b,U (Oo caps st σ O Oi) Z b->U Oi (Zb caps st σ O Z) b:=fun b z=>by
  rcases z with(z|z)|z
  ·exact .inl z
  ·exact .inr (.inr z)
  ·exact .inr (.inl z)
 have kp:∀b o,H b=some o->¬ U O Z b->H' b=some o:=fun b o e n=>x.kp b o e fun z=>n (.inl (Ob.o E z));have nn:∀b,U (Oo caps st σ O Oi) Z b->U O Z b∨H b=none:=fun b z=>by
  rcases z with z|z
  ·exact((rX E x).nw b z).elim (fun y=>.inl (.inl y)) .inr
  ·exact .inl (.inr z)
 have nob:∀(i:Nat) s d p,i∉caps->st[i]?=some s->s.ow=some d->σ[i]?=some (some (.ref p))->¬ Ob caps st σ p:=fun i s d p hn h1 h2 h3 z=>by
  obtain⟨i0,hm,s0,d0,g1,g2,g3⟩:=z;have:=E.uni i i0 s s0 d d0 p h1 h2 g1 g2 h3 g3;subst this;exact hn hm
 have bget:∀{j i:Nat} {v:V},caps[j]?=some i->(blk k caps σ)[k+j]?=some (some v)->σ[i]?=some (some v):=fun {j i v} hc hb=>by
  rw[iZ hc]at hb;have hb':=Option.some.inj hb;cases q:σ[i]? with
  | none=>rw[q]at hb';cases hb'
  | some w=>rw[q]at hb';have:w=some v:=hb';rw[this]
 have own:∀(i:Nat) s d,(wb caps (sb.drop k) st)[i]?=some s->s.ow=some d->(∃j,caps[j]?=some i/\sb[k+j]?=some s)∨(i∉caps/\st[i]?=some s):=fun i s d h1 _=>by
  by_cases hc:i∈caps
  ·obtain⟨j,hj⟩:=Xn hc;rw[cap j i hj]at h1;exact .inl ⟨j,hj,h1⟩
  ·rw[out i hc]at h1;exact .inr ⟨hc,h1⟩
 refine⟨by rw[rW];exact E.len,fun i d h=>?_,fun i s d h1 h2=>?_,fun i j s t d d' p h1 h2 h3 h4 h5 h6=>?_,fun p h=>?_,fun p h=>?_⟩
 ·by_cases hc:i∈caps
  ·obtain⟨j,hj⟩:=Xn hc;rw[cap j i hj]at h;obtain⟨v,g1,g2⟩:=B.val _ d h;exact⟨v,bget hj g1,g2.less same⟩
  ·rw[out i hc]at h;obtain⟨v,g1,g2⟩:=E.val i d h;exact⟨v,g1,g2.go kp nn⟩
 ·rcases own i s d h1 h2 with⟨j,hj,hs⟩|⟨hc,hs⟩
  ·obtain⟨p,g1,g2,g3⟩:=B.own _ s d hs h2;exact⟨p,bget hj g1,.inl g2,g3.go rfl (fun _ _ e _=>e) fun b z=>.inl (same b z)⟩
  ·obtain⟨p,g1,g2,g3⟩:=E.own i s d hs h2;have nb:=nob i s d p hc hs h2 g1;refine⟨p,g1,.inr ⟨g2,nb⟩,g3.go ?_ kp nn⟩;cases q:H p with
   | none=>exact absurd q g3.live
   | some o=>exact x.kp p o q nb
 ·rcases own i s d h1 h2 with⟨j1,c1,s1⟩|⟨c1,s1⟩<;>rcases own j t d' h3 h4 with⟨j2,c2,s2⟩|⟨c2,s2⟩
  ·have e:=B.uni _ _ s t d d' p s1 h2 s2 h4 (by rw[iZ c1,h5];rfl) (by rw[iZ c2,h6];rfl)
   have e':j1=j2:=by lia
   subst e';rw[c1]at c2;exact Option.some.inj c2
  ·exfalso
   obtain⟨q,g1,g2,_⟩:=B.own _ s d s1 h2;have:=bget c1 g1;rw[h5]at this;cases this;have nb:=nob j t d' p c2 s2 h4 h6;obtain⟨q2,k1,_,k3⟩:=E.own j t d' s2 h4;rw[h6]at k1;cases k1;exact(x.nw p g2).elim nb k3.live
  ·exfalso
   obtain⟨q,g1,g2,_⟩:=B.own _ t d' s2 h4;have:=bget c2 g1;rw[h6]at this;cases this;have nb:=nob i s d p c1 s1 h2 h5;obtain⟨q2,k1,_,k3⟩:=E.own i s d s1 h2;rw[h5]at k1;cases k1;exact(x.nw p g2).elim nb k3.live
  ·exact E.uni i j s t d d' p s1 h2 s2 h4 h5 h6
 ·rcases h with h|h
  ·exact fun z=>B.dis p h (.inl z)
  ·exact E.dis p h.1
 ·rcases h with(h|h)|h
  ·exact B.liv p (.inl h)
  ·exact x.lv p (E.liv p (.inl h.1))
  ·exact x.lv p (E.liv p (.inr h))
theorem wH {a b:En} (h0:∀(i:Nat) s,a[i]?=some s->i<k->s=.e) (h:Kp a b) (hk:k<=b.length):Kp a (rf k b):=by
 have lk:(rf k b).length=b.length:=by simp[rf];lia
 have at_:∀i,k<=i->(rf k b)[i]?=b[i]?:=fun i hi=>by
  unfold rf;rw[Vh (by simpa using hi),Vm,Qg]
  congr 1;lia
 refine⟨lk.trans h.len,fun i s e g=>?_,fun i d e=>?_⟩
 ·by_cases hi:i<k
  ·have:=h0 i s e hi;subst this;exact absurd rfl g
  ·obtain⟨s',e',g'⟩:=h.has i s e g;exact⟨s',by rw[at_ i (by lia)];exact e',g'⟩
 ·by_cases hi:i<k
  ·have:=h0 i _ e hi;cases this
  ·obtain⟨d',e'⟩:=h.io i d e;exact⟨d',by rw[at_ i (by lia)];exact e'⟩
theorem HK {caps:List Nat} {sb:En} (nd:caps.Nodup) (lt:∀i∈caps,i<st.length) (hl:sb.length=k+caps.length) (h:Kp (iw k caps st) sb):Kp st (wb caps (sb.drop k) st):=by
 have dl:(sb.drop k).length=caps.length:=by rw[Zn];lia
 have cap:∀(j i:Nat),caps[j]?=some i->(wb caps (sb.drop k) st)[i]?=sb[k+j]?:=fun j i h=>by
  rw[wD caps _ st nd dl h (lt i (Xb h)),Qg]
 refine⟨rW _ _ _,fun i s e g=>?_,fun i d e=>?_⟩
 ·by_cases hc:i∈caps
  ·obtain⟨j,hj⟩:=Xn hc;rw[cap j i hj];exact h.has (k+j) s (by rw[tH hj,e];rfl) g
  ·exact⟨s,by rw[ma _ _ _ hc];exact e,g⟩
 ·by_cases hc:i∈caps
  ·obtain⟨j,hj⟩:=Xn hc;rw[cap j i hj];exact h.io (k+j) d (by rw[tH hj,e];rfl)
  ·exact⟨d,by rw[ma _ _ _ hc];exact e⟩
theorem oI (i:Nat) (s:Sl) (h:(iw k caps st)[i]?=some s) (hi:i<k):s=.e:=by grind [Sl,iw]
def Kl (K:PySem.W.Frag) (Z:AS) (caps:List Nat) (st:En) (σ:St) (J:It) (items:List D) (H:Hp) (O:AS):Prop:=∀H' Oi,Ext (Ob caps st σ) H Oi H'->(∀p,U (Oo caps st σ O Oi) Z p->Lv H' p)->(∀i,items.length<=i->J.stop i H')/\∀(i:Nat) d,items[i]?=some d->J.go i H'/\∀x H'',J.yld i H' x H''->Same H' H''/\DA K (U (Oo caps st σ O Oi) Z) H'' x d
def HL (K:PySem.W.Frag) (caps:List Nat) (wi:TI) (fi:FI):Prop:=∀(st:En) (σ:St) (H:Hp) (O Z:AS) (R:It->Hp->Prop),ER K st σ H O Z->∀items st',fi st=some (items,st') ->
 (∀J H' O',Ext O H O' H'->Kp st st'->ER K st' σ H' O' Z->Kl K Z caps st' σ J items H' O'->R J H')->wi σ H R
theorem RdI.ic (h:RdI K wi fi):HL K caps wi fi:=fun st σ H O Z R E items st' e q =>
 h st σ H O Z R E items st' e fun J H1 O1 x1 k1 E1 it=>q J H1 O1 x1 k1 E1 fun H' Oi x2 lv=>it H' _ (rX E1 x2) lv
theorem wI (hi:HL K caps wi fi) (hg:G9 K g fg tg) (ht:∀j∈tg,j<k) (hc:oD K tc fc) (he:cM K te fe) :
  cM K (tq k caps wi g tc te) (dS k caps fi fg fc fe):=by
 intro st σ H O Z Q E r st' h q;refine bT h fun items st1 e1 h=>?_;by_cases hok:(oH caps st1.length&&decide (items.length<=1000000))=true
 rotate_left
 ·simp only[Af hok]at h;cases h
 simp only[Ae hok]at h;refine bT h fun total sf e2 h=>?_;cases h;have hok1:caps.Nodup/\(∀i∈caps,i<st1.length)/\items.length<=1000000:=by
  rw[Xg,decide_eq_true_eq]at hok;unfold oH at hok;rw[Xg,decide_eq_true_eq,Yn]at hok;exact⟨hok.1.1,fun i hi=>Ao (hok.1.2 i hi),hok.2⟩
 obtain⟨nd,lt,hfew⟩:=hok1;refine hi st σ H O Z _ E items st1 e1 fun J H1 O1 x1 k1 E1 it=>?_;have bl:(blk k caps σ).length=k+caps.length:=by simp[blk]
 have el:(iw k caps st1).length=k+caps.length:=by simp[iw]
 refine⟨items.length,fun i xs H'=>∃sb Oi ds ds2,Ext (Ob caps st1 σ) H1 Oi H'/\ER K sb (blk k caps σ) H' Oi (Zb caps st1 σ O1 Z)/\El K (U Oi (Zb caps st1 σ O1 Z)) H' xs ds/\fv fg fc fe k (items.drop i) sb=some (ds2,sf)/\ds++ds2=total/\Kp (iw k caps st1) sb/\xs.length<=i,
  ⟨iw k caps st1,Ob caps st1 σ,[],total,Ext.refl _ _,Fs E1 nd,El.nil,e2,rfl,Kp.refl _,Xa _⟩,?_,?_⟩
 ·rintro xs H' ⟨sb,Oi,ds,ds2,x2,B,exs,e3,ed,kb,_⟩;rw[Ck (Xa _)]at e3;obtain⟨rfl,rfl⟩:([]:List D)=ds2/\sb=sf:=by
   have:=Option.some.inj e3;exact⟨congrArg Prod.fst this,congrArg Prod.snd this⟩
  rw[AV]at ed;subst ed;obtain⟨stop,_⟩:=it H' Oi x2 (wG E1 nd lt (kb.len.trans el) x2 B).liv;refine⟨stop _ (Xa _),fun p hp=>?_⟩;have sl:sb.length=k+caps.length:=kb.len.trans el;have Eo:=wG E1 nd lt sl x2 B;have ko:=HK nd lt sl kb;have el2:El K (U (Oo caps st1 σ O1 Oi) Z) H' xs ds:=exs.less fun b z=>by
   rcases z with(z|z)|z
   ·exact .inl z
   ·exact .inr (.inr z)
   ·exact .inr (.inl z)
  obtain⟨E3,rv⟩:=Eo.new hp el2;have xx:=x1.trans (rX E1 x2);exact q _ _ _ (xx.trans (Same.ext (aG hp _))) (k1.trans ko) E3 rv fun p' e=>by cases e;exact xx.dead hp
 ·rintro i xs H' hlt ⟨sb,Oi,ds,ds2,x2,B,exs,e3,ed,kb,hxl⟩;have hd:items.drop i=items[i]::items.drop (i+1):=Vj hlt;rw[hd]at e3;refine bp e3 fun s1 e4 e3=>?_;refine bT e3 fun c s2 e5 e3=>?_;obtain⟨_,go⟩:=it H' Oi x2 (wG E1 nd lt (kb.len.trans el) x2 B).liv;obtain⟨g1,g2⟩:=go i _ (Za hlt);refine⟨g1,Zm hxl (Zc hlt (gn hfew)),fun x H'' hy=>?_⟩;obtain⟨sm,da⟩:=g2 x H'' hy;have xm:Ext Oi H' Oi H'':=Same.ext sm;have da':DA K (U Oi (Zb caps st1 σ O1 Z)) H'' x items[i]:=da.less fun b z=>by
   rcases z with z|z|z
   ·exact .inl (.inl z)
   ·exact .inr z
   ·exact .inl (.inr z)
  refine hg sb _ H'' Oi _ x _ _ (B.same sm) da' s1 e4 fun τ kt kq3 E4=>?_;have sl:sb.length=k+caps.length:=kb.len.trans el;have tl:τ.length=(blk k caps σ).length:=by rw[← E4.len,kq3.len,sl,bl]
  have tk:∀j,k<=j->(blk k caps σ)[j]?=τ[j]?:=fun j hj=>((kt j fun z=>absurd (ht j z) (by lia)).1).symm
  have drop:τ.drop k=(blk k caps σ).drop k:=by
   refine Zk fun j=>?_;rw[Qg,Qg];exact(tk _ (by lia)).symm
  have kp1:Kp (iw k caps st1) s1:=by
   refine⟨kq3.len.trans kb.len,fun j s e g=>?_,fun j d e=>?_⟩
   ·by_cases hj:j<k
    ·have:=oI j s e hj;subst this;exact absurd rfl g
    ·obtain⟨s',e',g'⟩:=kb.has j s e g;exact⟨s',by rw[(kt j fun z=>absurd (ht j z) (by lia)).2];exact e',g'⟩
   ·by_cases hj:j<k
    ·have:=oI j _ e hj;cases this
    ·obtain⟨d',e'⟩:=kb.io j d e;exact⟨d',by rw[(kt j fun z=>absurd (ht j z) (by lia)).2];exact e'⟩
  refine hc s1 τ H'' Oi _ _ E4 c s2 e5 fun H3 O3 x3 k3 E5=>?_;have kp2:=kp1.trans k3;cases c with
  | false =>
   simp only[We,if_false]at e3 ⊢;have hs2:k<=s2.length:=by rw[kp2.len,el];lia
   exact⟨drop,rf k s2,O3,ds,ds2,(x2.trans xm).trans x3,wF E5 tl.symm hs2 tk,exs.ext (xm.trans x3),e3,ed,wH oI kp2 hs2,by lia⟩
  | true =>
   rw[Ae rfl]at e3 ⊢;refine bT e3 fun ry s3 e6 e3=>?_;refine bT e3 fun dy s4 e7 e3=>?_;refine bT e3 fun ds3 sf' e8 e3=>?_;cases e3;refine he s2 τ H3 O3 _ _ E5 ry s3 e6 fun y H4 O4 x4 k4 E6 rv w=>?_;obtain⟨O5,x5,k5,E7,day⟩:=rv.esc E6 e7;have kp3:=(kp2.trans k4).trans k5;have hs4:k<=s4.length:=by rw[kp3.len,el];lia
   refine⟨drop,rf k s4,O5,ds++[dy],ds3,(((x2.trans xm).trans x3).trans x4).trans x5,wF E7 tl.symm hs4 tk,(exs.ext (((xm.trans x3).trans x4).trans x5)).app (El.one day),e8,by rw[Yk];exact ed,wH oI kp3 hs4,by simp;lia⟩
theorem cB (hi:RdI K wi fi) (hg:G9 K g fg tg) (ht:∀j∈tg,j<k) (hc:oD K tc fc) (he:cM K te fe) :
  cM K (tq k caps wi g tc te) (dS k caps fi fg fc fe):=wI hi.ic hg ht hc he
def i9 (n:Nat) (ds:List D):En:=ds.map Sl.v++List.replicate (n-ds.length) Sl.e
def Ft (st:En):Rs->Option Rz
 | .d x=>some (x,false)
 | .f x=>some (x,true)
 | .s i=>match st[i]? with
  | some (.o x)=>some (x,true)
  | some (.v x)=>some (x,false)
  | _=>none
def fin:Ot->Option Rz
 | .nx _=>some (.non,false)
 | .rt r st=>Ft st r
 | _=>none
def bF (F:FS) (n m:Nat):List D->Option Rz:=fun ds=>if ds.length=m then(F (i9 n ds)).bind fin else none
theorem wJ {N:List Str} (el:El K Z H vs ds) (lv:∀p,Z p->Lv H p):ER K (i9 N.length ds) (L2.start N vs) H (fun _=>False) Z:=by
 have gv:∀(i:Nat) s,(i9 N.length ds)[i]?=some s->s.get≠none->∃d,s=.v d/\ds[i]?=some d:=fun i s e n=>by
  unfold i9 at e;by_cases hi:i<ds.length
  ·rw[Wj (by simpa using hi),Wb]at e
   obtain⟨d,h1,h2⟩:=Xc.mp e;exact⟨d,h2.symm,h1⟩
  ·rw[Vh (by simpa using hi),Ql]at e
   by_cases hz:i-(ds.map Sl.v).length<N.length-ds.length
   ·rw[Ae hz]at e;cases e;exact absurd rfl n
   ·rw[Af hz]at e;cases e
 have no:∀(i:Nat) s d,(i9 N.length ds)[i]?=some s->s.ow=some d->False:=fun i s d e h=>by
  obtain⟨x,rfl,_⟩:=gv i s e (gI h);cases h
 refine⟨by simp[i9,L2.start,el.1],fun i d e=>?_,fun i s d e h=>(no i s d e h).elim,fun i j s t d d' p e h=>(no i s d e h).elim,fun p h=>h.elim,fun p h=>h.elim (fun z=>z.elim) (lv p)⟩
 obtain⟨x,h1,h2⟩:=gv i _ e (by simp[Sl.get])
 cases h1;obtain⟨v,g1,g2⟩:=el.at h2;refine⟨v,?_,g2.less fun b z=>z.elim (fun y=>y.elim) fun y=>y⟩;unfold L2.start;have hi:=(Vb.mp g1).1;rw[Wj (by simpa using hi),Wb,g1];rfl
theorem zy {N:List Str} (h:m6 K ts F) (sp:lB K (bF F N.length m) vs H Q XE):ts { nx:=fun _ H'=>Q .non H',rt:=Q } (L2.start N vs) H:=by
 obtain⟨Z,ds,z,el,lv,e,q⟩:=sp;have hm:ds.length=m:=by
  by_cases hm:ds.length=m
  ·exact hm
  ·simp only[bF,Af hm]at e;cases e
 simp only[bF,Ae hm]at e;refine bp e fun o e1 e2=>?_;have same:∀{O':AS} {H':Hp},Ext (fun _=>False) H O' H'->Same H H':=fun {O' H'} x b o e=>x.kp b o e fun z=>z;refine h _ _ H _ Z _ (wJ el lv) o e1 ?_;cases o with
 | nx s =>
  cases e2;exact fun σ' H' O' x _ _=>q .non H' (same x) .non
 | bk s=>cases e2
 | ct s=>cases e2
 | rt r s =>
  intro v σ' H' O' x k E rv w;have sub:∀b,Z b->U O' Z b:=fun b z=>.inr z;cases r with
  | d y=>cases e2;exact q v H' (same x) (DA.less (show DA K (U O' Z) H' v y from rv) sub)
  | f y =>
   cases e2;obtain⟨p,rfl,h1,h2,h3,_⟩:=rv;exact q _ H' (same x) ⟨p,rfl,w p rfl,h3.go rfl (fun _ _ e _=>e) fun b z=>.inl (z.elim .inl fun y=>.inr (.inr y))⟩
  | s i =>
   obtain⟨h1,t,h2,h3⟩:=rv
   have e2':(match s[i]? with
    | some (.o x)=>some (x,true)
    | some (.v x)=>some (x,false)
    | _=>none)=some z:=e2
   rw[h2]at e2';cases t with
   | e=>cases e2'
   | io y=>cases e2'
   | v y =>
    cases e2';obtain⟨u,g1,g2⟩:=E.val i y h2;rw[h1]at g1;cases g1;exact q v H' (same x) (g2.less sub)
   | o y =>
    cases e2';obtain⟨p,g1,g2,g3⟩:=E.own i _ y h2 rfl;rw[h1]at g1;cases g1;refine q _ H' (same x) ⟨p,rfl,(x.nw p g2).elim (fun z=>z.elim) (fun z=>z),g3.go rfl (fun _ _ e _=>e) fun b z=>.inl (z.elim (fun y=>.inl (by rw[y];exact g2)) fun y=>.inr y)⟩
def eP (n:Nat) (x:D) (ds:List D):En:=Sl.io x::(ds.map Sl.v++List.replicate (n-(ds.length+1)) Sl.e)
def u9 (z:Option Rz) (st:En):Option (Rz×D):=match st[0]? with
 | some (Sl.io x)=>z.bind fun y=>some (y,x)
 | _=>none
def Dv:Ot->Option (Rz×D)
 | .nx st=>u9 (some (.non,false)) st
 | .rt r st=>u9 (Ft st r) st
 | _=>none
def dU (F:FS) (n m:Nat):D->List D->Option (Rz×D):=fun x ds=>if ds.length+1=m then(F (eP n x ds)).bind Dv else none
theorem va {N : List Str} (nz : ¬ Z f) (ho : OA K (ins f Z) H f x) (el : El K (ins f Z) H ws ds) (lv : ∀ p, Z p → Lv H p) : ER K (eP N.length x ds) (L2.start N (.ref f :: ws)) H (fun b => b = f) Z := by
  have gv : ∀ (i : Nat) s, (eP N.length x ds)[i]? = some s → s.get ≠ none → (i = 0 ∧ s = .io x) ∨ ∃ j d, i = j + 1 ∧ s = .v d ∧ ds[j]? = some d := fun i s e n => by
    cases i with
    | zero => left; exact ⟨rfl, by have : Sl.io x = s := by simpa [eP] using e
                                   exact this.symm⟩
    | succ j =>
      right;have e : (ds.map Sl.v ++ List.replicate (N.length - (ds.length + 1)) Sl.e)[j]? = some s := by simpa [eP] using e
      by_cases hi : j < ds.length
      · rw [Ba (by simpa using hi), BQ] at e
        obtain ⟨d, h1, h2⟩ := Option.map_eq_some_iff.mp e;exact ⟨j, d, rfl, h2.symm, h1⟩
      · rw [B8 (by simpa using hi), Cf] at e
        by_cases hz : j - (ds.map Sl.v).length < N.length - (ds.length + 1)
        · rw [Ae hz] at e; cases e; exact absurd rfl n
        · rw [Af hz] at e; cases e
  have s0 : (L2.start N (.ref f :: ws))[0]? = some (some (.ref f)) := by simp [L2.start]
  have own0 : ∀ (i : Nat) s d, (eP N.length x ds)[i]? = some s → s.ow = some d → i = 0 ∧ d = x := fun i s d e h => by
    rcases gv i s e (gI h) with ⟨h1, rfl⟩ | ⟨j, d', _, rfl, _⟩
    · cases h; exact ⟨h1, rfl⟩
    · cases h
  refine ⟨by simp [eP, L2.start, el.1], fun i d e => ?_, fun i s d e h => ?_, fun i j s t d d' p e h e' h' _ _ => ?_, fun p h => by rw [h]; exact nz, fun p h => ?_⟩
  · rcases gv i _ e (by simp [Sl.get]) with ⟨_, h⟩ | ⟨j, d', rfl, h, h2⟩
    · cases h
    · cases h
      obtain ⟨v, g1, g2⟩ := el.at h2;refine ⟨v, ?_, g2⟩;have hi := (List.getElem?_eq_some_iff.mp g1).1;unfold L2.start;rw [Ba (by simp; lia), BQ]
      simp [g1]
  · obtain ⟨rfl, rfl⟩ := own0 i s d e h
    exact ⟨f, s0, rfl, ho⟩
  · rw [(own0 i s d e h).1, (own0 j t d' e' h').1]
  · rcases h with h | h
    · rw [h]; exact ho.lv
    · exact lv p h
theorem vb {N:List Str} (h:m6 K ts F) (sp:qd K (dU F N.length m) vs H Q XE):ts { nx:=fun _ H'=>Q .non H',rt:=Q } (L2.start N vs) H:=by
 obtain⟨f,ws,Z,x,ds,z,x',rfl,nz,ho,el,lv,e,q⟩:=sp;have hm:ds.length+1=m:=by
  by_cases hm:ds.length+1=m
  ·exact hm
  ·simp only[dU,Af hm]at e;cases e
 simp only[dU,Ae hm]at e;refine bp e fun o e1 e2=>?_;have but:∀{O':AS} {H':Hp},Ext (fun b=>b=f) H O' H'->∀b o,H b=some o->b≠f->H' b=some o:=fun {O' H'} x b o e n=>x.kp b o e n;have i0:(eP N.length x ds)[0]?=some (.io x):=rfl;have s0:(L2.start N (.ref f::ws))[0]?=some (some (.ref f)):=by simp[L2.start]
 have f0:∀{s:En} {σ':St} {H':Hp} {O':AS} {y:D},Kq (eP N.length x ds) (L2.start N (.ref f::ws)) s σ'->ER K s σ' H' O' Z->s[0]?=some (.io y)->O' f/\OA K (U O' Z) H' f y:=fun {s σ' H' O' y} k E e=>by
  obtain⟨g1,_⟩:=k.io 0 x i0;obtain⟨p,h1,h2,h3⟩:=E.own 0 _ y e rfl;rw[g1,s0]at h1;cases h1;exact⟨h2,h3⟩
 refine h _ _ H _ Z _ (va nz ho el lv) o e1 ?_;cases o with
 | bk s=>cases e2
 | ct s=>cases e2
 | nx s =>
  intro σ' H' O' x2 k E;have e3:u9 (some (.non,false)) s=some (z,x'):=e2;unfold u9 at e3;split at e3
  ·rename_i y ey
   cases e3;obtain⟨h1,h2⟩:=f0 k E ey;exact q .non H' (but x2) ⟨.non,h2.go rfl (fun _ _ e _=>e) fun b z=>.inl (z.elim (fun w=>.inl (by rw[w];exact h1)) .inr)⟩
  ·cases e3
 | rt r s =>
  intro v σ' H' O' x2 k E rv w;have e3:u9 (Ft s r) s=some (z,x'):=e2;unfold u9 at e3;split at e3
  ·rename_i y ey
   refine bp e3 fun z' e4 e3=>?_;cases e3;obtain⟨h1,h2⟩:=f0 k E ey;have sub:∀b,ins f Z b->U O' Z b:=fun b z=>z.elim (fun w=>.inl (by rw[w];exact h1)) .inr
   cases r with
   | d u=>cases e4;exact q v H' (but x2) ⟨DA.less (show DA K (U O' Z) H' v u from rv) sub,h2.go rfl (fun _ _ e _=>e) fun b z=>.inl (sub b z)⟩
   | f u =>
    cases e4;obtain⟨p,rfl,g1,g2,g3,E2⟩:=rv;obtain⟨h3,h4⟩:=f0 k E2 ey;exact q _ H' (but x2) ⟨p,rfl,w p rfl,g3.go rfl (fun _ _ e _=>e) (fun b z=>.inl (z.elim .inl fun y=>.inr (sub b y))),h4.go rfl (fun _ _ e _=>e) fun b z=>.inl (z.elim (fun y=>.inl (.inl y)) fun y=>(sub b y).elim (fun a=>.inl (.inr a)) .inr)⟩
   | s i =>
    obtain⟨g1,t,g2,g3⟩:=rv
    have e5:(match s[i]? with
     | some (.o x)=>some (x,true)
     | some (.v x)=>some (x,false)
     | _=>none)=some z:=e4
    rw[g2]at e5;cases t with
    | e=>cases e5
    | io u=>cases e5
    | v u =>
     cases e5;obtain⟨u',j1,j2⟩:=E.val i u g2;rw[g1]at j1;cases j1;exact q v H' (but x2) ⟨j2.less sub,h2.go rfl (fun _ _ e _=>e) fun b z=>.inl (sub b z)⟩
    | o u =>
     cases e5;obtain⟨p,j1,j2,j3⟩:=E.own i _ u g2 rfl;rw[g1]at j1;cases j1;have npf:p≠f:=fun z=>by
      subst z;obtain⟨p0,l1,_⟩:=E.own 0 _ _ ey rfl;obtain⟨l2,_⟩:=k.io 0 x i0;rw[l2,s0]at l1;cases l1;have:=E.uni i 0 _ _ u _ _ g2 rfl ey rfl g1 (by rw[l2,s0])
      subst this;rw[ey]at g2;cases g2
     have hp:H p=none:=(x2.nw p j2).elim (fun z=>absurd z npf) (fun z=>z);have sub2:∀b,ins p (ins f Z) b->U O' Z b:=fun b z=>z.elim (fun y=>.inl (by rw[y];exact j2)) (sub b)
     exact q _ H' (but x2) ⟨p,rfl,hp,j3.go rfl (fun _ _ e _=>e) (fun b z=>.inl (sub2 b z)),h2.go rfl (fun _ _ e _=>e) fun b z=>.inl (sub2 b z)⟩
  ·cases e3
theorem Fu (sp:lB K (bF F n m) vs H Q XE):vs.length=m:=by
 obtain⟨Z,ds,z,el,lv,e,q⟩:=sp;by_cases hm:ds.length=m
 ·exact el.1.trans hm
 ·simp only[bF,Af hm]at e;cases e
theorem HM (sp:qd K (dU F n m) vs H Q XE):vs.length=m:=by
 obtain⟨f,ws,Z,x,ds,z,x',rfl,nz,ho,el,lv,e,q⟩:=sp;by_cases hm:ds.length+1=m
 ·have:=el.1;simp;lia
 ·simp only[dU,Af hm]at e;cases e
end
end VF
namespace VF
open PySem L2
section
variable {K:PySem.W.Frag} {Y Y':AS} {H H':Hp} {v:V} {d:D} {vs:List V} {ds:List D}
def ke (b b':D->D->Option Rz):D->D->Option Rz:=fun x y=>match b x y with
 | some z=>some z
 | none=>b' x y
theorem RdOp.or (h:RdOp K r b) (h':RdOp K r' b'):RdOp K (fun x y H Q=>r x y H Q∨r' x y H Q) (ke b b'):=by grind [RdOp,ke]
def HN (b b':List D->Option Rz):List D->Option Rz:=fun x=>match b x with
 | some z=>some z
 | none=>b' x
theorem RdCB.or (h:RdCB K r b) (h':RdCB K r' b'):RdCB K (fun xs H Q=>r xs H Q∨r' xs H Q) (HN b b'):=by grind [RdCB,HN]
def Fv (g:Int->Int->D):D->D->Option Rz
 | .int i,.int j=>some (g i j,false)
 | _,_=>none
theorem nJ (h:∀Y H i j,DA K Y H (gV i j) (gD i j)):RdOp K (pU gV) (Fv gD):=by
 intro Y H x y d1 d2 z Q lv b1 b2 e q;cases d1 with
 | int i =>
  cases d2 with
  | int j =>
   cases e;exact⟨i,j,b1,b2,q _ H (Same.refl H) (h Y H i j)⟩
  | _=>cases e
 | _=>cases e
def bI (C:Int->Int->Prop) [∀i j,Decidable (C i j)] (g:Int->Int->D):D->D->Option Rz
 | .int i,.int j=>if C i j then some (g i j,false) else none
 | _,_=>none
theorem zF [dc:∀i j,Decidable (C i j)] (h:∀Y H i j,DA K Y H (gV i j) (gD i j)):RdOp K (rI C gV) (bI C gD):=by
 intro Y H x y d1 d2 z Q lv b1 b2 e q;cases d1 with
 | int i =>
  cases d2 with
  | int j =>
   obtain⟨c,e⟩:=aC e;cases e;exact⟨i,j,b1,b2,c,q _ H (Same.refl H) (h Y H i j)⟩
  | _=>cases e
 | _=>cases e
instance (i j:Int):Decidable (CMul i j):=by unfold CMul;infer_instance
instance (i j:Int):Decidable (rD i j):=by unfold rD;infer_instance
instance (i j:Int):Decidable (vY i j):=by unfold vY;infer_instance
def wK:=Fv fun i j=>.int (i+j)
def fR:=Fv fun i j=>.int (i-j)
def wL:=bI CMul fun i j=>.int (i*j)
def zG:=bI rD fun i j=>.int (i / j)
def fS:=bI (fun _ j=>0<j) fun i j=>.int (i % j)
def Fw:=bI vY fun i j=>.int (i ^ j.toNat)
def HP:=Fv fun i j=>.bl (decide (i<j))
def Jy:=Fv fun i j=>.bl (decide (i<=j))
def Hb:=Fv fun i j=>.bl (decide (j<i))
def zH:=Fv fun i j=>.bl (decide (j<=i))
theorem ro_addI:RdOp K (pU fun i j=>.int (i+j)) wK:=nJ fun _ _ _ _=>.int _
theorem dm:RdOp K (pU fun i j=>.int (i-j)) fR:=nJ fun _ _ _ _=>.int _
theorem ro_mulI:RdOp K (rI CMul fun i j=>.int (i*j)) wL:=zF fun _ _ _ _=>.int _
theorem wM:RdOp K (rI rD fun i j=>.int (i / j)) zG:=zF fun _ _ _ _=>.int _
theorem fT:RdOp K (rI (fun _ j=>0<j) fun i j=>.int (i % j)) fS:=zF fun _ _ _ _=>.int _
theorem Fx:RdOp K (rI vY fun i j=>.int (i ^ j.toNat)) Fw:=zF fun _ _ _ _=>.int _
theorem ro_ltI:RdOp K (pU fun i j=>.bl (decide (i<j))) HP:=nJ fun _ _ _ _=>.bl _
theorem HQ:RdOp K (pU fun i j=>.bl (decide (i<=j))) Jy:=nJ fun _ _ _ _=>.bl _
theorem wN:RdOp K (pU fun i j=>.bl (decide (j<i))) Hb:=nJ fun _ _ _ _=>.bl _
theorem nK:RdOp K (pU fun i j=>.bl (decide (j<=i))) zH:=nJ fun _ _ _ _=>.bl _
def HR:D->Option Rz
 | .int i=>some (.int (-i),false)
 | _=>none
theorem Fy:HG K (rU fun i=>.int (-i)) HR:=by
 intro Y H x d1 z Q lv b1 e q;cases d1 with
 | int i=>cases e;exact⟨i,b1,q _ H (Same.refl H) (.int _)⟩
 | _=>cases e
def Hc:D->Option V
 | .non=>some .non
 | .bl b=>some (.bl b)
 | .int i=>some (.int i)
 | .str x=>some (.str x)
 | _=>none
theorem kg (h:BA K Y H v d) (e:Hc d=some w):v=w:=by
 cases d with
 | non=>cases e;exact h
 | bl b=>cases e;exact h
 | int i=>cases e;exact h
 | str x=>cases e;exact h
 | _=>cases e
theorem qj (e:Hc d=some w):iA w=true:=by
 cases d with
 | non=>cases e;rfl
 | bl b=>cases e;rfl
 | int i=>cases e;rfl
 | str x=>cases e;rfl
 | _=>cases e
def wO (neg:Bool):D->D->Option Rz:=fun a b=>(Hc a).bind fun x=>(Hc b).bind fun y=>if EH x y=true then some (.bl (if neg then !decide (x=y) else decide (x=y)),false) else none
theorem Fz:RdOp K Ht (wO false):=by
 intro Y H x y d1 d2 z Q lv b1 b2 e q;refine bp e fun x' e1 e=>?_;refine bp e fun y' e2 e=>?_;obtain⟨c,e⟩:=aC e;cases e;obtain rfl:=kg b1 e1;obtain rfl:=kg b2 e2;exact⟨c,q _ H (Same.refl H) (.bl _)⟩
theorem ro_neS:RdOp K Jt (wO true):=by
 intro Y H x y d1 d2 z Q lv b1 b2 e q;refine bp e fun x' e1 e=>?_;refine bp e fun y' e2 e=>?_;obtain⟨c,e⟩:=aC e;cases e;obtain rfl:=kg b1 e1;obtain rfl:=kg b2 e2;exact⟨c,q _ H (Same.refl H) (.bl _)⟩
def wP:D->D->Option Rz
 | .str a,.str b=>if a.length+b.length<=1000000 then some (.str (a++b),false) else none
 | _,_=>none
theorem ro_addS:RdOp K (fun x y H Q=>∃i j,x=.str i/\y=.str j/\i.length+j.length<=sizeLine/\Q (.str (i++j)) H) wP:=by
 intro Y H x y d1 d2 z Q lv b1 b2 e q;cases d1 with
 | str a =>
  cases d2 with
  | str b =>
   obtain⟨c,e⟩:=aC e;cases e;exact⟨a,b,b1,b2,gn c,q _ H (Same.refl H) (.str _)⟩
  | _=>cases e
 | _=>cases e
theorem fU (el:El K Y H vs ds) (hp:H p=none):RES K Y H (upd H p (.lst vs)) (.ref p) (.lst ds,true) :=
 ⟨p,rfl,hp,vs,aD,el.away (aG hp _) hp⟩
theorem gJ (el:El K Y H vs ds) (hp:H p=none) (lv:∀p,Y p->Lv H p):RES K Y H (upd H p (.tup vs)) (.ref p) (.tup ds,false) :=
 .tup ⟨aD,fun z=>(lv p z).1 hp⟩ el.1 (el.same (aG hp _)).2
def zJ:D->D->Option Rz
 | .lst a,.lst b=>if a.length+b.length<=1000000 then some (.lst (a++b),true) else none
 | _,_=>none
theorem ro_cat:RdOp K Fc zJ:=by
 intro Y H x y d1 d2 z Q lv b1 b2 e q;cases d1 with
 | lst a =>
  cases d2 with
  | lst b =>
   obtain⟨c,e⟩:=aC e;cases e;obtain⟨p,xs,rfl,hp,el⟩:=b1;obtain⟨p2,ys,rfl,hp2,el2⟩:=b2;exact⟨p,p2,xs,ys,rfl,rfl,hp,hp2,by rw[el.1,el2.1];exact gn c,fun r hr=>q _ _ (aG hr _) (fU (el.app el2) hr)⟩
  | _=>cases e
 | _=>cases e
def Dx:D->D->Option Rz
 | .tup (x::a),.tup (y::b)=>if a.length+b.length<=999998 then some (.tup ((x::a)++(y::b)),false) else none
 | .tup (x::a),.tup []=>if a.length<=999998 then some (.tup (x::a),false) else none
 | _,_=>none
theorem zK:RdOp K (wj K) Dx:=by
 intro Y H x y d1 d2 z Q lv b1 b2 e q;cases d1 with
 | tup a =>
  cases a with
  | nil=>cases e
  | cons a0 a =>
  cases d2 with
  | tup b =>
   obtain⟨p,xs,rfl,hp,el⟩:=b1;obtain⟨p2,ys,rfl,hp2,el2⟩:=b2;have hx:xs≠[]:=fun z=>by have:=el.1;rw[z]at this;cases this
   cases b with
   | nil =>
    obtain⟨c,e⟩:=aC e;cases e;obtain rfl:=el2.unnil;exact⟨p,p2,xs,[],rfl,rfl,hp.sq,hp2.sq,hx,by rw[el.1];exact gn (by simp;lia),fun _=>q _ H (Same.refl H) (.tup hp el.1 el.2),fun z=>absurd rfl z⟩
   | cons b0 b =>
    obtain⟨c,e⟩:=aC e;cases e;have hy:ys≠[]:=fun z=>by have:=el2.1;rw[z]at this;cases this
    exact⟨p,p2,xs,ys,rfl,rfl,hp.sq,hp2.sq,hx,by rw[el.1,el2.1];exact gn (by simp;lia),fun z=>absurd z hy,fun _ r hr=>q _ _ (aG hr _) (gJ (el.app el2) hr lv)⟩
  | _=>cases e
 | _=>cases e
def b9:=ke wK (ke wP (ke zJ Dx))
def Dy:D->D->Option Rz
 | .str a,.int n=>if 0<=n/\n<=1000/\a.length<=1000 then some (.str (Txt.mul a n),false) else none
 | _,_=>none
theorem zL:RdOp K (fun x y H Q=>∃(a:Str) (n:Int),x=.str a/\y=.int n/\MulOk a n/\Q (.str (Txt.mul a n)) H) Dy:=by
 intro Y H x y d1 d2 z Q lv b1 b2 e q;cases d1 with
 | str a =>
  cases d2 with
  | int n =>
   obtain⟨c,e⟩:=aC e;cases e;exact⟨a,n,b1,b2,mulOk_of c.1 c.2.1 c.2.2,q _ H (Same.refl H) (.str _)⟩
  | _=>cases e
 | _=>cases e
def dG:=ke wL Dy
def HS:D->D->Option Rz
 | .str a,.str b=>some (.bl (decide (a.cps.toList<b.cps.toList)),false)
 | _,_=>none
theorem FB:RdOp K (fun x y H Q=>∃i j,x=.str i/\y=.str j/\Q (.bl (decide (i.cps.toList<j.cps.toList))) H) HS:=by
 intro Y H x y d1 d2 z Q lv b1 b2 e q;cases d1 with
 | str a =>
  cases d2 with
  | str b=>cases e;exact⟨a,b,b1,b2,q _ H (Same.refl H) (.bl _)⟩
  | _=>cases e
 | _=>cases e
def FC:=ke HP HS
def FD (neg:Bool):D->D->Option Rz
 | .str a,.str b=>some (.bl (if neg then !(!(Builtin.Str.occurrences b a 0 b.length 1).isEmpty) else !(Builtin.Str.occurrences b a 0 b.length 1).isEmpty),false)
 | _,_=>none
theorem ro_notinS:RdOp K (fun x y H Q=>∃i j,x=.str i/\y=.str j/\Q (.bl (!(!(Builtin.Str.occurrences j i 0 j.length 1).isEmpty))) H) (FD true):=by
 intro Y H x y d1 d2 z Q lv b1 b2 e q;cases d1 with
 | str a =>
  cases d2 with
  | str b=>cases e;exact⟨a,b,b1,b2,q _ H (Same.refl H) (.bl _)⟩
  | _=>cases e
 | _=>cases e
def nL:List D->Option (List V)
 | []=>some []
 | d::r=>(Hc d).bind fun v=>(nL r).bind fun vs=>some (v::vs)
theorem qk:∀{ds:List D} {vs ws:List V},El K Y H vs ds->nL ds=some ws->vs=ws/\ws.all iA=true
 | [],vs,ws,el,e=>by cases e;exact⟨el.unnil,rfl⟩
 | d::r,vs,ws,el,e=>by
  refine bp e fun w e1 e=>?_;refine bp e fun ws' e2 e=>?_;cases e;obtain⟨v,t,rfl,da,el⟩:=el.uncons;obtain⟨rfl,h⟩:=qk el e2;have hv:=kg da.ba e1;subst hv;exact⟨rfl,by rw[Bg,qj e1,h];rfl⟩
def D.seq:D->Option (List D)
 | .lst ds=>some ds
 | .tup ds=>some ds
 | .fl ds=>some ds
 | _=>none
theorem kh (h:BA K Y H v d) (e:d.seq=some ds):∃a vs,v=.ref a/\(eY K H a vs∨iz K H a vs)/\El K Y H vs ds:=by
 cases d with
 | lst _=>cases e;obtain⟨a,vs,h1,h2,h3⟩:=h;exact⟨a,vs,h1,.inl (.inl (.inl h2)),h3⟩
 | tup _=>cases e;obtain⟨a,vs,h1,h2,h3⟩:=h;exact⟨a,vs,h1,.inr h2.sq,h3⟩
 | fl _=>cases e;obtain⟨a,vs,h1,h2,h3⟩:=h;exact⟨a,vs,h1,.inl h2.sq,h3⟩
 | _=>cases e
def FF (neg:Bool):D->D->Option Rz:=fun a b=>(Hc a).bind fun x=>(b.seq).bind fun ds=>(nL ds).bind fun ws=>some (.bl (if neg then !Dq x ws else Dq x ws),false)
theorem FJ (neg:Bool):RdOp K (Jv K neg) (FF neg):=by
 intro Y H x y d1 d2 z Q lv b1 b2 e q;refine bp e fun x' e1 e=>?_;refine bp e fun ds e2 e=>?_;refine bp e fun ws e3 e=>?_;cases e;obtain⟨a,vs,rfl,sq,el⟩:=kh b2 e2;obtain rfl:=kg b1 e1;obtain⟨rfl,h⟩:=qk el e3;exact⟨a,vs,rfl,sq,qj e1,h,q _ H (Same.refl H) (.bl _)⟩
def oK:=ke (FD true) (FF true)
def wQ:D->D->Option Rz
 | .lst ds,.int i=>(lV ds i).bind fun d=>some (d,false)
 | .fl ds,.int i=>(lV ds i).bind fun d=>some (d,false)
 | _,_=>none
def FK:D->D->Option Rz
 | .tup ds,.int i=>(lV ds i).bind fun d=>some (d,false)
 | _,_=>none
def HU:D->D->Option Rz
 | .str z,.int i=>if z.length<=1000000 then(lV z.cps.toList i).bind fun c=>some (.str ⟨#[c]⟩,false) else none
 | _,_=>none
theorem rY (el:El K Y H vs ds) (e:lV ds i=some d):∃v,lV vs i=some v/\DA K Y H v d:=by
 unfold lV at e ⊢;rw[el.1];refine bp e fun j e1 e2=>?_;obtain⟨v,h1,h2⟩:=el.at e2;exact⟨v,by rw[e1];exact h1,h2⟩
theorem ro_ixL:RdOp K (ET K) wQ:=by
 intro Y H x y d1 d2 z Q lv b1 b2 e q;cases d1 with
 | lst a =>
  cases d2 with
  | int i =>
   refine bp e fun d e1 e=>?_;cases e;obtain⟨p,xs,rfl,hp,el⟩:=b1;obtain⟨v,h1,h2⟩:=rY el e1;exact⟨p,xs,i,v,rfl,b2,.inl (.inl hp),h1,q v H (Same.refl H) h2⟩
  | _=>cases e
 | fl a =>
  cases d2 with
  | int i =>
   refine bp e fun d e1 e=>?_;cases e;obtain⟨p,xs,rfl,hp,el⟩:=b1;obtain⟨v,h1,h2⟩:=rY el e1;exact⟨p,xs,i,v,rfl,b2,hp.sq,h1,q v H (Same.refl H) h2⟩
  | _=>cases e
 | _=>cases e
theorem ro_ixT:RdOp K (EU K) FK:=by
 intro Y H x y d1 d2 z Q lv b1 b2 e q;cases d1 with
 | tup a =>
  cases d2 with
  | int i =>
   refine bp e fun d e1 e=>?_;cases e;obtain⟨p,xs,rfl,hp,el⟩:=b1;obtain⟨v,h1,h2⟩:=rY el e1;exact⟨p,xs,i,v,rfl,b2,hp.sq,h1,q v H (Same.refl H) h2⟩
  | _=>cases e
 | _=>cases e
theorem FL:RdOp K EV HU:=by
 intro Y H x y d1 d2 z Q lv b1 b2 e q;cases d1 with
 | str a =>
  cases d2 with
  | int i =>
   obtain⟨c,e⟩:=aC e;refine bp e fun ch e1 e=>?_;cases e;exact⟨a,i,ch,b1,b2,gn c,e1,q _ H (Same.refl H) (.str _)⟩
  | _=>cases e
 | _=>cases e
def dE:=ke wQ (ke FK HU)
theorem bG:RdOp K (Ju K) dE:=ro_ixL.or (ro_ixT.or FL)
abbrev FO:=En->Option (Option Int×En)
def Jh (K:PySem.W.Frag) (t:TO) (f:FO):Prop:=∀(st:En) (σ:St) (H:Hp) (O Z:AS) (Q:Option Int->Hp->Prop),ER K st σ H O Z->∀c st',f st=some (c,st') ->
 (∀H' O',Ext O H O' H'->Kp st st'->ER K st' σ H' O' Z->Q c H')->t σ H Q
def Ji:FO:=fun st=>some (none,st)
theorem FM:Jh K sU Ji:=by
 intro st σ H O Z Q E c st' e q;cases e;exact q H O (Ext.refl _ _) (Kp.refl _) E
def asInt (st:En) (r:Rs):Option Int:=match cont st r with
 | some (.int i)=>some i
 | _=>none
def nM (fe:FE):FO:=fun st=>(fe st).bind fun x=>(asInt x.2 x.1).bind fun i=>some (some i,x.2)
theorem wR (h:cM K te fe):Jh K (Dm te) (nM fe):=by
 intro st σ H O Z Q E c st' e q;refine bT e fun r st1 e1 e=>?_;refine bp e fun i e2 e=>?_;cases e;refine h st σ H O Z _ E r _ e1 fun v H1 O1 x1 k1 E1 rv w=>?_;have ev:v=.int i:=by
  unfold asInt at e2;split at e2
  ·rename_i j ej
   cases e2;exact rv.ba E1 ej
  ·cases e2
 exact⟨i,ev,q H1 O1 x1 k1 E1⟩
def RdSl (K:PySem.W.Frag) (r:V->Option Int->Option Int->Hp->VK->Prop) (b:D->Option Int->Option Int->Option Rz):Prop:=∀(Y:AS) (H:Hp) (x:V) (lo hi:Option Int) (d1:D) (z:Rz) (Q:VK),(∀p,Y p->Lv H p)->BA K Y H x d1->b d1 lo hi=some z ->
 (∀v H',Same H H'->RES K Y H H' v z->Q v H')->r x lo hi H Q
def Hd (b:D->Option Int->Option Int->Option Rz) (fe:FE) (fl fh:FO):FE:=fun st=>(fe st).bind fun x=>(fl x.2).bind fun l=>(fh l.2).bind fun u=>(cont u.2 x.1).bind fun d=>(b d l.1 u.1).bind fun z=>some (mk z,u.2)
theorem wS (hr:RdSl K r b) (he:cM K te fe) (hl:Jh K tl fl) (hh:Jh K th fh):cM K (JT r te tl th) (Hd b fe fl fh):=by
 intro st σ H O Z Q E r' st' h q;refine bT h fun r1 st1 e1 h=>?_;refine bT h fun lo st2 e2 h=>?_;refine bT h fun hi st3 e3 h=>?_;refine bp h fun d1 e4 h=>?_;refine bp h fun z e5 h=>?_;cases h;refine he st σ H O Z _ E r1 st1 e1 fun v1 H1 O1 x1 k1 E1 rv1 w1=>?_;refine hl st1 σ H1 O1 Z _ E1 lo st2 e2 fun H2 O2 x2 k2 E2=>?_;refine hh st2 σ H2 O2 Z _ E2 hi _ e3 fun H3 O3 x3 k3 E3=>?_;have b1:=(rv1.nf.ext (x2.trans x3) (k2.trans k3)).ba E3 (by rw[jq];exact e4)
 refine hr (U O3 Z) H3 v1 lo hi d1 z _ E3.liv b1 e5 fun v H4 s hres=>?_;obtain⟨E4,rv4⟩:=hres.rv E3 s;have xx:=(x1.trans x2).trans x3;exact q v H4 O3 (xx.trans (Same.ext s)) ((k1.trans k2).trans k3) E4 rv4 (hres.fsh.back xx)
def cutD (xs:List D) (lo hi:Option Int):List D:=(xs.drop (HT.sIx xs.length 0 lo)).take (HT.sIx xs.length xs.length hi-HT.sIx xs.length 0 lo)
theorem El.cut (el:El K Y H vs ds) (lo hi:Option Int):El K Y H (p6 vs lo hi) (cutD ds lo hi):=by
 unfold p6 cutD;rw[el.1];exact(el.drop _).take _
def HV (b b':D->Option Int->Option Int->Option Rz):D->Option Int->Option Int->Option Rz:=fun x l h=>match b x l h with
 | some z=>some z
 | none=>b' x l h
theorem RdSl.or (h:RdSl K r b) (h':RdSl K r' b'):RdSl K (fun x lo hi H Q=>r x lo hi H Q∨r' x lo hi H Q) (HV b b'):=by grind [RdSl,HV]
def FN:D->Option Int->Option Int->Option Rz
 | .lst ds,lo,hi=>some (.lst (cutD ds lo hi),true)
 | .fl ds,lo,hi=>some (.lst (cutD ds lo hi),true)
 | _,_,_=>none
theorem HW:RdSl K (EY K) FN:=by
 intro Y H x lo hi d1 z Q lv b1 e q;cases d1 with
 | lst a =>
  cases e;obtain⟨p,xs,rfl,hp,el⟩:=b1;exact⟨p,xs,rfl,.inl (.inl hp),fun r hr=>q _ _ (aG hr _) (fU (el.cut lo hi) hr)⟩
 | fl a =>
  cases e;obtain⟨p,xs,rfl,hp,el⟩:=b1;exact⟨p,xs,rfl,hp.sq,fun r hr=>q _ _ (aG hr _) (fU (el.cut lo hi) hr)⟩
 | _=>cases e
def zM:D->Option Int->Option Int->Option Rz
 | .tup ds,lo,hi=>if HT.sIx ds.length 0 lo=0/\HT.sIx ds.length ds.length hi=ds.length then none else some (.tup (cutD ds lo hi),false)
 | _,_,_=>none
theorem HX:RdSl K (EQ K) zM:=by
 intro Y H x lo hi d1 z Q lv b1 e q;cases d1 with
 | tup a =>
  by_cases c:HT.sIx a.length 0 lo=0/\HT.sIx a.length a.length hi=a.length
  ·simp only[zM,Ae c]at e;cases e
  ·simp only[zM,Af c]at e;cases e;obtain⟨p,xs,rfl,hp,el⟩:=b1;exact⟨p,xs,rfl,hp.sq,by rw[el.1];exact c,fun r hr=>q _ _ (aG hr _) (gJ (el.cut lo hi) hr lv)⟩
 | _=>cases e
def HY:D->Option Int->Option Int->Option Rz
 | .str z,lo,hi=>if z.length<=1000000 then some (.str (Txt.slice z lo hi),false) else none
 | _,_,_=>none
theorem HZ:RdSl K (fun x lo hi H Q=>∃z:Str,x=.str z/\z.length<=sizeLine/\Q (.str (Txt.slice z lo hi)) H) HY:=by
 intro Y H x lo hi d1 z Q lv b1 e q;cases d1 with
 | str a =>
  obtain⟨c,e⟩:=aC e;cases e;exact⟨a,b1,gn c,q _ H (Same.refl H) (.str _)⟩
 | _=>cases e
def He:=HV FN (HV zM HY)
def Dz:List D->Option Rz
 | [d]=>(d.seq).bind fun ds=>some (.int ds.length,false)
 | _=>none
theorem rc_lenQ:RdCB K (fun xs H Q=>∃p ys,xs=[.ref p]/\(eY K H p ys∨iz K H p ys)/\Q (.int ys.length) H) Dz:=by
 intro Y H xs ds z Q lv bs e q;cases bs with
 | nil=>cases e
 | cons b1 bs =>
  cases bs with
  | cons _ _=>cases e
  | nil =>
   refine bp e fun es e1 e=>?_;cases e;obtain⟨a,vs,rfl,sq,el⟩:=kh b1 e1;refine⟨a,vs,rfl,sq,?_⟩;rw[el.1];exact q _ H (Same.refl H) (.int _)
def DB:List D->Option Rz
 | [.str z]=>if z.length<=1000000 then some (.int z.length,false) else none
 | _=>none
theorem zN:RdCB K (fun xs H Q=>∃z:Str,xs=[.str z]/\z.length<=sizeLine/\Q (.int z.length) H) DB:=by
 intro Y H xs ds z Q lv bs e q;cases bs with
 | nil=>cases e
 | @cons v vs d ds b1 bs =>
  cases bs with
  | cons _ _=>cases d<;>cases e
  | nil =>
   cases d with
   | str a =>
    obtain⟨c,e⟩:=aC e;cases e;exact⟨a,by rw[show v=V.str a from b1],gn c,q _ H (Same.refl H) (.int _)⟩
   | _=>cases e
def cC:=HN Dz DB
def DC:List D->Option Rz
 | [d]=>(d.seq).bind fun ds=>some (.lst ds,true)
 | _=>none
theorem rc_list:RdCB K (fun xs H Q=>∃p ys,xs=[.ref p]/\(eY K H p ys∨iz K H p ys)/\∀l,H l=none->Q (.ref l) (upd H l (.lst ys))) DC:=by
 intro Y H xs ds z Q lv bs e q;cases bs with
 | nil=>cases e
 | cons b1 bs =>
  cases bs with
  | cons _ _=>cases e
  | nil =>
   refine bp e fun es e1 e=>?_;cases e;obtain⟨a,vs,rfl,sq,el⟩:=kh b1 e1;exact⟨a,vs,rfl,sq,fun r hr=>q _ _ (aG hr _) (fU el hr)⟩
def wT:List D->Option Rz
 | [.lst ds]=>some (.tup ds,false)
 | [.fl ds]=>some (.tup ds,false)
 | [.tup ds]=>some (.tup ds,false)
 | _=>none
theorem rc_tuple:RdCB K (fun xs H Q=>∃p ys,xs=[.ref p]/\((eY K H p ys/\∀l,H l=none->Q (.ref l) (upd H l (.tup ys)))∨(iz K H p ys/\Q (.ref p) H))) wT:=by
 intro Y H xs ds z Q lv bs e q;cases bs with
 | nil=>cases e
 | @cons v vs d ds b1 bs =>
  cases bs with
  | cons _ _=>cases d<;>cases e
  | nil =>
   cases d with
   | lst a =>
    cases e;obtain⟨p,xs,rfl,hp,el⟩:=b1;exact⟨p,xs,rfl,.inl ⟨.inl (.inl hp),fun r hr=>q _ _ (aG hr _) (gJ el hr lv)⟩⟩
   | fl a =>
    cases e;obtain⟨p,xs,rfl,hp,el⟩:=b1;exact⟨p,xs,rfl,.inl ⟨hp.sq,fun r hr=>q _ _ (aG hr _) (gJ el hr lv)⟩⟩
   | tup a =>
    cases e;obtain⟨p,xs,rfl,hp,el⟩:=b1;exact⟨p,xs,rfl,.inr ⟨hp.sq,q _ H (Same.refl H) (.tup hp el.1 el.2)⟩⟩
   | _=>cases e
def nN:List D->Option (List Bool)
 | []=>some []
 | .bl b::r=>(nN r).bind fun bs=>some (b::bs)
 | _=>none
theorem qm:∀{ds:List D} {vs:List V} {bs:List Bool},El K Y H vs ds->nN ds=some bs->vs=bs.map V.bl
 | [],vs,bs,el,e=>by cases e;exact el.unnil
 | d::r,vs,bs,el,e=>by
  obtain⟨v,t,rfl,da,el2⟩:=el.uncons;cases d with
  | bl b =>
   refine bp e fun bs' e1 e=>?_;cases e;have h:=qm el2 e1;rw[h,show v=V.bl b from da.ba];rfl
  | _=>cases e
def FP:List D->Option Rz
 | [.lst ds]=>(nN ds).bind fun bs=>some (.bl (bs.all id),false)
 | _=>none
theorem FQ:RdCB K (fun xs H Q=>∃(p:Addr) (bs:List Bool),xs=[.ref p]/\eY K H p (bs.map V.bl)/\Q (.bl (bs.all id)) H) FP:=by
 intro Y H xs ds z Q lv bs e q;cases bs with
 | nil=>cases e
 | @cons v vs d ds b1 bs =>
  cases bs with
  | cons _ _=>cases d<;>cases e
  | nil =>
   cases d with
   | lst a =>
    refine bp e fun bs e1 e=>?_;cases e;obtain⟨p,xs,rfl,hp,el⟩:=b1;obtain rfl:=qm el e1;exact⟨p,bs,rfl,.inl (.inl hp),q _ H (Same.refl H) (.bl _)⟩
   | _=>cases e
def qo:D->Bool
 | .lst _=>true
 | _=>false
theorem Jj (h:OA K Y H p x) (e:qo x=true):G8 K "list" (.ref p) H:=by
 cases x with
 | lst ds=>obtain⟨vs,h1,_⟩:=h;exact .inl ⟨rfl,vs,.inl (.inl h1)⟩
 | _=>cases e
theorem El.upd (h:El K Y H vs ds) (hp:Y p):El K Y (L2.upd H p o) vs ds:=h.go (fun b u e n=>by
 have hb:b≠p:=fun z=>n (by rw[z];exact hp)
 rw[aB hb];exact e) fun b z=>.inl z
theorem DA.upd (h:DA K Y H v d) (hp:Y p):DA K Y (L2.upd H p o) v d:=h.go (fun b u e n=>by
 have hb:b≠p:=fun z=>n (by rw[z];exact hp)
 rw[aB hb];exact e) fun b z=>.inl z
def cW:D->List D->Option (D×D)
 | .lst xs,[y]=>if xs.length<1000000 then some (.non,.lst (xs++[y])) else none
 | _,_=>none
theorem cN:RdM K "list" sX qo cW:=⟨fun Y H p x h e=>Jj h e,fun Y H p x vs ds y x' Q hp ho el e q=>by
 cases x with
 | lst xs =>
  cases ds with
  | nil=>cases e
  | cons d ds =>
   cases ds with
   | cons _ _=>cases e
   | nil =>
    obtain⟨c,e⟩:=aC e;cases e;obtain⟨ws,h1,h2⟩:=ho;obtain⟨v,r,rfl,da,el⟩:=el.uncons;obtain rfl:=el.unnil;exact⟨p,ws,v,rfl,rfl,h1,by rw[h2.1];exact gn (by lia),q .non _ .non ⟨_,aD,(h2.app (El.one da)).upd hp⟩⟩
 | _=>cases e⟩
def FR:D->List D->Option (D×D)
 | .lst xs,[]=>(xs[xs.length-1]?).bind fun y=>some (y,.lst xs.dropLast)
 | _,_=>none
theorem FU:RdM K "list" HD qo FR:=⟨fun Y H p x h e=>Jj h e,fun Y H p x vs ds y x' Q hp ho el e q=>by
 cases x with
 | lst xs =>
  cases ds with
  | cons _ _=>cases e
  | nil =>
   refine bp e fun y' e1 e=>?_;cases e;obtain⟨ws,h1,h2⟩:=ho;obtain rfl:=el.unnil;obtain⟨v,g1,g2⟩:=h2.at e1;refine⟨p,ws,v,rfl,rfl,h1,by rw[h2.1];exact g1,q v _ (g2.upd hp) ⟨_,aD,?_⟩⟩
   rw[Cq,Cq,h2.1];exact(h2.take _).upd hp
 | _=>cases e⟩
def oM:D->List D->Option (D×D)
 | .lst xs,[.int i]=>if -(2 ^ 63)<=i/\i<2 ^ 63 then(seqIndex? i xs.length).bind fun k=>(xs[k]?).bind fun y=>some (y,.lst (xs.eraseIdx k)) else none
 | _,_=>none
theorem wU:RdM K "list" wq qo oM:=⟨fun Y H p x h e=>Jj h e,fun Y H p x vs ds y x' Q hp ho el e q=>by
 cases x with
 | lst xs =>
  cases ds with
  | nil=>cases e
  | cons d ds =>
   cases d with
   | int i =>
    cases ds with
    | cons _ _=>cases e
    | nil =>
     obtain⟨c,e⟩:=aC e;refine bp e fun k e1 e=>?_;refine bp e fun y' e2 e=>?_;cases e;obtain⟨ws,h1,h2⟩:=ho;obtain⟨v,r,rfl,da,el⟩:=el.uncons;obtain rfl:=el.unnil;obtain rfl:=(show v=V.int i from da.ba);obtain⟨u,g1,g2⟩:=h2.at e2;exact⟨p,ws,i,k,u,rfl,rfl,h1,c.1,c.2,by rw[h2.1];exact e1,g1,q u _ (g2.upd hp) ⟨_,aD,(h2.erase k).upd hp⟩⟩
   | _=>cases ds<;>cases e
 | _=>cases e⟩
def qp:D->D->D->Option D
 | .lst xs,.int k,v=>(vL xs.length k).bind fun j=>some (.lst (xs.set j v))
 | _,_,_=>none
theorem ki:wC K Do qp:=by
 intro Y H p x k v dk dv x' Q hp ho bk da e q;cases x with
 | lst xs =>
  cases dk with
  | int i =>
   refine bp e fun j e1 e=>?_;cases e;obtain⟨ws,h1,h2⟩:=ho;exact⟨p,ws,i,j,rfl,bk,h1,by rw[h2.1];exact e1,q _ ⟨_,aD,(h2.set da j).upd hp⟩⟩
  | _=>cases e
 | _=>cases e
end
end VF
namespace VF
open PySem PySem.Spec PyProof.Rows L2
section
variable {X:Cx} {K:PySem.W.Frag} {Y:AS} {H:Hp} {v:V} {d:D} {vs:List V} {ds:List D}
def DD (K:PySem.W.Frag):R2:=fun x y H Q=>(pU fun i j=>.int (i+j)) x y H Q∨((∃i j,x=.str i/\y=.str j/\i.length+j.length<=sizeLine/\Q (.str (i++j)) H)∨(Fc x y H Q∨wj K x y H Q))
theorem bC (h:X.K=K):OpR X (binaryOp .Add) (DD K):=op_add.or (op_add_str.or (op_cat.or (h ▸ zj)))
theorem bD:RdOp K (DD K) b9:=ro_addI.or (ro_addS.or (ro_cat.or zK))
def DE:R2:=fun x y H Q=>(rI CMul fun i j=>.int (i*j)) x y H Q∨(∃(a:Str) (n:Int),x=.str a/\y=.int n/\MulOk a n/\Q (.str (Txt.mul a n)) H)
theorem ce:OpR X (binaryOp .Mult) DE:=op_mul.or rP
theorem cg:RdOp K DE dG:=ro_mulI.or zL
def H0:R2:=fun x y H Q=>(pU fun i j=>.bl (decide (i<j))) x y H Q∨(∃i j,x=.str i/\y=.str j/\Q (.bl (decide (i.cps.toList<j.cps.toList))) H)
theorem oN:OpR X (compareOp .Lt) H0:=op_lt.or uO
theorem oO:RdOp K H0 FC:=ro_ltI.or FB
def oP (K:PySem.W.Frag):R2:=fun x y H Q=>(∃i j,x=.str i/\y=.str j/\Q (.bl (!(!(Builtin.Str.occurrences j i 0 j.length 1).isEmpty))) H)∨Jv K true x y H Q
theorem vc (h:X.K=K):OpR X (compareOp .NotIn) (oP K):=op_notin_str.or (h ▸ oy)
theorem ro_notinA:RdOp K (oP K) oK:=ro_notinS.or (FJ true)
def DF:=wO false
theorem oQ (_:X.K=K) (_:X.A.units+64<cLine):OpR X (compareOp .Eq) Ht:=Hu
theorem ro_eqA:RdOp K Ht DF:=Fz
def FV:D->D->Option Rz
 | .lst xs,.lst []=>some (.bl (!xs.isEmpty),false)
 | _,_=>none
def H9 (K:PySem.W.Frag):R2:=fun x y H Q=>∃(a b:Addr) (xs:List V),x=.ref a/\y=.ref b/\eY K H a xs/\eY K H b []/\Q (.bl (!xs.isEmpty)) H
theorem FW:RdOp K (H9 K) FV:=by
 intro Y H x y d1 d2 z Q lv b1 b2 e q;cases d1 with
 | lst xs =>
  cases d2 with
  | lst ys =>
   cases ys with
   | nil =>
    cases e;obtain⟨p,ws,rfl,hp,el⟩:=b1;obtain⟨p2,zs,rfl,hp2,el2⟩:=b2;obtain rfl:=el2.unnil;refine⟨p,p2,ws,rfl,rfl,.inl (.inl hp),.inl (.inl hp2),?_⟩;have e:ws.isEmpty=xs.isEmpty:=by
     cases ws with
     | nil=>cases xs with
      | nil=>rfl
      | cons _ _=>cases el.1
     | cons _ _=>cases xs with
      | nil=>cases el.1
      | cons _ _=>rfl
    rw[e];exact q _ H (Same.refl H) (.bl _)
   | cons _ _=>cases e
  | _=>cases e
 | _=>cases e
def FX:=ke (wO true) FV
def FY (K:PySem.W.Frag):R2:=fun x y H Q=>Jt x y H Q∨H9 K x y H Q
theorem wV (h:X.K=K) (hu:X.A.units+64<cLine):OpR X (compareOp .NotEq) (FY K):=op_ne.or (by subst h;exact Fm (by lia))
theorem ro_neA:RdOp K (FY K) FX:=ro_neS.or FW
def Ia (K:PySem.W.Frag):V->Option Int->Option Int->Hp->VK->Prop:=fun x lo hi H Q=>EY K x lo hi H Q∨(EQ K x lo hi H Q∨(∃z:Str,x=.str z/\z.length<=sizeLine/\Q (.str (Txt.slice z lo hi)) H))
theorem FZ (h:X.K=K):SlR X (Ia K):=SlR.or (h ▸ zk) (SlR.or (h ▸ ES) Fj)
theorem zO:RdSl K (Ia K) He:=RdSl.or HW (RdSl.or HX HZ)
def DG (K:PySem.W.Frag):List V->Hp->VK->Prop:=fun xs H Q=>(∃p ys,xs=[.ref p]/\(eY K H p ys∨iz K H p ys)/\Q (.int ys.length) H)∨(∃z:Str,xs=[.str z]/\z.length<=sizeLine/\Q (.int z.length) H)
theorem bi (h:X.K=K):CallR X (.builtin "len") (DG K):=CallR.or (h ▸ oz) oA
theorem bZ:RdCB K (DG K) cC:=rc_lenQ.or zN
theorem wW (z:Str):El K Y H (sgn z) (qh z):=by
 refine⟨by simp[sgn,qh],fun i v d h1 h2=>?_⟩
 unfold sgn at h1;unfold qh at h2;rw[Wb]at h1 h2;obtain⟨c,e1,rfl⟩:=Xc.mp h1;rw[e1]at h2;obtain rfl:=Option.some.inj h2;exact .str _
def wX:List D->Option Rz
 | [.str z]=>if z.cps.size<=1000000 then some (.lst (qh z),true) else none
 | _=>none
def wY:List V->Hp->VK->Prop:=fun xs H Q=>∃z:Str,xs=[.str z]/\z.cps.size<=sizeLine/\∀l,H l=none->Q (.ref l) (upd H l (.lst (sgn z)))
theorem wZ:RdCB K wY wX:=by
 intro Y H xs ds z Q lv bs e q;cases bs with
 | nil=>cases e
 | @cons v vs d ds b1 bs =>
  cases bs with
  | cons _ _=>cases d<;>cases e
  | nil =>
   cases d with
   | str a =>
    obtain⟨c,e⟩:=aC e;cases e;exact⟨a,by rw[show v=V.str a from b1],gn c,fun r hr=>q _ _ (aG hr _) (fU (wW a) hr)⟩
   | _=>cases e
def tI:List D->Option Rz
 | [.str z]=>if z.cps.size<=1000000 then some (.tup (qh z),false) else none
 | _=>none
def tL:List V->Hp->VK->Prop:=fun xs H Q=>∃z:Str,xs=[.str z]/\z.cps.size<=sizeLine/\∀l,H l=none->Q (.ref l) (upd H l (.tup (sgn z)))
theorem vd:RdCB K tL tI:=by
 intro Y H xs ds z Q lv bs e q;cases bs with
 | nil=>cases e
 | @cons v vs d ds b1 bs =>
  cases bs with
  | cons _ _=>cases d<;>cases e
  | nil =>
   cases d with
   | str a =>
    obtain⟨c,e⟩:=aC e;cases e;exact⟨a,by rw[show v=V.str a from b1],gn c,fun r hr=>q _ _ (aG hr _) (gJ (wW a) hr lv)⟩
   | _=>cases e
def rZ:=HN DC wX
def lD:=HN wT tI
def w9 (K:PySem.W.Frag):List V->Hp->VK->Prop:=fun xs H Q=>(∃p ys,xs=[.ref p]/\(eY K H p ys∨iz K H p ys)/\∀l,H l=none->Q (.ref l) (upd H l (.lst ys)))∨wY xs H Q
def tM (K:PySem.W.Frag):List V->Hp->VK->Prop:=fun xs H Q=>(∃p ys,xs=[.ref p]/\((eY K H p ys/\∀l,H l=none->Q (.ref l) (upd H l (.tup ys)))∨(iz K H p ys/\Q (.ref p) H)))∨tL xs H Q
theorem md (h:X.K=K) (hc:X.calm=true):CallR X (.type "list") (w9 K):=CallR.or (h ▸ oB) (lX hc)
theorem gK (h:X.K=K) (hc:X.calm=true):CallR X (.type "tuple") (tM K):=CallR.or (h ▸ mZ) (kU hc)
theorem qq:RdCB K (w9 K) rZ:=rc_list.or wZ
theorem kj:RdCB K (tM K) lD:=rc_tuple.or vd
def zP:D->String
 | .non=>"NoneType"
 | .bl _=>"bool"
 | .int _=>"int"
 | .str _=>"str"
 | .tup _=>"tuple"
 | .lst _=>"list"
 | .fl _=>"list"
 | .dk _=>"dict"
 | .dt _=>"dict"
 | .ty _=>"type"
 | .xc _ _ _=>"type"
def xg (n T:String):Bool:=n == T||(n == "bool"&&T == "int")
theorem F3:∀n∈["NoneType","bool","int","str","tuple","list","dict"],∀T∈["bool","int","str","tuple","list","dict"],
  (if (Value.type n == Value.type T)=true then some true else if PySem.W.kitMeta T=true then(fastBuiltinMro n).map (·.contains (Value.type T)) else none)=some (xg n T):=by decide +kernel
def Jz:List D->Option Rz
 | [d,.ty T]=>if (["bool","int","str","tuple","list","dict"].contains T&&zP d != "type")=true then some (.bl (xg (zP d) T),false) else none
 | _=>none
def jv:=Jz
def Ib (K:PySem.W.Frag):List V->Hp->VK->Prop:=fun xs H Q=>∃(Y:AS) (x:V) (d:D) (T:String),xs=[x,.ty T]/\BA K Y H x d/\(["bool","int","str","tuple","list","dict"].contains T&&zP d != "type")=true/\Q (.bl (xg (zP d) T)) H
theorem ig:RdCB K (Ib K) jv:=by
 intro Y H xs ds z Q lv bs e q;cases bs with
 | nil=>cases e
 | @cons v vs d ds b1 bs =>
  cases bs with
  | nil=>cases e
  | @cons v2 vs2 d2 ds2 b2 bs =>
   cases bs with
   | cons _ _=>cases d2<;>cases e
   | nil =>
    cases d2 with
    | ty T =>
     obtain⟨c,e⟩:=aC e;cases e;exact⟨Y,v,d,T,by rw[show v2=V.ty T from b2],b1,c,q _ H (Same.refl H) (.bl _)⟩
    | _=>cases e
theorem dH (h:X.K=K):CallR X (.builtin "isinstance") (Ib K):=by
 subst h;intro pins s σ H xs us Q I rv h;obtain⟨Y,x,d,T,rfl,b1,c,q⟩:=h;obtain⟨u,w',rfl,rx,ry⟩:=vals2 rv;cases (show w'=Value.type T from ry);rw[Xg]at c;have hT:T∈["bool","int","str","tuple","list","dict"]:=List.contains_iff_mem.mp c.1;refine bw ?_;have fin:∀tk,s.toks<=tk->EP X pins σ Q (.bool (xg (zP d) T)) { s with toks:=tk }:=fun tk hle=>⟨.bl _,H,I.tok tk (I.tkl' hle),rfl,q⟩;have ko:∀n∈["NoneType","bool","int","str","tuple","list","dict"],zP d=n->PySem.W.kitOne X.K (.type n) (.type T)=some (xg (zP d) T):=fun n hn e=>by
  rw[e];exact Fk (F3 n hn T hT)
 cases d with
 | non =>
  obtain rfl:=(show x=V.non from b1);exact cK I rx .non (ko "NoneType" (by decide) rfl) fin
 | bl b =>
  obtain rfl:=(show x=V.bl b from b1);exact cK I rx (.bl b) (ko "bool" (by decide) rfl) fin
 | int i =>
  obtain rfl:=(show x=V.int i from b1);exact cK I rx (.int i) (ko "int" (by decide) rfl) fin
 | str z =>
  obtain rfl:=(show x=V.str z from b1);exact cK I rx (.str z) (ko "str" (by decide) rfl) fin
 | ty n=>exact absurd c.2 (by simp[zP])
 | xc _ _ _=>exact absurd c.2 (by simp[zP])
 | lst ds =>
  obtain⟨a,vs,rfl,h1,_⟩:=b1;exact cK I rx (.lst h1) (ko "list" (by decide) rfl) fin
 | fl ds =>
  obtain⟨a,vs,rfl,h1,_⟩:=b1;cases (show u=Value.ref a from rx);obtain⟨its,_,pl,_⟩:=I.list h1.sq;obtain⟨o,ho,hc,_⟩:=pl.isList;exact PySem.W.kia_one PySem.W.kitx_list I.kIn ⟨o,ho,hc⟩ (ko "list" (by decide) rfl) (fun z=>nomatch z) fin
 | tup ds =>
  obtain⟨a,vs,rfl,h1,_⟩:=b1;cases (show u=Value.ref a from rx);obtain⟨its,_,pl,_⟩:=I.tuple h1.sq;obtain⟨o,ho,hc,_⟩:=pl;exact PySem.W.kia_one PySem.W.kitx_tuple I.kIn ⟨o,ho,hc⟩ (ko "tuple" (by decide) rfl) (fun z=>nomatch z) fin
 | dk ds =>
  obtain⟨a,vs,rfl,h1,_⟩:=b1;exact cK I rx (.dK h1) (ko "dict" (by decide) rfl) fin
 | dt ds =>
  obtain⟨a,ep,vs,rfl,_,h1,_⟩:=b1;exact cK I rx (.dT h1) (ko "dict" (by decide) rfl) fin
theorem kX (l:Addr) (its:Array Value) (n:Nat) (b:Addr) (more:Array Value) (m:Nat) (dd:Option Addr) (sl:Array (Option Value)) (h0:¬(!its.isEmpty&&Builtin.List.listTooLong (its.size+more.size))=true) (h1:its.size<=sizeLine) (h2:its.size+more.size<=sizeLine+1) :
  Meets (Builtin.«list.extend» ⟨[.ref l,.ref b],[]⟩) (fun _ R s=>s.heap.get? l=some { cls:=.type "list",dict:=none,data:=.seq its n,slots:=#[] }/\s.heap.get? b=some { cls:=.type "tuple",dict:=dd,data:=.seq more m,slots:=sl }/\R (.ok (.ret Value.none)) { s with heap:=s.heap.update l (Obj.mapSeq fun x=>x++more),toks:=s.toks }) :=
 .of_wp fun prog w A R s0 hh=>by
  obtain⟨hp,gg,dp,tks,oo⟩:=s0;obtain⟨hl,hb,hR⟩:=hh;have a1:=AutoSeq1.idx_int;have a2:=AutoSeq1.sub_tuple_tuple;have a3:=AutoSeq1.sub_list_list;have a4:=AutoSeq1.sub_tuple_list;have a5:=AutoSeq1.sub_list_tuple;have fits:(its++more).size<=sizeLine+1:=by
   rw[Array.size_append];exact h2
  wp_walk using (wpAny_updateSeq hl rfl (hz:=h1) (_hz':=fits)),Ak hl,Ak hb
  exact⟨_,rfl,hR⟩
def DH (K:PySem.W.Frag):V->List V->Hp->VK->Prop:=fun x vs H Q=>∃l b xs zs,x=.ref l/\vs=[.ref b]/\H l=some (.lst xs)/\iz K H b zs/\xs.length+zs.length<=sizeLine/\Q .non (upd H l (.lst (xs++zs)))
theorem zQ (h:X.K=K):E9 X "list.extend" (DH K):=by
 subst h;intro pins s σ H x vs v us Q I rx rv h;obtain⟨l,b,xs,zs,rfl,rfl,hH,hB,hz,q⟩:=h;cases rx;obtain⟨u,rfl,ru⟩:=rv.one;cases ru;obtain⟨z,its,n,r,hl,e⟩:=I.lstM hH;obtain⟨its2,r2,pl,hz2⟩:=I.tuple hB;obtain⟨⟨c2,dd2,d2,sl2⟩,ho2,hc2,n2,hd2⟩:=id pl;obtain rfl:c2=.type "tuple":=hc2;obtain rfl:d2=.seq its2.toArray n2:=hd2;have hl2:=r2.length;have hsz:its.toArray.size+its2.toArray.size<=sizeLine:=by rw[Yb,Yb];lia
 have hlong:¬ (!its.toArray.isEmpty&&Builtin.List.listTooLong (its.toArray.size+its2.toArray.size))=true:=by
  rw[p7 hsz,Cc];exact Qc
 refine AM F.slot_list_extend ⟨_,e,rfl⟩ F.entry_list_extend (F.args_list_extend_2 _ _)
  (kX l its.toArray n b its2.toArray n2 dd2 sl2 hlong (by rw[Yb];lia) (by lia)) ⟨e,ho2,?_⟩
 refine⟨.non,_,I.lset (its':=its++its2) hH e (by simp) (r.append r2) ?_,rfl,q⟩
 rw[Va];lia
def DI (K:PySem.W.Frag):V->List V->Hp->VK->Prop:=fun x vs H Q=>sY x vs H Q∨DH K x vs H Q
theorem ja (h:X.K=K) (_:X.calm=true):E9 X "list.extend" (DI K):=by
 intro pins s σ H x vs v us Q I rx rv hh;rcases hh with hh|hh
 ·exact uV pins s σ H x vs v us Q I rx rv hh
 ·exact zQ h pins s σ H x vs v us Q I rx rv hh
def jw:D->List D->Option (D×D)
 | .lst xs,[.lst ys]=>if xs.length+ys.length<=1000000 then some (.non,.lst (xs++ys)) else none
 | .lst xs,[.tup ys]=>if xs.length+ys.length<=1000000 then some (.non,.lst (xs++ys)) else none
 | _,_=>none
theorem kl:RdM K "list" (DI K) qo jw:=⟨fun Y H p x h e=>Jj h e,fun Y H p x vs ds y x' Q hp ho el e q=>by
 cases x with
 | lst xs =>
  cases ds with
  | nil=>cases e
  | cons d ds =>
   cases ds with
   | cons _ _=>cases d<;>cases e
   | nil =>
    obtain⟨ws,h1,h2⟩:=ho;obtain⟨v,r,rfl,da,el⟩:=el.uncons;obtain rfl:=el.unnil;cases d with
    | lst ys =>
     obtain⟨c,e⟩:=aC e;cases e;cases da with
     | @lst a us _ g0 g1 g2 g3=>exact .inl ⟨p,a,ws,us,rfl,rfl,h1,g1,by rw[h2.1,g2];exact gn c,q .non _ .non ⟨_,aD,(h2.app ⟨g2,g3⟩).upd hp⟩⟩
    | tup ys =>
     obtain⟨c,e⟩:=aC e;cases e;cases da with
     | @tup a us _ g1 g2 g3=>exact .inr ⟨p,a,ws,us,rfl,rfl,h1,g1.sq,by rw[h2.1,g2];exact gn c,q .non _ .non ⟨_,aD,(h2.app ⟨g2,g3⟩).upd hp⟩⟩
    | _=>cases e
 | _=>cases e⟩
def Ic (K:PySem.W.Frag) (tl:TE):TI:=fun σ H R=>lQ K tl σ H R∨(EB K tl σ H R∨Fh tl σ H R)
theorem cO (h:X.K=K) (hl:PE X l tl):PI X tg l (Ic K tl):=by
 subst h;intro pins s σ H R I hh;rcases hh with hh|hh|hh
 ·exact sL hl pins s σ H R I hh
 ·exact EC hl pins s σ H R I hh
 ·exact Fi hl pins s σ H R I hh
def nP (fe:FE):FI:=fun st=>match Ha fe st with
 | some z=>some z
 | none=>match Jf fe st with
  | some z=>some z
  | none=>JX fe st
theorem cP (h:cM K te fe):RdI K (Ic K te) (nP fe):=by
 intro st σ H O Z R E items st' e q;unfold nP at e;split at e
 ·rename_i z ez
  cases e;exact .inl (zu h st σ H O Z R E items st' ez q)
 ·split at e
  ·rename_i z ez
   cases e;exact .inr (.inl (Fp h st σ H O Z R E items st' ez q))
  ·exact .inr (.inr (Fr h st σ H O Z R E items st' e q))
end
end VF
namespace VF
open PySem PySem.Spec PyProof.Rows L2
section
variable {X:Cx} {K:PySem.W.Frag}
theorem boot_reversed:bootBuiltins "reversed"=some (.type "reversed"):=by decide +kernel
end
end VF
namespace VF
open PySem PySem.Spec PyProof.Rows L2
section
variable {X:Cx} {K:PySem.W.Frag} {Y:AS} {H:Hp} {v:V} {d:D} {vs:List V} {ds:List D}
def Id (a b:Str):Prop:=¬ b.cps.toList<a.cps.toList
instance (a b:Str):Decidable (Id a b):=by unfold Id;infer_instance
theorem xh (h:Id a b) (g:Id b a):a=b:=by
 unfold Id at *;rw[List.not_lt]at *;have e:=List.le_antisymm h g;cases a;cases b;exact congrArg Str.mk (Array.toList_inj.mp e)
theorem boot_sorted:bootBuiltins "sorted"=some (.builtin "sorted"):=by decide +kernel
end
end VF
namespace VF
open PySem L2
section
variable {K:PySem.W.Frag}
theorem tN {X:Cx} (hg:Gl X x) (hm:X.mg x=none) (hv:bootBuiltins x=some (.type T)) (hn:x≠"__name__":=by decide) (hd:(x == ("__debug__":Str))=false:=by decide):PE X (.Name x pos) (tC (.ty T)):=y7 hg hm hv rfl hn hd
def tO (K:PySem.W.Frag):Sp:=fun vs H Q _=>∃(a:Addr) (ns:List Int),vs=[.ref a]/\eY K H a (ns.map V.int)/\ns.length<=63/\∀H',Q (.bl true) H'
end
end VF
namespace VF
open PySem L2
section
variable {st st1 st2 st3 s s1 s2:En} {r r1 r2:Rs} {d d1 d2 x y x':D} {ds es:List D} {rs:List Rs} {z:Rz} {o:Ot} {i k n m:Nat} {F G B:FS} {fa fb fe fi':FE} {fr:FA} {f g:FT} {fi:FI} {fg:FG} {caps:List Nat}
theorem aw (h:F st=some (.nx s)) (h2:G s=a):aL F G st=a:=by simp only[aL,h,Qa];exact h2
theorem xi (h:F st=some (.rt r s)):aL F G st=some (.rt r s):=by simp only[aL,h,Qa]
theorem km (h:f st=some (true,s)) (h2:F s=a):kW f F G st=a:=by simp only[kW,h,Qa,if_true];exact h2
theorem jb (h:f st=some (false,s)) (h2:G s=a):kW f F G st=a:=by simp only[kW,h,Qa,We,if_false];exact h2
theorem cE (h:fe st=some (.d x,s)) (h2:kc i (.v x) s=some s1):bm fe i st=some (.nx s1):=by simp only[bm,h,Qa,h2]
theorem fw (h:fe st=some (.f x,s)) (h2:kc i (.o x) s=some s1):bm fe i st=some (.nx s1):=by simp only[bm,h,Qa,h2]
theorem cX (h:fe st=some (r,s)):fu fe st=some (.nx s):=by simp only[fu,h,Qa]
theorem cn (h:fe st=some (r,s)):cI fe st=some (.rt r s):=by simp only[cI,h,Qa]
theorem ar (h1:fa st=some (r1,s1)) (h2:fb s1=some (r2,s2)) (h3:cont s2 r1=some d1) (h4:cont s2 r2=some d2) (h5:b d1 d2=some z) (hz:mk z=r:=by rfl):aH b fa fb st=some (r,s2):=by
 simp only[aH,h1,h2,h3,h4,h5,hz,Qa]
theorem ap (h1:fa st=some (r,s1)) (h2:fr s1=some (rs,s2)):ad fa fr st=some (r::rs,s2):=by simp only[ad,h1,h2,Qa]
theorem aZ (h1:fr st=some (rs,s1)) (h2:bW s1 rs=some ds) (h3:b ds=some z) (hz:mk z=r:=by rfl):b8 b fr st=some (r,s1):=by simp only[b8,h1,h2,h3,hz,Qa]
theorem bQ (h1:fr st=some (rs,s1)) (h2:cm rs s1=some (ds,s2)) (h3:b ds=some z) (hz:mk z=r:=by rfl):cJ b fr st=some (r,s2):=by simp only[cJ,h1,h2,h3,hz,Qa]
theorem fz (h1:fr st=some (rs,s1)) (h2:bW s1 rs=some ds) (h3:b ds=some (d,false)) (h4:d.isSc=true):dQ b fr st=some (.d d,s1):=by
 simp only[dQ,h1,h2,h3,Qa,h4];rfl
theorem fA {t t0:Sl} (h0:st[i]?=some t0) (h00:t0.ow=some x0) (h1:fr st=some (rs,s1)) (h2:cm rs s1=some (ds,s2)) (h3:s2[i]?=some t) (h4:t.ow=some x) (h5:b x ds=some (z,x')) (hz:mk z=r:=by rfl) (h6:s2.set i (t.put x')=st3:=by rfl):pK b i fr st=some (r,st3):=by
 simp only[pK,h0,h00,h1,h2,h3,h4,h5,h6,hz,Qa]
theorem me {t t0:Sl} (h0:st[i]?=some t0) (h00:t0.ow=some x0) (hk:ok x0=true) (h1:fr st=some (rs,s1)) (h2:cm rs s1=some (ds,s2)) (h3:s2[i]?=some t) (h4:t.ow=some x) (h5:mm x ds=some (y,x')) (h6:s2.set i (t.put x')=st3:=by rfl):fM ok mm i fr st=some (.d y,st3):=by
 simp only[fM,h0,h00,hk,h1,h2,h3,h4,h5,h6,Qa,if_true]
theorem aJ (h:fe st=some (r,s)) (h2:Fn s r=some c):bc fe st=some (c,s):=by simp only[bc,h,h2,Qa]
theorem oR (h:f st=some (c,s)):lY f st=some (!c,s):=by simp only[lY,h,Qa]
theorem Ie (h:f st=some (true,s)) (h2:g s=a):nI f g st=a:=by simp only[nI,h,Qa,if_true];exact h2
theorem Ig (h:f st=some (false,s)):nI f g st=some (false,s):=by simp only[nI,h,Qa,We,if_false]
theorem zR (h:f st=some (false,s)) (h2:g s=a):rR f g st=a:=by simp only[rR,h,Qa,We,if_false];exact h2
theorem F4 (h:fa st=some (r,s)) (h1:Fn s r=some true) (h2:fb s=a):tG fa fb st=a:=by simp only[tG,h,h1,Qa,if_true];exact h2
theorem ci (h1:fi st=some (ds,s1)) (h2:(oH caps s1.length&&decide (ds.length<=1000000))=true) (h3:fv fg fc fe k ds (iw k caps s1)=some (es,s2)) (h4:wb caps (s2.drop k) s1=st3:=by rfl):dS k caps fi fg fc fe st=some (.f (.lst es),st3):=by
 simp only[dS,h1,Qa];rw[Ae h2,h3,← h4];rfl
theorem cF (h1:fi st=some (ds,s1)) (h2:dD fg B ds s1=some o):gH fi fg B st=some o:=by simp only[gH,h1,Qa];exact h2
theorem bt (h0:ds.length=m) (h1:F (i9 n ds)=some o) (h2:fin o=some z):bF F n m ds=some z:=by
 simp only[bF,Ae h0,h1,Qa];exact h2
theorem ii (h0:ds.length+1=m) (h1:F (eP n x ds)=some o) (h2:Dv o=some w):dU F n m x ds=some w:=by
 simp only[dU,Ae h0,h1,Qa];exact h2
theorem r6 (I:Nat->En->Prop) (Out:En->Prop) (step:∀(m:Nat) (st:En),I m st->(∃s1,f st=some (false,s1)/\Out s1)∨∃s1 s2 m',f st=some (true,s1)/\B s1=some (.nx s2)/\m'<m/\I m' s2) :
  ∀(n m:Nat) (st:En),m<n->I m st->∃sf,vM f B n st=some (.nx sf)/\Out sf
 | 0,m,st,hn,_=>absurd hn (BZ _)
 | n+1,m,st,hn,h=>by
  rcases step m st h with⟨s1,e1,ho⟩|⟨s1,s2,m',e1,e2,hm,h2⟩
  ·exact⟨s1,by simp only[vM,e1,Qa,We,if_false],ho⟩
  ·obtain⟨sf,e3,ho⟩:=r6 I Out step n m' s2 (by lia) h2
   exact⟨sf,by simp only[vM,e1,e2,Qa,if_true];exact e3,ho⟩
end
end VF
namespace VF
open PySem L2
theorem nQ:∀n:Nat,nN (List.replicate n (D.bl true))=some (List.replicate n true)
 | 0=>rfl
 | n+1=>by
  show(nN (List.replicate n (D.bl true))).bind (fun bs=>some (true::bs))=_;rw[nQ n];rfl
theorem xj (n:Nat):FP [.lst (List.replicate n (D.bl true))]=some (.bl true,false):=by
 show(nN (List.replicate n (D.bl true))).bind (fun bs=>some (D.bl (bs.all id),false))=_;rw[nQ];show some (D.bl ((List.replicate n true).all id),false)=_;have:(List.replicate n true).all id=true:=by
  rw[Yn];intro b hb;exact List.eq_of_mem_replicate hb
 rw[this]
section
variable {st s s1 s2 s3:En} {r r1:Rs} {rs:List Rs} {d d0 d1:D} {ds:List D} {z:Rz} {fe fo:FE} {fa:FA} {fl fh:FO}
theorem jx {j:Int} (h1:fa st=some (rs,s1)) (h2:bW s1 rs=some [.int j]) (h3:-(2 ^ 62)<=j/\j<2 ^ 62):m5 fa st=some (rng 0 j.toNat,s1):=by
 simp only[m5,h1,h2,Qa,rV];rw[Ae h3]
theorem Ih (h1:fe st=some (r,s1)) (h2:fl s1=some (lo,s2)) (h3:fh s2=some (hi,s3)) (h4:cont s3 r=some d) (h5:b d lo hi=some z) (hz:mk z=r':=by rfl):Hd b fe fl fh st=some (r',s3):=by
 simp only[Hd,h1,h2,h3,h4,h5,hz,Qa]
theorem DJ {f:FT} {fa fb:FE} {a:Option (Rs×En)} (h:f st=some (true,s)) (h2:fa s=a):Fo f fa fb st=a:=by simp only[Fo,h,Qa,if_true];exact h2
theorem DK {f:FT} {fa fb:FE} {a:Option (Rs×En)} (h:f st=some (false,s)) (h2:fb s=a):Fo f fa fb st=a:=by simp only[Fo,h,Qa,We,if_false];exact h2
theorem jy (h1:fe st=some (r,s1)) (h2:esc r s1=some (.lst ds,s2)):nP fe st=some (ds,s2):=by
 have:Ha fe st=some (ds,s2):=by simp only[Ha,h1,h2,Qa,D.its]
 unfold nP;rw[this]
theorem qr (h1:fe st=some (r,s1)) (h2:esc r s1=some (.tup ds,s2)):nP fe st=some (ds,s2):=by
 have e1:Ha fe st=none:=by simp only[Ha,h1,h2,Qa,D.its,Option.bind_none]
 have e2:Jf fe st=some (ds,s2):=by simp only[Jf,h1,h2,Qa,D.itt]
 unfold nP;rw[e1,e2]
theorem eQ (h1:fa st=some (rs,s1)) (h2:cm rs s1=some (ds,s2)) (h3:ds.length<=1000000):gG fa st=some (.d (.tup ds),s2):=by
 simp only[gG,h1,h2,Qa];rw[Ae h3]
end
end VF
namespace VF
open PySem L2
section
variable {K:PySem.W.Frag}
def b1 (g:D->Option D):List D->Option Rz
 | [d]=>(g d).map fun r=>(r,false)
 | _=>none
def b2 (g:D->D->Option D):List D->Option Rz
 | [d,d']=>(g d d').map fun r=>(r,false)
 | _=>none
theorem xk (h:∀(Y:AS) (H:Hp) (v:V) (d o:D) (Q:VK),BA K Y H v d->g d=some o->(∀u,DA K Y H u o->Q u H)->r [v] H Q):RdCB K r (b1 g):=by
 intro Y H xs ds z Q lv bs e q;cases bs with
 | nil=>cases e
 | @cons v vs d ds c1 bs =>
  cases bs with
  | cons _ _=>cases e
  | nil =>
   obtain⟨o,eo,rfl⟩:=Xc.mp e;exact h Y H v d o Q c1 eo fun u hu=>q u H (Same.refl H) hu
theorem F5 (h:∀(Y:AS) (H:Hp) (v w:V) (d d' o:D) (Q:VK),BA K Y H v d->BA K Y H w d'->g d d'=some o->(∀u,DA K Y H u o->Q u H)->r [v,w] H Q):RdCB K r (b2 g):=by
 intro Y H xs ds z Q lv bs e q;cases bs with
 | nil=>cases e
 | @cons v vs d ds c1 bs =>
  cases bs with
  | nil=>cases e
  | @cons w ws d' ds' c2 bs =>
   cases bs with
   | cons _ _=>cases e
   | nil =>
    obtain⟨o,eo,rfl⟩:=Xc.mp e;exact h Y H v w d d' o Q c1 c2 eo fun u hu=>q u H (Same.refl H) hu
def kY:D->Option D
 | .int i=>some (.int (if i<0 then -i else i))
 | _=>none
theorem gL:RdCB K (fun xs H Q=>∃i,xs=[.int i]/\Q (.int (if i<0 then -i else i)) H) (b1 kY):=xk fun Y H v d o Q c e q=>by
 cases d with
 | int i=>cases e;exact⟨i,by rw[show v=V.int i from c],q _ (.int _)⟩
 | _=>cases e
def F6:D->D->Option D
 | .int i,.int j=>some (.int (if j<i then j else i))
 | _,_=>none
theorem zS:RdCB K (fun xs H Q=>∃i j,xs=[.int i,.int j]/\Q (.int (if j<i then j else i)) H) (b2 F6):=F5 fun Y H v w d d' o Q c c' e q=>by
 cases d with
 | int i =>
  cases d' with
  | int j=>cases e;exact⟨i,j,by rw[show v=V.int i from c,show w=V.int j from c'],q _ (.int _)⟩
  | _=>cases e
 | _=>cases e
def qt:D->Option D
 | .int i=>some (.int i)
 | .bl k=>some (.int (if k then 1 else 0))
 | _=>none
theorem jz:RdCB K (fun xs H Q=>(∃i,xs=[.int i]/\Q (.int i) H)∨∃k,xs=[.bl k]/\Q (.int (if k then 1 else 0)) H) (b1 qt):=xk fun Y H v d o Q c e q=>by
 cases d with
 | int i=>cases e;exact .inl ⟨i,by rw[show v=V.int i from c],q _ (.int _)⟩
 | bl k=>cases e;exact .inr ⟨k,by rw[show v=V.bl k from c],q _ (.int _)⟩
 | _=>cases e
end
end VF
namespace VF
open PySem L2
inductive Pl:Nat->D->Prop where
 | non (n:Nat):Pl (n+1) .non
 | int (n:Nat) (i:Int):Pl (n+1) (.int i)
 | str (n:Nat) (x:Str):Pl (n+1) (.str x)
 | tup {n:Nat} {ds:List D}:(∀d∈ds,Pl n d)->Pl (n+1) (.tup ds)
 | lst {n:Nat} {ds:List D}:(∀d∈ds,Pl n d)->Pl (n+1) (.lst ds)
inductive RH (h:Heap):Value->D->Prop where
 | non:RH h .none .non
 | int (i:Int) (t:Tok):RH h (.int i t) (.int i)
 | str (x:Str) (t:Tok):RH h (.str x t) (.str x)
 | tup {a:Addr} {its:List Value} {ds:List D}:h.IsTuple a its.toArray->its.length=ds.length->(∀(i:Nat) u d,its[i]?=some u->ds[i]?=some d->RH h u d)->RH h (.ref a) (.tup ds)
 | lst {a:Addr} {its:List Value} {ds:List D}:h.IsList a its.toArray->its.length=ds.length->(∀(i:Nat) u d,its[i]?=some u->ds[i]?=some d->RH h u d)->RH h (.ref a) (.lst ds)
section
variable {X:Cx} {K:PySem.W.Frag} {Y:AS} {H:Hp} {s:Shared} {pins:List (Addr×Obj)} {σ:St}
theorem Pl.up (h:Pl n d):Pl (n+1) d:=by
 induction h with
 | non n=>exact .non _
 | int n i=>exact .int _ i
 | str n x=>exact .str _ x
 | tup _ ih=>exact .tup ih
 | lst _ ih=>exact .lst ih
theorem eC:∀{vs:List V} {us:List Value},Vals vs us->∀(i:Nat) u,us[i]?=some u->∃v,vs[i]?=some v/\RelV v u
 | _,_,.nil,i,u,h=>by simp at h
 | v::_,w::_,.cons r rs,0,u,h=>by
  have e:w=u:=by simpa using h
  exact⟨v,rfl,e ▸ r⟩
 | _::_,_::_,.cons r rs,i+1,u,h=>by
  obtain⟨v,h1,h2⟩:=eC rs i u (by simpa using h)
  exact⟨v,by simpa using h1,h2⟩
theorem DA.rh (h:DA K Y H v d) (p:Pl n d) (I:Inv X pins σ H s) (hK:X.K=K):∀{u:Value},RelV v u->RH s.heap u d:=by
 induction h generalizing n with
 | non=>intro u r;cases r;exact .non
 | bl b=>cases p
 | int i=>intro u r;obtain⟨t,rfl⟩:=r;exact .int i t
 | str x=>intro u r;obtain⟨t,rfl⟩:=r;exact .str x t
 | ty n=>cases p
 | fl _ _ _ _=>cases p
 | dk _ _ _ _ _=>cases p
 | dt _ _ _ _ _ _=>cases p
 | xc _=>cases p
 | @tup a vs ds h1 h2 h3 ih =>
  intro u r;cases r;cases p with
  | tup p =>
   obtain⟨its,r,t,_⟩:=I.tuple (hK ▸ h1.sq);refine .tup t (r.length.symm.trans h2) fun i u d e1 e2=>?_;obtain⟨v,e3,rv⟩:=eC r i u e1;exact ih i v d e3 e2 (p d (Xb e2)) rv
 | @lst a vs ds h0 h1 h2 h3 ih =>
  intro u r;cases r;cases p with
  | lst p =>
   obtain⟨its,r,t,_⟩:=I.list (show eY X.K H a vs from .inl (.inl h1));refine .lst t.isList (r.length.symm.trans h2) fun i u d e1 e2=>?_;obtain⟨v,e3,rv⟩:=eC r i u e1;exact ih i v d e3 e2 (p d (Xb e2)) rv
theorem BA.rh (h:BA K Y H v d) (p:Pl n d) (I:Inv X pins σ H s) (hK:X.K=K) (ru:RelV v u):RH s.heap u d:=by
 cases p with
 | non=>cases (show v=.non from h);cases ru;exact .non
 | int _ i=>cases (show v=.int i from h);obtain⟨t,rfl⟩:=ru;exact .int i t
 | str _ x=>cases (show v=.str x from h);obtain⟨t,rfl⟩:=ru;exact .str x t
 | tup p =>
  obtain⟨a,vs,rfl,h1,el⟩:=h;cases ru;obtain⟨its,r,t,_⟩:=I.tuple (hK ▸ h1.sq);refine .tup t (r.length.symm.trans el.1) fun i u d e1 e2=>?_;obtain⟨v,e3,rv⟩:=eC r i u e1;exact(el.2 i v d e3 e2).rh (p d (Xb e2)) I hK rv
 | lst p =>
  obtain⟨a,vs,rfl,h1,el⟩:=h;cases ru;obtain⟨its,r,t,_⟩:=I.list (show eY X.K H a vs from .inl (.inl h1));refine .lst t.isList (r.length.symm.trans el.1) fun i u d e1 e2=>?_;obtain⟨v,e3,rv⟩:=eC r i u e1;exact(el.2 i v d e3 e2).rh (p d (Xb e2)) I hK rv
theorem ve {h:Heap} (h1:h.IsTuple a x) (h2:h.IsTuple a y):x=y:=by
 obtain⟨o,e1,_,n,d1⟩:=h1;obtain⟨o',e2,_,n',d2⟩:=h2;rw[e1]at e2;cases e2;rw[d1]at d2;cases d2;rfl
theorem r9 {h:Heap} (h1:h.IsList a x) (h2:h.IsList a y):x=y:=by
 obtain⟨o,e1,_,n,d1⟩:=h1;obtain⟨o',e2,_,n',d2⟩:=h2;rw[e1]at e2;cases e2;rw[d1]at d2;cases d2;rfl
theorem qu {h:Heap} (h1:h.IsList a x) (h2:h.IsTuple a y):False:=by
 obtain⟨o,e1,c1,_⟩:=h1;obtain⟨o',e2,c2,_⟩:=h2;rw[e1]at e2;cases e2;rw[c1]at c2;injection c2 with c2;exact absurd c2 (by decide)
theorem RH.inj (r:RH h u d):∀{d':D},RH h u d'->d=d':=by
 induction r with
 | non=>intro d' r';cases r';rfl
 | int i t=>intro d' r';cases r';rfl
 | str x t=>intro d' r';cases r';rfl
 | @tup a its ds t hl _ ih =>
  intro d' r';cases r' with
  | @tup _ its' ds' t' hl' f =>
   have e:its=its':=by simpa using ve t t'
   subst e;have:ds=ds':=by
    refine Bl (hl.symm.trans hl') fun i h1 h2=>?_;exact ih i its[i] ds[i] (Za (by lia)) (Za h1) (f i its[i] ds'[i] (Za (by lia)) (Za h2))
   rw[this]
  | lst t' _ _=>exact(qu t' t).elim
 | @lst a its ds t hl _ ih =>
  intro d' r';cases r' with
  | @lst _ its' ds' t' hl' f =>
   have e:its=its':=by simpa using r9 t t'
   subst e;have:ds=ds':=by
    refine Bl (hl.symm.trans hl') fun i h1 h2=>?_;exact ih i its[i] ds[i] (Za (by lia)) (Za h1) (f i its[i] ds'[i] (Za (by lia)) (Za h2))
   rw[this]
  | tup t' _ _=>exact(qu t t').elim
open Classical in
theorem xl {xs ys:List D} (h:xs.length=ys.length):((List.range xs.length).all fun j=>decide (xs[j]?=ys[j]?))=decide (xs=ys):=by
 rw[Zf,Yn,decide_eq_true_eq];constructor
 ·intro e;refine Zk fun j=>?_;by_cases hj:j<xs.length
  ·exact Ao (e j (Qb.mpr hj))
  ·rw[Qe (by lia),Qe (by lia)]
 ·rintro rfl j _;exact Ag rfl
open Classical in
theorem eq3 {d1 d2:D} {u1 u2:Value} {A:Around} (h:¬ d1=d2) (a:SeqAt.EqAt A s u1 u2 false) (b:SeqAt.RcAt A s u1 u2 false) (c:SeqAt.RcNeAt A s u1 u2 true) :
  SeqAt.EqAt A s u1 u2 (decide (d1=d2))/\SeqAt.RcAt A s u1 u2 (decide (d1=d2))/\SeqAt.RcNeAt A s u1 u2 (!decide (d1=d2)):=by
 rw[Ad h];exact⟨a,b,c⟩
open Classical in
theorem JY {s:Shared} {its its':List Value} {ds ds':List D} (hl:its.length=ds.length) (hl':its'.length=ds'.length) (f:∀(j:Nat) u d,its[j]?=some u->ds[j]?=some d->RH s.heap u d) (f':∀(j:Nat) u d,its'[j]?=some u->ds'[j]?=some d->RH s.heap u d) (p1:∀d∈ds,Pl n d) (p2:∀d∈ds',Pl n d)
  (ih:∀{d1 d2:D} {u1 u2:Value},Pl n d1->Pl n d2->RH s.heap u1 d1->RH s.heap u2 d2->SeqAt.EqAt A s u1 u2 (decide (d1=d2))) (j:Nat) (h1:j<its.toArray.size) (h2:j<its'.toArray.size):SeqAt.EqAt A s its.toArray[j] its'.toArray[j] (decide (ds[j]?=ds'[j]?)):=by
 have h1':j<its.length:=by simpa using h1
 have h2':j<its'.length:=by simpa using h2
 have e1:ds[j]?=some ds[j]:=Za (hl ▸ h1');have e2:ds'[j]?=some ds'[j]:=Za (hl' ▸ h2');have z:=ih (p1 _ (Xb e1)) (p2 _ (Xb e2)) (f j its[j] _ (Za h1') e1) (f' j its'[j] _ (Za h2') e2);have e:decide (ds[j]?=ds'[j]?)=decide (ds[j]=ds'[j]):=by rw[e1,e2,Zf];simp
 rw[e];exact z
open Classical in
theorem RH.eqAt:∀(n:Nat) {s:Shared} {d1 d2:D} {u1 u2:Value} {A:Around},Pl n d1->Pl n d2->RH s.heap u1 d1->RH s.heap u2 d2->A.units+n<cLine ->
  SeqAt.EqAt A s u1 u2 (decide (d1=d2))/\SeqAt.RcAt A s u1 u2 (decide (d1=d2))/\SeqAt.RcNeAt A s u1 u2 (!decide (d1=d2)):=by
 intro n;induction n with
 | zero=>intro s d1 d2 u1 u2 A p;cases p
 | succ n ih =>
  intro s d1 d2 u1 u2 A p1 p2 r1 r2 hu;have hu':A.units<cLine:=by lia
  cases r1 with
  | non =>
   cases r2 with
   | non=>rw[Ag rfl];exact⟨SeqAt.EqAt.same _,SeqAt.RcAt.none_none,SeqAt.RcNeAt.none_none⟩
   | int i t=>exact eq3 (by intro z;cases z) (SeqAt.EqAt.none_int _ _) (SeqAt.RcAt.none_int _ _) (SeqAt.RcNeAt.none_int _ _)
   | str x t=>exact eq3 (by intro z;cases z) (SeqAt.EqAt.none_str _ _) (SeqAt.RcAt.none_str _ _) (SeqAt.RcNeAt.none_str _ _)
   | tup t _ _=>exact eq3 (by intro z;cases z) (SeqAt.EqAt.none_tuple t hu') (SeqAt.RcAt.none_tuple t hu') (SeqAt.RcNeAt.none_tuple t hu')
   | lst t _ _=>exact eq3 (by intro z;cases z) (SeqAt.EqAt.none_list t hu') (SeqAt.RcAt.none_list t hu') (SeqAt.RcNeAt.none_list t hu')
  | int i t =>
   cases r2 with
   | non=>exact eq3 (by intro z;cases z) (SeqAt.EqAt.int_none _ _) (SeqAt.RcAt.int_none _ _) (SeqAt.RcNeAt.int_none _ _)
   | int j t' =>
    have e:decide (D.int i=D.int j)=(i == j):=by rw[Zf];simp
    rw[e];exact⟨SeqAt.EqAt.int_int _ _ _ _,SeqAt.RcAt.int_int _ _ _ _,SeqAt.RcNeAt.int_int _ _ _ _⟩
   | str x t'=>exact eq3 (by intro z;cases z) (BJ _ _ _ _) (SeqAt.RcAt.int_str _ _ _ _) (SeqAt.RcNeAt.int_str _ _ _ _)
   | tup t' _ _=>exact eq3 (by intro z;cases z) (SeqAt.EqAt.int_tuple _ _ t' hu') (SeqAt.RcAt.int_tuple _ _ t' hu') (SeqAt.RcNeAt.int_tuple _ _ t' hu')
   | lst t' _ _=>exact eq3 (by intro z;cases z) (SeqAt.EqAt.int_list _ _ t' hu') (SeqAt.RcAt.int_list _ _ t' hu') (SeqAt.RcNeAt.int_list _ _ t' hu')
  | str x t =>
   cases r2 with
   | non=>exact eq3 (by intro z;cases z) (SeqAt.EqAt.str_none _ _) (SeqAt.RcAt.str_none _ _) (SeqAt.RcNeAt.str_none _ _)
   | int j t'=>exact eq3 (by intro z;cases z) (BI _ _ _ _) (SeqAt.RcAt.str_int _ _ _ _) (SeqAt.RcNeAt.str_int _ _ _ _)
   | str y t' =>
    have e:decide (D.str x=D.str y)=(x == y):=by rw[Zf];simp
    rw[e];exact⟨SeqAt.EqAt.str_str _ _ _ _,SeqAt.RcAt.str_str _ _ _ _,SeqAt.RcNeAt.str_str _ _ _ _⟩
   | tup t' _ _=>exact eq3 (by intro z;cases z) (SeqAt.EqAt.str_tuple _ _ t' hu') (SeqAt.RcAt.str_tuple _ _ t' hu') (SeqAt.RcNeAt.str_tuple _ _ t' hu')
   | lst t' _ _=>exact eq3 (by intro z;cases z) (SeqAt.EqAt.str_list _ _ t' hu') (SeqAt.RcAt.str_list _ _ t' hu') (SeqAt.RcNeAt.str_list _ _ t' hu')
  | @tup a its ds t hl f =>
   cases r2 with
   | non=>exact eq3 (by intro z;cases z) (SeqAt.EqAt.tuple_none t hu') (SeqAt.RcAt.tuple_none t hu') (SeqAt.RcNeAt.tuple_none t hu')
   | int j t'=>exact eq3 (by intro z;cases z) (SeqAt.EqAt.tuple_int _ _ t hu') (SeqAt.RcAt.tuple_int _ _ t hu') (SeqAt.RcNeAt.tuple_int _ _ t hu')
   | str y t'=>exact eq3 (by intro z;cases z) (SeqAt.EqAt.tuple_str _ _ t hu') (SeqAt.RcAt.tuple_str _ _ t hu') (SeqAt.RcNeAt.tuple_str _ _ t hu')
   | lst t' _ _=>exact eq3 (by intro z;cases z) (SeqAt.EqAt.tuple_list t t' hu') (SeqAt.RcAt.tuple_list t t' hu') (SeqAt.RcNeAt.tuple_list t t' hu')
   | @tup b its' ds' t' hl' f' =>
    cases p1 with
    | tup p1 =>
    cases p2 with
    | tup p2 =>
    have it:=JY (A:=A.in1) hl hl' f f' p1 p2 fun q1 q2 q3 q4=>(ih (A:=A.in1) q1 q2 q3 q4 (by show A.units+1+n<cLine;lia)).1
    have e:decide (D.tup ds=D.tup ds')=((List.range (min its.toArray.size its'.toArray.size)).all (fun j=>decide (ds[j]?=ds'[j]?))&&its.toArray.size == its'.toArray.size):=by
     simp only[Yb];by_cases hh:its.length=its'.length
     ·rw[← hh,Nat.min_self,hl,xl (by lia),Zf];simp
     ·have:ds≠ds':=fun z=>hh (by rw[hl,hl',z])
      rw[Zf];simp[hh,this]
    have rc:SeqAt.RcAt A s (.ref a) (.ref b) (decide (D.tup ds=D.tup ds')):=by
     rw[e];exact SeqAt.RcAt.tuples (A:=A) (e:=fun j=>decide (ds[j]?=ds'[j]?)) t t' hu' it
    have rn:SeqAt.RcNeAt A s (.ref a) (.ref b) (!decide (D.tup ds=D.tup ds')):=by
     rw[e];exact SeqAt.RcNeAt.tuples (A:=A) (e:=fun j=>decide (ds[j]?=ds'[j]?)) t t' hu' it
    refine⟨?_,rc,rn⟩;by_cases hab:a=b
    ·subst hab;have:=RH.inj (RH.tup t hl f) (RH.tup t' hl' f');rw[this,Ag rfl];exact SeqAt.EqAt.same _
    ·exact A3 hab rc
  | @lst a its ds t hl f =>
   cases r2 with
   | non=>exact eq3 (by intro z;cases z) (SeqAt.EqAt.list_none t hu') (SeqAt.RcAt.list_none t hu') (SeqAt.RcNeAt.list_none t hu')
   | int j t'=>exact eq3 (by intro z;cases z) (SeqAt.EqAt.list_int _ _ t hu') (SeqAt.RcAt.list_int _ _ t hu') (SeqAt.RcNeAt.list_int _ _ t hu')
   | str y t'=>exact eq3 (by intro z;cases z) (SeqAt.EqAt.list_str _ _ t hu') (SeqAt.RcAt.list_str _ _ t hu') (SeqAt.RcNeAt.list_str _ _ t hu')
   | tup t' _ _=>exact eq3 (by intro z;cases z) (SeqAt.EqAt.list_tuple t t' hu') (SeqAt.RcAt.list_tuple t t' hu') (SeqAt.RcNeAt.list_tuple t t' hu')
   | @lst b its' ds' t' hl' f' =>
    cases p1 with
    | lst p1 =>
    cases p2 with
    | lst p2 =>
    have it:=JY (A:=A.in1) hl hl' f f' p1 p2 fun q1 q2 q3 q4=>(ih (A:=A.in1) q1 q2 q3 q4 (by show A.units+1+n<cLine;lia)).1
    have both:SeqAt.RcAt A s (.ref a) (.ref b) (decide (D.lst ds=D.lst ds'))/\SeqAt.RcNeAt A s (.ref a) (.ref b) (!decide (D.lst ds=D.lst ds')):=by
     by_cases hh:its.length=its'.length
     ·have e:decide (D.lst ds=D.lst ds')=(List.range its.toArray.size).all fun j=>decide (ds[j]?=ds'[j]?):=by
       simp only[Yb];rw[hl,xl (by lia),Zf];simp
      rw[e];exact⟨SeqAt.RcAt.lists (A:=A) (e:=fun j=>decide (ds[j]?=ds'[j]?)) t t' (by simpa using hh) hu' it,SeqAt.RcNeAt.lists (A:=A) (e:=fun j=>decide (ds[j]?=ds'[j]?)) t t' (by simpa using hh) hu' it⟩
     ·have:ds≠ds':=fun z=>hh (by rw[hl,hl',z])
      rw[Ad (by intro z;cases z;exact this rfl)]
      exact⟨SeqAt.RcAt.lists_lengths t t' (by simpa using hh) hu',B7 t t' (by simpa using hh) hu'⟩
    obtain⟨rc,rn⟩:=both;refine⟨?_,rc,rn⟩;by_cases hab:a=b
    ·subst hab;have:=RH.inj (RH.lst t hl f) (RH.lst t' hl' f');rw[this,Ag rfl];exact SeqAt.EqAt.same _
    ·exact A3 hab rc
open Classical in
noncomputable def qv (neg:Bool):D->D->Option Rz:=fun a b=>if Pl 40 a/\Pl 40 b then some (.bl (if neg then !decide (a=b) else decide (a=b)),false) else none
open Classical in
def xn (K:PySem.W.Frag) (neg:Bool):R2:=fun x y H Q=>∃(Y:AS) (a b:D),BA K Y H x a/\BA K Y H y b/\Pl 40 a/\Pl 40 b/\Q (.bl (if neg then !decide (a=b) else decide (a=b))) H
theorem xo (neg:Bool):RdOp K (xn K neg) (qv neg):=by
 intro Y H x y d1 d2 z Q lv b1 b2 e q;unfold qv at e;obtain⟨c,e⟩:=aC e;cases e;exact⟨Y,d1,d2,b1,b2,c.1,c.2,q _ H (Same.refl H) (.bl _)⟩
theorem F7 (h:X.K=K) (hu:X.A.units+64<cLine):OpR X (compareOp .Eq) (xn K false):=by
 intro pins s σ H x y v u Q I rx ry ⟨Y,a,b,b1,b2,p1,p2,q⟩;exact(RH.eqAt 40 (A:=X.A) p1 p2 (b1.rh p1 I h rx) (b2.rh p2 I h ry) (by lia)).2.1 _ _ _ _ ⟨.bl _,H,I,rfl,q⟩
theorem F8 (h:X.K=K) (hu:X.A.units+64<cLine):OpR X (compareOp .NotEq) (xn K true):=by
 intro pins s σ H x y v u Q I rx ry ⟨Y,a,b,b1,b2,p1,p2,q⟩;exact(RH.eqAt 40 (A:=X.A) p1 p2 (b1.rh p1 I h rx) (b2.rh p2 I h ry) (by lia)).2.2 _ _ _ _ ⟨.bl _,H,I,rfl,q⟩
noncomputable def qw:=ke DF (qv false)
noncomputable def ix:=ke FX (qv true)
def Ii (K:PySem.W.Frag):R2:=fun x y H Q=>Ht x y H Q∨xn K false x y H Q
def Ij (K:PySem.W.Frag):R2:=fun x y H Q=>FY K x y H Q∨xn K true x y H Q
theorem xp (h:X.K=K) (hu:X.A.units+64<cLine):OpR X (compareOp .Eq) (Ii K):=(oQ h hu).or (F7 h hu)
theorem xq:RdOp K (Ii K) qw:=ro_eqA.or (xo false)
theorem mf (h:X.K=K) (hu:X.A.units+64<cLine):OpR X (compareOp .NotEq) (Ij K):=(wV h hu).or (F8 h hu)
theorem mi:RdOp K (Ij K) ix:=ro_neA.or (xo true)
open Classical in
noncomputable def F9 (neg:Bool):D->D->Option Rz:=fun a b=>match b.seq with
 | some ds=>if Pl 40 a/\(∀d∈ds,Pl 40 d) then some (.bl (if neg then !decide (a∈ds) else decide (a∈ds)),false) else none
 | none=>none
open Classical in
def Ga (K:PySem.W.Frag) (neg:Bool):R2:=fun x y H Q=>∃(Y:AS) (a b:D) (ds:List D),BA K Y H x a/\BA K Y H y b/\b.seq=some ds/\Pl 40 a/\(∀d∈ds,Pl 40 d)/\Q (.bl (if neg then !decide (a∈ds) else decide (a∈ds))) H
theorem Gb (neg:Bool):RdOp K (Ga K neg) (F9 neg):=by
 intro Y H x y d1 d2 z Q lv b1 b2 e q;unfold F9 at e;split at e
 ·rename_i ds hs
  obtain⟨c,e⟩:=aC e;cases e;exact⟨Y,d1,d2,ds,b1,b2,hs,c.1,c.2,q _ H (Same.refl H) (.bl _)⟩
 ·cases e
open Classical in
theorem xt {ds:List D} {its:List Value} {A:Around} (hl:its.length=ds.length) (f:∀(i:Nat) u d,its[i]?=some u->ds[i]?=some d->RH s.heap u d) (p1:Pl 40 a) (p2:∀d∈ds,Pl 40 d) (r:RH s.heap u a) (hu:A.units+64<cLine) :
  (∀y,y∈its.toArray->SeqAt.EqAt A.in1 s y u (decide (RH s.heap y a)))/\its.toArray.any (fun y=>decide (RH s.heap y a))=decide (a∈ds):=by
 constructor
 ·intro y hy;obtain⟨i,hi,rfl⟩:=Yi.mp (show y∈its by simpa using hy)
  have e1:ds[i]?=some ds[i]:=Za (by lia)
  have ry:=f i its[i] _ (Za hi) e1;have z:=(RH.eqAt 40 (A:=A.in1) (p2 _ (Xb e1)) p1 ry r (by show A.units+1+40<cLine;lia)).1
  have e:decide (ds[i]=a)=decide (RH s.heap its[i] a):=by
   rw[Zf,decide_eq_true_eq,decide_eq_true_eq];exact⟨fun e=>e ▸ ry,fun r'=>ry.inj r'⟩
  rw[← e];exact z
 ·rw[Zf,decide_eq_true_eq];simp only[List.any_toArray,List.any_eq_true,decide_eq_true_eq];constructor
  ·rintro⟨y,hy,ry⟩;obtain⟨i,hi,rfl⟩:=Yi.mp hy;have e1:ds[i]?=some ds[i]:=Za (by lia)
   have:=(f i its[i] _ (Za hi) e1).inj ry;rw[← this];exact Xb e1
  ·intro ha;obtain⟨i,hi,rfl⟩:=Yi.mp ha;exact⟨its[i],Yj _,f i _ _ (Za (by lia)) (Za hi)⟩
theorem vf {d:D} {ds:List D} (h:BA K Y H v d) (e:d.seq=some ds) (p:∀x∈ds,Pl 40 x) (I:Inv X pins σ H s) (hK:X.K=K) (ru:RelV v u) :
  ∃a its,u=.ref a/\(s.heap.IsList a (List.toArray its)∨s.heap.IsTuple a its.toArray)/\its.length=ds.length/\∀(i:Nat) u d,its[i]?=some u->ds[i]?=some d->RH s.heap u d:=by
 obtain⟨a,vs,rfl,sq,el⟩:=kh h e;cases ru;have rest:∀{its:List Value},Vals vs its->its.length=ds.length/\∀(i:Nat) u d,its[i]?=some u->ds[i]?=some d->RH s.heap u d:=fun {its} r=>by
  refine⟨r.length.symm.trans el.1,fun i u d e1 e2=>?_⟩;obtain⟨v,e3,rv⟩:=eC r i u e1;exact(el.2 i v d e3 e2).rh (p d (Xb e2)) I hK rv
 rcases sq with sq|sq
 ·obtain⟨its,r,t,_⟩:=I.list (hK ▸ sq);exact⟨a,its,rfl,.inl t.isList,rest r⟩
 ·obtain⟨its,r,t,_⟩:=I.tuple (hK ▸ sq);exact⟨a,its,rfl,.inr t,rest r⟩
theorem vg (h:X.K=K) (hu:X.A.units+64<cLine):OpR X (compareOp .NotIn) (Ga K true):=by
 intro pins s σ H x y v u Q I rx ry ⟨Y,a,b,ds,b1,b2,hs,p1,p2,q⟩;obtain⟨l,its,rfl,hl,hn,f⟩:=vf b2 hs p2 I h ry;obtain⟨h1,h2⟩:=xt (A:=X.A) hn f p1 p2 (b1.rh p1 I h rx) hu;rcases hl with hl|hl
 ·refine SeqAt.notIn_listAt _ hl h1 ?_;rw[h2];exact⟨.bl _,H,I,rfl,q⟩
 ·refine SeqAt.notIn_tupleAt _ hl h1 ?_;rw[h2];exact⟨.bl _,H,I,rfl,q⟩
noncomputable def fV:=ke oK (F9 true)
def tP (K:PySem.W.Frag):R2:=fun x y H Q=>oP K x y H Q∨Ga K true x y H Q
theorem nR (h:X.K=K) (hu:X.A.units+64<cLine):OpR X (compareOp .NotIn) (tP K):=(vc h).or (vg h hu)
theorem nS:RdOp K (tP K) fV:=ro_notinA.or (Gb true)
end
end VF
namespace VF
open PySem L2 PySem.Spec
section
variable {X:Cx} {a b e:Expr} {ta te:TE}
theorem oS (hK:X.K=K) (hc:X.calm=true) (h:Hn X es t)
  (hn:(assignEach es X.env).length=n:=by rfl) (hst:(assignEach es X.env).findIdx? (·.1)=none:=by rfl):PG X (.Tuple es k pos) (Ez K n t):=hK ▸ EA hc h hn hst
end
end VF
namespace VF
open PySem L2
section
variable {α:Type} {fg:FG} {B:FS} {fc:FT} {fe:FE} {k:Nat}
theorem bE (f:α->D) (all:List α) (I:List α->En->Prop) (step:∀(gone:List α) (x:α) (rest:List α) (st:En),all=gone++x::rest->I gone st->∃s1 s2,fg (f x) st=some s1/\B s1=some (.nx s2)/\I (gone++[x]) s2) :
  ∀(items gone:List α) (st:En),all=gone++items->I gone st->∃sf,dD fg B (items.map f) st=some (.nx sf)/\I all sf
 | [],gone,st,ha,h=>⟨st,rfl,by rw[ha,AV];exact h⟩
 | x::r,gone,st,ha,h=>by
  obtain⟨s1,s2,e1,e2,e3⟩:=step gone x r st ha h;obtain⟨sf,e4,e5⟩:=bE f all I step r (gone++[x]) s2 (by rw[Yk];exact ha) e3
  refine⟨sf,?_,e5⟩;simp only[Vd,dD,e1,e2,Qa];exact e4
theorem fW (f g:α->D) (p:α->Bool) (sb:En):∀(xs:List α),(∀x∈xs,∃s1 s2,fg (f x) sb=some s1/\fc s1=some (p x,s2)/\(p x=false->rf k s2=sb)/\(p x=true->∃y s3 s4,fe s2=some (y,s3)/\esc y s3=some (g x,s4)/\rf k s4=sb)) ->
  fv fg fc fe k (xs.map f) sb=some ((xs.filter p).map g,sb)
 | [],_=>rfl
 | x::r,h=>by
  obtain⟨s1,s2,e1,e2,hf,ht⟩:=h x Wd;have ih:=fW f g p sb r fun y hy=>h y (Yc _ hy);cases hp:p x with
  | false =>
   rw[hp]at e2;simp only[Vd,fv,e1,e2,Qa,We,if_false,hf hp,ih,Bk,hp]
  | true =>
   rw[hp]at e2;obtain⟨y,s3,s4,e3,e4,e5⟩:=ht hp;simp only[Vd,fv,e1,e2,Qa,if_true,e3,e4,e5,ih,Bk,hp]
theorem bK (f g:α->D) (sb:En) (xs:List α) (h:∀x∈xs,∃s1 s2 y s3 s4,fg (f x) sb=some s1/\fc s1=some (true,s2)/\fe s2=some (y,s3)/\esc y s3=some (g x,s4)/\rf k s4=sb) :
  fv fg fc fe k (xs.map f) sb=some (xs.map g,sb):=by
 have:=fW (fg:=fg) (fc:=fc) (fe:=fe) (k:=k) f g (fun _=>true) sb xs fun x hx=>by
  obtain⟨s1,s2,y,s3,s4,e1,e2,e3,e4,e5⟩:=h x hx;exact⟨s1,s2,e1,e2,fun z=>(Bool.noConfusion z),fun _=>⟨y,s3,s4,e3,e4,e5⟩⟩
 rw[this,List.filter_eq_self.mpr fun _ _=>rfl]
end
theorem qx (S:List D->En->Prop) (all:List α) (bound:Nat)
  (step:∀acc x st,x∈all->acc.length+(g x).length<=bound->S acc st->∃s1 s2,fg (f x) st=some s1/\B s1=some (.nx s2)/\S (acc++g x) s2) :
  ∀(xs:List α) (base:List D) (st:En),(∀x∈xs,x∈all)->base.length+(xs.flatMap g).length<=bound->S base st->∃sf,dD fg B (xs.map f) st=some (.nx sf)/\S (base++xs.flatMap g) sf
 | [],base,st,_,_,h=>⟨st,rfl,by simpa using h⟩
 | x::r,base,st,ha,hb,h=>by
  rw[Xi,Va]at hb;obtain⟨s1,s2,e1,e2,e3⟩:=step base x st (ha x Wd) (by lia) h
  obtain⟨sf,e4,e5⟩:=qx S all bound step r (base++g x) s2 (fun y hy=>ha y (Yc _ hy)) (by rw[Va];lia) e3
  refine⟨sf,?_,by rw[Xi,← Yk];exact e5⟩
  simp only[Vd,dD,e1,e2,Qa];exact e4
section
variable {st s1:En} {rs:List Rs} {fa:FA}
theorem Ik {t:Sl} (h0:st[i]?=some t) (h00:t.ow=some x) (hk:ok x=true) (h5:mm x []=some (y,x')) (h6:st.set i (t.put x')=st3:=by rfl):Jg ok mm i st=some (.d y,st3):=by
 simp only[Jg,h0,h00,hk,h5,h6,Qa,if_true]
theorem oT {xs ys:List D} (h:xs.length+ys.length<=1000000):jw (.lst xs) [.lst ys]=some (.non,.lst (xs++ys)):=by
 show(if xs.length+ys.length<=1000000 then some (D.non,D.lst (xs++ys)) else none)=_;rw[Ae h]
end
end VF
namespace VF22
open PySem PySem.Spec PyProof.Rows L2 VF
def JZ (t:Bool):String:=if t then "tuple_iterator" else "list_iterator"
def J0 (t:Bool):String:=if t then "tuple" else "list"
def Io (t:Bool) (h:Heap) (a l:Addr) (i:Nat):Prop:=∃o,h.get? a=some o/\o.cls=.type (JZ t)/\o.data=.fields #[.ref l,.int i 0]
def So (t:Bool) (h:Heap) (l:Addr) (xs:Array Value):Prop:=∃o,h.get? l=some o/\o.cls=.type (J0 t)/\∃n,o.data=.seq xs n
variable {t t1 t2:Bool} {h h':Heap}
theorem Io.by(a:Io t h it l i) (k:∀o,h.get? it=some o->h'.get? it=some o):Io t h' it l i:=by
 obtain⟨o,e,r⟩:=a;exact⟨o,k o e,r⟩
theorem So.by(a:So t h l xs) (k:∀o,h.get? l=some o->h'.get? l=some o):So t h' l xs:=by
 obtain⟨o,e,r⟩:=a;exact⟨o,k o e,r⟩
section
variable {P:Program} {w:World} {A:Around} {E:Value->Shared->Prop} {s:Shared}
theorem tQ (a:Io t s.heap it l i) (b:So t s.heap l xs) (hx:xs[i]?=some x)
  (q:∀h1,Io t h1 it l (i+1)->Heap.SameBut it s.heap h1->Q x { s with heap:=h1 }):wpAny (model P w) A (Builtin.SmallTypes.nextOf (.ref it)) Q E s:=by
 cases t with
 | false=>exact wpAny_nextOf_list_item (i:=i) (l:=l) (items:=xs) a b hx q
 | true =>
  obtain⟨u,hu,cu,du⟩:=id a;obtain⟨v,hv,cv,nv,dv⟩:=b;have ty:s.heap.IsTupleIter it l i:=⟨u,hu,cu,du⟩;unfold Builtin.SmallTypes.nextOf;refine Aa (An (name:=Str.ofString "__next__") ty.typeIs F.slot_tuple_iterator_next (Am F.slot_tuple_iterator_next ty.typeIs F.entry_tuple_iterator_next ?_ (F.args_tuple_iterator_next_1 _)));show wpAny _ _ (field (.ref it) 0 >>= _) _ _ _;refine Aa (Ap hu du (x:=.ref l) rfl ?_);show wpAny _ _ (if (Value.ref l == Value.none)=true then _ else _) _ _ _;rw[Af (show ¬ ((Value.ref l == .none)=true) from Qc)];show wpAny _ _ (field (.ref it) 1 >>= _) _ _ _;refine Aa (Ap hu du (x:=.int i 0) rfl ?_);show wpAny _ _ (seqItems? (.ref l) >>= _) _ _ _;refine Aa (Ay hv dv ?_);simp only[hx,Xl];refine Aa (Bw hu du (by simp) (Ac ⟨x,rfl,Ac (q _ ?_ (AX ..))⟩))
  refine⟨_,Bt _ hu (Obj.isFreed_of_fields (A4 du _)),(Obj.cls_mapFields ..).trans cu,?_⟩;rw[A4 du];simp[rawInt]
theorem oU (hh:A.handled=none) (a:Io t s.heap it l i) (b:So t s.heap l xs) (hx:xs[i]?=none)
  (q:∀h1 e,Heap.ExtBut it s.heap h1->(∃o,h1.get? e=some o/\o.cls=.type "StopIteration")->E (.ref e) { s with heap:=h1 }):wpAny (model P w) A (Builtin.SmallTypes.nextOf (.ref it)) Q E s:=by
 cases t with
 | false=>exact wpAny_nextOf_list_end (i:=i) (l:=l) (items:=xs) hh a b hx q
 | true =>
  obtain⟨u,hu,cu,du⟩:=id a;obtain⟨v,hv,cv,nv,dv⟩:=b;have ty:s.heap.IsTupleIter it l i:=⟨u,hu,cu,du⟩;unfold Builtin.SmallTypes.nextOf;refine Aa (An (name:=Str.ofString "__next__") ty.typeIs F.slot_tuple_iterator_next (Am F.slot_tuple_iterator_next ty.typeIs F.entry_tuple_iterator_next ?_ (F.args_tuple_iterator_next_1 _)));show wpAny _ _ (field (.ref it) 0 >>= _) _ _ _;refine Aa (Ap hu du (x:=.ref l) rfl ?_);show wpAny _ _ (if (Value.ref l == Value.none)=true then _ else _) _ _ _;rw[Af (show ¬ ((Value.ref l == .none)=true) from Qc)];show wpAny _ _ (field (.ref it) 1 >>= _) _ _ _;refine Aa (Ap hu du (x:=.int i 0) rfl ?_);show wpAny _ _ (seqItems? (.ref l) >>= _) _ _ _;refine Aa (Ay hv dv ?_);simp only[hx,Xl];refine Aa (AF (Aa (Bw hu du (by simp) ?_)))
  show wpAny _ _ (newExc (.type "StopIteration") [] >>= _) _ _ _;refine Aa ?_;simp only[newExc,newTuple];refine Aa (As ?_ (by size_fits))
  refine Aa (m:=firstArgMember _ _) (wpAny_of_eq (a:=.none) (by first|rfl|(simp only[firstArgMember];rfl)) ?_)
  refine As ?_ (by size_fits)
  simp only[raiseNew];refine Aa (wpAny_handled ?_)
  first|rw[show A.in1.handled=none from hh]|rw[hh]
  refine Aa (Ac (wpAny_throw ?_));exact q _ _ (((AX ..).extBut.push _).push _) ⟨_,Ah _ rfl,rfl⟩
theorem Il (W:ZipApart z T1 T2 i1 i2 l1 l2) (hz:IsZip s.heap z T1 T2 .none) (p1:IsPair s.heap T1 (.ref i1) (.ref i2)) (p2:IsPair s.heap T2 a b)
  (u1:Io t1 s.heap i1 l1 k) (u2:Io t2 s.heap i2 l2 k) (v1:So t1 s.heap l1 xs) (v2:So t2 s.heap l2 ys) (hx:xs[k]?=some x) (hy:ys[k]?=some y)
  (q:∀g,IsZip g z T1 T2 (rawInt s.heap.objs.size)->IsPair g T2 x y->Io t1 g i1 l1 (k+1)->Io t2 g i2 l2 (k+1)->IsPair g s.heap.objs.size x y ->
   (∀c o,c≠z->c≠T2->c≠i1->c≠i2->s.heap.get? c=some o->g.get? c=some o)->Q (some (.ref s.heap.objs.size)) { s with heap:=g }):wpAny (model P w) A (pyNext (.ref z)) Q E s:=by
 have ty:s.TypeIs (.ref z) "zip":=⟨_,hz,rfl⟩;unfold pyNext;refine Aa (AQ (An (name:=Str.ofString "__next__") ty F.slot_zip_next (Am F.slot_zip_next ty F.entry_zip_next ?_ (F.args_zip_next_1 _))));show wpAny _ _ (field (.ref z) 2 >>= _) _ _ s;refine Aa (Ap hz rfl (x:=.bool false) rfl ?_);show wpAny _ _ (field (.ref z) 3 >>= _) _ _ s;refine Aa (Ap hz rfl (x:=.ref T1) rfl ?_);refine Aa (Ay p1 rfl ?_);show wpAny _ _ (Builtin.SmallTypes.ownedTupleIsFree (.ref z) >>= _) _ _ s;refine Aa ?_;unfold Builtin.SmallTypes.ownedTupleIsFree;refine Aa (Ap hz rfl (x:=Value.none) rfl (Ac ?_));simp only[if_true];refine Aa (AF ?_);refine Aa (Ap hz rfl (x:=.ref T2) rfl ?_);refine Aa (AB hz (by simp) fun g1 z1 s1=>?_)
 replace z1:IsZip g1 z T1 T2 .ellipsis:=z1
 refine Aa ?_;simp only[AU,B9,Bj,List.zipIdx_nil];refine Aa (Aa (BE ?_));show wpAny _ _ (Builtin.SmallTypes.nextOf (.ref i1) >>= _) _ _ { s with heap:=g1 };refine Aa (tQ (s:={ s with heap:=g1 }) (u1.by fun o e=>s1.extBut _ o W.i1z e) (v1.by fun o e=>s1.extBut _ o W.l1z e) hx fun g2 n1 s2=>Ac ?_)
 have p22:IsPair g2 T2 a b:=s2.extBut _ _ W.TOi1 (s1.extBut _ _ W.TOz p2);refine Aa (Ay p22 rfl ?_);refine Aa (Bv p22 fun g3 p23 s3=>?_);replace p23:IsPair g3 T2 x b:=p23;refine Aa (BX (Ac ?_));refine Aa (Aa (BE ?_));show wpAny _ _ (Builtin.SmallTypes.nextOf (.ref i2) >>= _) _ _ { s with heap:=g3 };refine Aa (tQ (s:={ s with heap:=g3 }) (u2.by fun o e=>s3.extBut _ o W.TOi2.symm (s2.extBut _ o W.i12.symm (s1.extBut _ o W.i2z e))) (v2.by fun o e=>s3.extBut _ o W.l2TO (s2.extBut _ o W.l2i1 (s1.extBut _ o W.l2z e))) hy fun g4 n2 s4=>Ac ?_)
 have p24:IsPair g4 T2 x b:=s4.extBut _ _ W.TOi2 p23;refine Aa (Ay p24 rfl ?_);refine Aa (Bv p24 fun g5 p25 s5=>?_);replace p25:IsPair g5 T2 x y:=p25;refine Aa (BX (Ac (Ac ?_)));refine Aa (Ay p25 rfl ?_);refine Aa (wpAny_newTuple ?_);have sz:g5.objs.size=s.heap.objs.size:=by rw[s5.1,s4.1,s3.1,s2.1,s1.1]
 have z5:IsZip g5 z T1 T2 .ellipsis:=s5.extBut _ _ W.TOz.symm (s4.extBut _ _ W.i2z.symm (s3.extBut _ _ W.TOz.symm (s2.extBut _ _ W.i1z.symm z1)));have k5:∀c o,c≠z->c≠T2->c≠i1->c≠i2->s.heap.get? c=some o->g5.get? c=some o:=fun c o c1 c2 c3 c4 e=>s5.extBut _ _ c2 (s4.extBut _ _ c4 (s3.extBut _ _ c2 (s2.extBut _ _ c3 (s1.extBut _ _ c1 e))));have n15:Io t1 g5 i1 l1 (k+1):=n1.by fun o e=>s5.extBut _ o W.TOi1.symm (s4.extBut _ o W.i12 (s3.extBut _ o W.TOi1.symm e))
 have n25:Io t2 g5 i2 l2 (k+1):=n2.by fun o e=>s5.extBut _ o W.TOi2.symm e
 have zl:z<g5.objs.size:=Ai z5;show wpAny _ _ (Builtin.SmallTypes.ownedTupleHandOut (.ref z) (.ref g5.objs.size) >>= _) _ _ _;refine Aa ?_;unfold Builtin.SmallTypes.ownedTupleHandOut;have z6:IsZip (g5.push { cls:=.type "tuple",data:=.seq #[x,y] }) z T1 T2 .ellipsis:=Ab _ z5;refine Aa (AB z6 (by simp) fun g7 z7 s7=>?_)
 replace z7:IsZip g7 z T1 T2 (rawInt g5.objs.size):=z7
 refine AB z7 (by simp) fun g8 z8 s8=>?_
 replace z8:IsZip g8 z T1 T2 (rawInt g5.objs.size):=z8
 have up:∀c o,c≠z->g5.get? c=some o->g8.get? c=some o:=fun c o c1 e=>s8.extBut _ _ c1 (s7.extBut _ _ c1 (Ab _ e));have pT:IsPair g8 g5.objs.size x y:=s8.extBut _ _ (AZ zl) (s7.extBut _ _ (AZ zl) (Ah _ rfl));rw[sz]at z8 pT;refine Ac ⟨_,rfl,Ac ?_⟩;show Q (some (.ref g5.objs.size)) _;rw[sz];exact q g8 z8 (up _ _ W.TOz p25) (n15.by fun o e=>up _ o W.i1z e) (n25.by fun o e=>up _ o W.i2z e) pT fun c o c1 c2 c3 c4 e=>up c o c1 (k5 c o c1 c2 c3 c4 e)
theorem Gc (hh:A.handled=none) (W:ZipApart z T1 T2 i1 i2 l1 l2) (hz:IsZip s.heap z T1 T2 .none) (p1:IsPair s.heap T1 (.ref i1) (.ref i2)) (p2:IsPair s.heap T2 a b)
  (u1:Io t1 s.heap i1 l1 k) (u2:Io t2 s.heap i2 l2 k) (v1:So t1 s.heap l1 xs) (v2:So t2 s.heap l2 ys) (hend:xs[k]?=none∨ys[k]?=none)
  (q:∀g,(∀c o,c≠z->c≠T2->c≠i1->c≠i2->s.heap.get? c=some o->g.get? c=some o)->Q none { s with heap:=g }):wpAny (model P w) A (pyNext (.ref z)) Q E s:=by
 have ty:s.TypeIs (.ref z) "zip":=⟨_,hz,rfl⟩;unfold pyNext;have fin:∀g e,(∀c o,c≠z->c≠T2->c≠i1->c≠i2->s.heap.get? c=some o->g.get? c=some o)->(∃o,g.get? e=some o/\o.cls=.type "StopIteration")->wpAny (model P w) A (do if (← isInstance (.ref e) (.type "StopIteration")) then return none else throw (.ref e)) Q E { s with heap:=g }:=fun g e kp ⟨o,ho,ho2⟩ =>
  Aa (AK (T:="StopIteration") (b:=true) ⟨o,ho,ho2⟩ B6 (Ac (q g kp)))
 refine Aa (AQ (An (name:=Str.ofString "__next__") ty F.slot_zip_next (Am F.slot_zip_next ty F.entry_zip_next ?_ (F.args_zip_next_1 _))));show wpAny _ _ (field (.ref z) 2 >>= _) _ _ s;refine Aa (Ap hz rfl (x:=.bool false) rfl ?_);show wpAny _ _ (field (.ref z) 3 >>= _) _ _ s;refine Aa (Ap hz rfl (x:=.ref T1) rfl ?_);refine Aa (Ay p1 rfl ?_);show wpAny _ _ (Builtin.SmallTypes.ownedTupleIsFree (.ref z) >>= _) _ _ s;refine Aa ?_;unfold Builtin.SmallTypes.ownedTupleIsFree;refine Aa (Ap hz rfl (x:=Value.none) rfl (Ac ?_));simp only[if_true];refine Aa (AF ?_);refine Aa (Ap hz rfl (x:=.ref T2) rfl ?_);refine Aa (AB hz (by simp) fun g1 z1 s1=>?_)
 replace z1:IsZip g1 z T1 T2 .ellipsis:=z1
 refine Aa ?_;simp only[AU,B9,Bj,List.zipIdx_nil];refine Aa (Aa (BE ?_));show wpAny _ _ (Builtin.SmallTypes.nextOf (.ref i1) >>= _) _ _ { s with heap:=g1 };have w1:Io t1 g1 i1 l1 k:=u1.by fun o e=>s1.extBut _ o W.i1z e
 have w2:So t1 g1 l1 xs:=v1.by fun o e=>s1.extBut _ o W.l1z e
 cases hx:xs[k]? with
 | none =>
  refine Aa (oU (s:={ s with heap:=g1 }) hh w1 w2 hx fun g2 e s2 he=>?_);obtain⟨oe,he1,he2⟩:=he;have z2:IsZip g2 z T1 T2 .ellipsis:=s2 _ _ W.i1z.symm z1;have ne:e≠z:=fun m=>by subst m;rw[z2]at he1;cases he1;simp at he2
  exact AB z2 (by simp) fun g3 _ s3=>fin g3 e (fun c o c1 _ c3 _ m=>s3.extBut _ _ c1 (s2 _ _ c3 (s1.extBut _ _ c1 m))) ⟨oe,s3.extBut _ _ ne he1,he2⟩
 | some x =>
  have hy:ys[k]?=none:=by
   rcases hend with m|m
   ·rw[hx]at m;cases m
   ·exact m
  refine Aa (tQ (s:={ s with heap:=g1 }) w1 w2 hx fun g2 n1 s2=>Ac ?_);have p22:IsPair g2 T2 a b:=s2.extBut _ _ W.TOi1 (s1.extBut _ _ W.TOz p2);refine Aa (Ay p22 rfl ?_);refine Aa (Bv p22 fun g3 p23 s3=>?_);refine Aa (BX (Ac ?_));refine Aa (Aa (BE ?_));show wpAny _ _ (Builtin.SmallTypes.nextOf (.ref i2) >>= _) _ _ { s with heap:=g3 };refine Aa (oU (s:={ s with heap:=g3 }) hh (u2.by fun o e=>s3.extBut _ o W.TOi2.symm (s2.extBut _ o W.i12.symm (s1.extBut _ o W.i2z e))) (v2.by fun o e=>s3.extBut _ o W.l2TO (s2.extBut _ o W.l2i1 (s1.extBut _ o W.l2z e))) hy fun g4 e s4 he=>?_)
  obtain⟨oe,he1,he2⟩:=he;have z4:IsZip g4 z T1 T2 .ellipsis:=s4 _ _ W.i2z.symm (s3.extBut _ _ W.TOz.symm (s2.extBut _ _ W.i1z.symm z1));have ne:e≠z:=fun m=>by subst m;rw[z4]at he1;cases he1;simp at he2
  exact AB z4 (by simp) fun g5 _ s5=>fin g5 e (fun c o c1 c2 c3 c4 m=>s5.extBut _ _ c1 (s4 _ _ c4 (s3.extBut _ _ c2 (s2.extBut _ _ c3 (s1.extBut _ _ c1 m))))) ⟨oe,s5.extBut _ _ ne he1,he2⟩
end
end VF22
namespace VF22
open PySem PySem.Spec PyProof.Rows L2 VF
section
variable {t t1 t2:Bool} {P:Program} {w:World} {A:Around} {E:Value->Shared->Prop} {s:Shared}
def zI (t:Bool) (l:Addr):Obj:={ cls:=.type (JZ t),data:=.fields #[.ref l,.int 0 0] }
theorem ik (b:So t s.heap l xs) (q:Q (.ref s.heap.objs.size) { s with heap:=s.heap.push (zI t l) }):wpAny (model P w) A (pyIter (.ref l)) Q E s:=by
 cases t with
 | false=>exact BN (items:=xs) b q
 | true=>exact wpAny_pyIter_tuple (items:=xs) b q
abbrev zA (t1:Bool) (h:Heap) (l1:Addr):Heap:=h.push (zI t1 l1)
abbrev zB (t1 t2:Bool) (h:Heap) (l1 l2:Addr):Heap:=(zA t1 h l1).push (zI t2 l2)
abbrev zC (t1 t2:Bool) (h:Heap) (l1 l2:Addr):Heap:=(zB t1 t2 h l1 l2).push { cls:=.type "tuple",data:=.seq #[.ref h.objs.size,.ref (zA t1 h l1).objs.size] }
abbrev zD (t1 t2:Bool) (h:Heap) (l1 l2:Addr):Heap:=(zC t1 t2 h l1 l2).push { cls:=.type "tuple",data:=.seq #[.none,.none] }
abbrev zE (t1 t2:Bool) (h:Heap) (l1 l2:Addr):Heap:=(zD t1 t2 h l1 l2).push { cls:=.type "zip",data:=.fields #[.none,.bool false,.bool false,.ref (zB t1 t2 h l1 l2).objs.size,.ref (zC t1 t2 h l1 l2).objs.size] }
theorem xu (t1 t2:Bool) (l1 l2:Addr) (xs ys:Array Value):Meets (Builtin.«zip.__new__» ⟨[.type "zip",.ref l1,.ref l2],[]⟩) (fun _ R s=>So t1 s.heap l1 xs/\So t2 s.heap l2 ys /\
   R (.ok (.ret (.ref (zD t1 t2 s.heap l1 l2).objs.size))) { s with heap:=zE t1 t2 s.heap l1 l2 }) :=
 .of_wp fun prog w A R s h=>by
  obtain⟨hp,g,d,tk,os⟩:=s;obtain⟨v1,v2,h⟩:=h;have hsub:=sub_zip;have L1:So t1 (Shared.heap ⟨hp,g,d,tk,os⟩) l1 xs:=v1;have L2:So t2 (Shared.heap ⟨hp.push (zI t1 l1),g,d,tk,os⟩) l2 ys:=So.by v2 fun o e=>Ab _ e
  wp_walk using ik L1,ik L2
  exact⟨_,rfl,h⟩
theorem xv (v1:So t1 s.heap l1 xs) (v2:So t2 s.heap l2 ys)
  (q:∀g,IsZip g (s.heap.objs.size+4) (s.heap.objs.size+2) (s.heap.objs.size+3) .none->IsPair g (s.heap.objs.size+2) (.ref s.heap.objs.size) (.ref (s.heap.objs.size+1))->IsPair g (s.heap.objs.size+3) .none .none ->
   Io t1 g s.heap.objs.size l1 0->Io t2 g (s.heap.objs.size+1) l2 0->(∀c o,s.heap.get? c=some o->g.get? c=some o)->Q (.ref (s.heap.objs.size+4)) { s with heap:=g }) :
  wpAny (model P w) A (call (.type "zip") [.ref l1,.ref l2]) Q E s:=by
 refine callType_new F.called_zip (by decide) (F.typeCall_zip_2 _ _) (F.newCall_zip_2 _ _) (fun obj=>F.args_object_init_3 obj _ _) F.entry_zip_new (xu t1 t2 l1 l2 xs ys) ⟨v1,v2,?_⟩
 have m1:(zA t1 s.heap l1).objs.size=s.heap.objs.size+1:=AJ ..;have m2:(zB t1 t2 s.heap l1 l2).objs.size=s.heap.objs.size+2:=by rw[AJ,m1]
 have m3:(zC t1 t2 s.heap l1 l2).objs.size=s.heap.objs.size+3:=by rw[AJ,m2]
 have m4:(zD t1 t2 s.heap l1 l2).objs.size=s.heap.objs.size+4:=by rw[AJ,m3]
 have g5:(zE t1 t2 s.heap l1 l2).get? (zD t1 t2 s.heap l1 l2).objs.size=some _:=Ah _ rfl;have g4:(zE t1 t2 s.heap l1 l2).get? (zC t1 t2 s.heap l1 l2).objs.size=some _:=Ab _ (Ah _ rfl);have g3:(zE t1 t2 s.heap l1 l2).get? (zB t1 t2 s.heap l1 l2).objs.size=some _:=Ab _ (Ab _ (Ah _ rfl));have g2:(zE t1 t2 s.heap l1 l2).get? (zA t1 s.heap l1).objs.size=some (zI t2 l2):=Ab _ (Ab _ (Ab _ (Ah _ rfl)));have g1:(zE t1 t2 s.heap l1 l2).get? s.heap.objs.size=some (zI t1 l1):=Ab _ (Ab _ (Ab _ (Ab _ (Ah _ rfl))));show _/\_;rw[m2,m3,m4]at g5;rw[m1,m2]at g3;rw[m3]at g4;rw[m1]at g2;rw[m4];exact⟨⟨_,g5,rfl⟩,q _ g5 g3 g4 ⟨_,g1,rfl,rfl⟩ ⟨_,g2,rfl,rfl⟩ fun c o e=>Ab _ (Ab _ (Ab _ (Ab _ (Ab _ e))))⟩
end
section
variable {X:Cx} {K:PySem.W.Frag} {t t1 t2:Bool} {pins:List (Addr×Obj)} {σ:L2.St} {H:Hp} {s:Shared} {h':Heap}
theorem lE {t':Nat} {ch:List Addr} (I:L2.Inv X pins σ H s) (f:∀b∈ch,jX X pins H b) (k:∀b o,b∉ch->s.heap.get? b=some o->h'.get? b=some o) (ht:0<t':=by first|assumption|exact Wg _|exact Inv.tk (by assumption)|exact Inv.tkl (by assumption) (by assumption)|lia):L2.Inv X pins σ H { s with heap:=h',toks:=t' }:=by
 have nit:∀b u,H b=some u->b∉ch:=fun b u e z=>by rw[(f b z).1]at e;cases e
 refine I.step (g':=s.gens) (d':=s.drawn) (ch:=ch) (fun b hb=>?_) (fun b o _ _ hc e _=>k b o hc e) (fun b o _ _ hc e _=>⟨o.slots,k b o hc e⟩) (fun _ _ _ _ n=>n)
  (fun b o hc e=>⟨o,k b o hc e⟩) (fun _ _ e=>e) (fun _ _ _ e=>e) (fun b ps e=>⟨#[],by rw[e];simp⟩) (fun m hm=>?_) (fun b u e=>?_) I.bare
 ·obtain⟨_,f1,_,f3,f4,f5⟩:=f b hb;exact⟨f3,f1,f4,f5⟩
 ·obtain⟨o,es,ep,ho,r⟩:=hm;exact⟨o,es,ep,k _ o (fun z=>(f _ z).2.1 rfl) ho,r⟩
 ·refine(I.hok b u e).stay (fun c v hc q=>k c v ?_ q) (fun _ q=>q) fun _ _ q=>q;rcases hc with z|z
  ·rw[z];exact nit b u e
  ·exact nit c _ z
def Sq (K:PySem.W.Frag) (t:Bool) (H:Hp) (a:Addr) (xs:List V):Prop:=if t then iz K H a xs else eY K H a xs
theorem Sq.so (I:L2.Inv X pins σ H s) (h:Sq X.K t H l xs):∃its:List Value,Vals xs its/\So t s.heap l its.toArray:=by
 cases t with
 | false =>
  obtain⟨its,rv,p,_⟩:=I.list h;exact⟨its,rv,p.isList⟩
 | true =>
  obtain⟨its,rv,p,_⟩:=I.tuple h;exact⟨its,rv,p⟩
theorem Sq.inj (I:L2.Inv X pins σ H s) (h:Sq X.K t H l xs) (h2:Sq X.K t H l ys):xs=ys:=by
 cases t with
 | false=>exact I.list_inj h h2
 | true=>exact I.tuple_inj h h2
def J1 (K : PySem.W.Frag) (t1 t2 : Bool) (l1 l2 : Addr) : It :=
  ⟨fun i H => ∃ xs ys x y, Sq K t1 H l1 xs ∧ Sq K t2 H l2 ys ∧ xs[i]? = some x ∧ ys[i]? = some y,
   fun i H v H' => ∃ p x y, v = .ref p ∧ H p = none ∧ H' = upd H p (.tup [x, y]) ∧ (∀ xs, Sq K t1 H l1 xs → xs[i]? = some x) ∧ ∀ ys, Sq K t2 H l2 ys → ys[i]? = some y,
   fun i H => ∃ xs ys, Sq K t1 H l1 xs ∧ Sq K t2 H l2 ys ∧ (xs.length ≤ i ∨ ys.length ≤ i)⟩
def Zs (t1 t2:Bool) (z T1 T2 i1 i2 l1 l2:Addr) (i:Nat) (h:Heap):Prop:=IsZip h z T1 T2 .none/\IsPair h T1 (.ref i1) (.ref i2)/\(∃a b,IsPair h T2 a b)/\Io t1 h i1 l1 i/\Io t2 h i2 l2 i
theorem Im (h:b∈[z,T1,T2,i1,i2]):b=z∨b=T1∨b=T2∨b=i1∨b=i2:=by simpa using h
theorem Zs.at {h:Heap} (st:Zs t1 t2 z T1 T2 i1 i2 l1 l2 i h) (hb:b∈[z,T1,T2,i1,i2]):∃o,h.get? b=some o/\∀v,o.data≠.cell v:=by
 obtain⟨a1,a2,⟨_,_,a3⟩,⟨o1,a4,_,d4⟩,⟨o2,a5,_,d5⟩⟩:=st;rcases Im hb with rfl|rfl|rfl|rfl|rfl
 ·exact⟨_,a1,fun v m=>by cases m⟩
 ·exact⟨_,a2,fun v m=>by cases m⟩
 ·exact⟨_,a3,fun v m=>by cases m⟩
 ·exact⟨_,a4,fun v m=>by rw[d4]at m;cases m⟩
 ·exact⟨_,a5,fun v m=>by rw[d5]at m;cases m⟩
theorem xw {es:List Expr} {x1} {z T1 T2 i1 i2 l1 l2:Addr} (W:ZipApart z T1 T2 i1 i2 l1 l2):Turn P w K (.Tuple es x1 ps) (J1 K t1 t2 l1 l2) [z,T1,T2,i1,i2] z (Zs t1 t2 z T1 T2 i1 i2 l1 l2) where
 mem:=.head _
 obj:=fun i h st b hb=>st.at hb
 keep:=fun i h h' st k=>by
  obtain⟨a1,a2,⟨a,b,a3⟩,a4,a5⟩:=st;exact⟨k z (.head _) _ a1,k T1 (.tail _ (.head _)) _ a2,⟨a,b,k T2 (.tail _ (.tail _ (.head _))) _ a3⟩,a4.by fun o e=>k i1 (.tail _ (.tail _ (.tail _ (.head _)))) o e,a5.by fun o e=>k i2 (.tail _ (.tail _ (.tail _ (.tail _ (.head _))))) o e⟩
 item:=by
  intro X hP hw hK hc i pins s σ H E I hf st hg;subst hP hw hK;obtain⟨xs,ys,x,y,q1,q2,e1,e2⟩:=hg;obtain⟨is,r1,v1⟩:=q1.so I;obtain⟨js,r2,v2⟩:=q2.so I;obtain⟨u,hu,ru⟩:=r1.get e1;obtain⟨v,hv,rv⟩:=r2.get e2;have hn:H s.heap.objs.size=none:=I.hok.fresh (Xa _);have lt:∀b∈[z,T1,T2,i1,i2],b≠s.heap.objs.size:=fun b hb=>by
   obtain⟨o,ho,_⟩:=Zs.at st hb;exact Xf (Ai ho)
  obtain⟨a1,a2,⟨a,b,a3⟩,a4,a5⟩:=st;refine Il W a1 a2 a3 a4 a5 v1 v2 (x:=u) (y:=v) (by simpa using hu) (by simpa using hv) fun g z1 p2 n1 n2 pT kp=>?_
  refine⟨_,rfl,wpAny_letOwnedTupleGo_zip (s:={ s with heap:=g }) z1 fun g2 z2 sb=>?_⟩;have kk:∀c o,c≠z->c≠T2->c≠i1->c≠i2->s.heap.get? c=some o->g2.get? c=some o:=fun c o c1 c2 c3 c4 e=>sb.extBut _ _ c1 (kp c o c1 c2 c3 c4 e);have pT2:IsPair g2 s.heap.objs.size u v:=sb.extBut _ _ (Ne.symm (lt z (.head _))) pT;have I1:L2.Inv X pins σ (upd H s.heap.objs.size (.tup [x,y])) { s with heap:=s.heap.push { cls:=.type "tuple",data:=.seq #[u,v] },toks:=s.toks } :=
   I.laid (fun b o e=>Ab _ e) (Xa _) ⟨show 2<=sizeLine by decide,[u,v],.cons ru (.cons rv .nil),⟨_,Ah _ rfl,rfl,_,rfl⟩⟩
  have ff:∀b∈[z,T1,T2,i1,i2],jX X pins (upd H s.heap.objs.size (.tup [x,y])) b:=fun b hb=>by
   obtain⟨f0,f1,f2,f3,f4,f5⟩:=hf b hb;exact⟨by rw[aB (lt b hb)];exact f0,f1,f2,f3,f4,f5⟩
  have I2:L2.Inv X pins σ (upd H s.heap.objs.size (.tup [x,y])) { s with heap:=g2 }:=by
   refine lE (s:={ s with heap:=s.heap.push { cls:=.type "tuple",data:=.seq #[u,v] } }) (t':=s.toks) I1 ff fun c o hc e=>?_;rcases Heap.get?_push_cases e with⟨rfl,rfl⟩|e
   ·exact pT2
   ·exact kk c o (fun m=>hc (m ▸ .head _)) (fun m=>hc (m ▸ .tail _ (.tail _ (.head _)))) (fun m=>hc (m ▸ .tail _ (.tail _ (.tail _ (.head _))))) (fun m=>hc (m ▸ .tail _ (.tail _ (.tail _ (.tail _ (.head _)))))) e
  refine⟨.ref s.heap.objs.size,_,I2,rfl,⟨_,x,y,rfl,hn,rfl,fun zs hz=>by rw[hz.inj I q1];exact e1,fun zs hz=>by rw[hz.inj I q2];exact e2⟩,?_,fun b hb=>(ff b hb).1⟩
  exact⟨z2,sb.extBut _ _ W.TIz (kp _ _ W.TIz W.TITO W.TIi1 W.TIi2 a2),⟨_,_,sb.extBut _ _ W.TOz p2⟩,n1.by fun o e=>sb.extBut _ o W.i1z e,n2.by fun o e=>sb.extBut _ o W.i2z e⟩
 done:=by
  intro X hP hw hK hc i pins s σ H E I hf st hg;subst hP hw hK;obtain⟨xs,ys,q1,q2,hl⟩:=hg;obtain⟨a1,a2,⟨a,b,a3⟩,a4,a5⟩:=st;obtain⟨is,r1,v1⟩:=q1.so I;obtain⟨js,r2,v2⟩:=q2.so I;have l1:=r1.length;have l2:=r2.length;refine Gc (I.ok.hd hc) W a1 a2 a3 a4 a5 v1 v2 (hl.imp (fun m=>by rw[Co];exact Qe (l1 ▸ m)) fun m=>by rw[Co];exact Qe (l2 ▸ m)) fun g kp=>⟨rfl,lE (t':=s.toks) I hf fun c o hc e=>?_⟩
  exact kp c o (fun m=>hc (m ▸ .head _)) (fun m=>hc (m ▸ .tail _ (.tail _ (.head _)))) (fun m=>hc (m ▸ .tail _ (.tail _ (.tail _ (.head _))))) (fun m=>hc (m ▸ .tail _ (.tail _ (.tail _ (.tail _ (.head _)))))) e
 self:=fun _ _ _ _ _ st h=>wpAny_pyIter_zip st.1 h
def Ge (K:PySem.W.Frag) (ta:TA):TI:=fun σ H R=>ta σ H fun vs H1=>∃t1 t2 l1 l2 xs ys,vs=[.ref l1,.ref l2]/\Sq K t1 H1 l1 xs/\Sq K t2 H1 l2 ys/\R (J1 K t1 t2 l1 l2) H1
theorem boot_zip:bootBuiltins "zip"=some (.type "zip"):=by decide +kernel
theorem zT {x1} (hg:Gl X "zip") (hm:X.mg "zip"=none) (ha:PA X [a,b] ta) (hs:starEach [a,b] X.env=[(false,eval a X.env),(false,eval b X.env)]) (hs2:starEach [b] X.env=[(false,eval b X.env)]) :
  PI X (.Tuple es x1 ps) (.Call (.Name "zip" p) [a,b] [] pos) (Ge X.K ta):=by
 intro pins s σ H R I h;refine Call_ (fI I hg hm boot_zip (Aq (bM (ha pos pins s σ H _ I h) fun us s1 ⟨vs,H1,I1,r1,q1⟩=>?_) (by rw[hs,hs2]) (by rw[hs2];rfl)))
 obtain⟨t1,t2,l1,l2,xs,ys,e,w1,w2,q⟩:=q1;subst e;cases r1 with
 | cons r rr =>
  cases rr with
  | cons r' rr =>
   cases rr;cases r;cases r';obtain⟨is,r1,v1⟩:=w1.so I1;obtain⟨js,r2,v2⟩:=w2.so I1;refine xv v1 v2 fun g z p1 p2 n1 n2 kp=>?_;obtain⟨o1,ho1,_⟩:=id v1;obtain⟨o2,ho2,_⟩:=id v2;refine wpAny_pyIter_zip (s:={ s1 with heap:=g }) z ⟨_,[s1.heap.objs.size+4,s1.heap.objs.size+2,s1.heap.objs.size+3,s1.heap.objs.size,s1.heap.objs.size+1],_,_,H1,rfl,I1.kept (t':=s1.toks) kp,xw (PySem.W.ktu_apart _ _ _ (Ai ho1) (Ai ho2)),⟨z,p1,⟨_,_,p2⟩,n1,n2⟩,fun b hb=>?_,q⟩;have hb':=Im hb;have le:s1.heap.objs.size<=b:=by
    rcases hb' with m|m|m|m|m<;>(rw[m];first|exact Zj _ _|exact Xa _)
   exact I1.fpOk le (I1.hok.fresh le)
end
end VF22
namespace VF22
open PySem L2 VF
section
variable {X:Cx} {K:PySem.W.Frag} {O O' Z:AS} {H H':Hp} {v:V} {d:D}
def Hg:D->Option (List D)
 | .lst ds=>some ds
 | .fl ds=>some ds
 | .tup ds=>some ds
 | _=>none
def Gf:List D->Option (List D×List D)
 | [a,b]=>(Hg a).bind fun x=>(Hg b).bind fun y=>some (x,y)
 | _=>none
def pr (a b:D):D:=.tup [a,b]
def J2 (fa:FA):FI:=fun st=>(fa st).bind fun x=>(cm x.1 x.2).bind fun y=>(Gf y.1).bind fun w=>some (List.zipWith pr w.1 w.2,y.2)
theorem xy (da:DA K (U O Z) H v d) (e:Hg d=some is):∃t l ws,v=.ref l/\∀H' O',Ext O H O' H'->Sq K t H' l ws/\El K (U O' Z) H' ws is:=by
 cases d with
 | lst ds =>
  cases e;cases da with
  | @lst a vs _ h0 h1 h2 h3=>exact⟨false,a,vs,rfl,fun H' O' ex=>⟨.inl (.inl (ex.kp a _ h1 fun z=>h0 (.inl z))),El.ext ⟨h2,h3⟩ ex⟩⟩
 | fl ds =>
  cases e;cases da with
  | @fl a vs _ h1 h2 h3 =>
   refine⟨false,a,vs,rfl,fun H' O' ex=>⟨?_,El.ext ⟨h2,h3⟩ ex⟩⟩;rcases h1 with⟨h1,hn⟩|h1
   ·exact .inl (Rd.keep h1 fun o e=>ex.kp a o e fun z=>hn (.inl z))
   ·exact h1 H'
 | tup ds =>
  cases e;cases da with
  | @tup a vs _ h1 h2 h3 =>
   refine⟨true,a,vs,rfl,fun H' O' ex=>⟨?_,El.ext ⟨h2,h3⟩ ex⟩⟩;exact .inl (.inl (ex.kp a _ h1.1 fun z=>h1.2 (.inl z)))
 | _=>cases e
theorem Ip {as bs:List D} {i:Nat} {d:D} (h:(List.zipWith pr as bs)[i]?=some d):∃a b,as[i]?=some a/\bs[i]?=some b/\d=.tup [a,b]:=by grind [D,pr]
theorem Gg {ta:TA} {fa:FA} (h:rQ K ta fa):RdI K (Ge K ta) (J2 fa):=by
 intro st σ H O Z R E items st' e q;refine bT e fun rs st1 e1 e=>?_;refine bT e fun ds st2 e2 e=>?_;refine bT e fun as bs e3 e=>?_;cases e;refine h st σ H O Z _ E rs st1 e1 fun vs H1 O1 x1 k1 E1 rvs=>?_;obtain⟨O2,x2,k2,E2,el⟩:=rvs.esc E1 e2;replace e3:Gf ds=some (as,bs):=e3;unfold Gf at e3;split at e3
 ·rename_i a b
  refine bp e3 fun as' e4 e3=>?_;refine bp e3 fun bs' e5 e3=>?_;cases e3;obtain⟨v1,r,rfl,da1,el⟩:=el.uncons;obtain⟨v2,r,rfl,da2,el⟩:=el.uncons;obtain rfl:=el.unnil;obtain⟨t1,l1,xs,rfl,k3⟩:=xy da1 e4;obtain⟨t2,l2,ys,rfl,k4⟩:=xy da2 e5;refine⟨t1,t2,l1,l2,xs,ys,rfl,(k3 H1 O2 (Ext.refl _ _)).1,(k4 H1 O2 (Ext.refl _ _)).1,q _ H1 O2 (x1.trans x2) (k1.trans k2) E2 fun H' O' ex liv=>?_⟩;obtain⟨s1,el1⟩:=k3 H' O' ex;obtain⟨s2,el2⟩:=k4 H' O' ex;have n1:=el1.1;have n2:=el2.1;refine⟨fun i hi=>⟨xs,ys,s1,s2,?_⟩,fun i d hd=>?_⟩
  ·replace hi:(List.zipWith pr as bs).length<=i:=hi
   rw[List.length_zipWith]at hi;lia
  ·obtain⟨a,b,ha,hb,rfl⟩:=Ip hd;obtain⟨x,hx,dx⟩:=el1.at ha;obtain⟨y,hy,dy⟩:=el2.at hb;refine⟨⟨xs,ys,x,y,s1,s2,hx,hy⟩,?_⟩;rintro v H'' ⟨p,x',y',rfl,hn,rfl,f1,f2⟩;have ex':=f1 xs s1;have ey':=f2 ys s2;rw[hx]at ex';rw[hy]at ey';cases ex';cases ey';have sm:=aG hn (.tup [x,y]);exact⟨sm,.tup ⟨aD,fun z=>(liv p z).1 hn⟩ rfl ((El.cons dx (El.one dy)).same sm).2⟩
 ·cases e3
theorem Gh {x1} (h:X.K=K) (hg:Gl X "zip") (hs:starEach [a,b] X.env=[(false,eval a X.env),(false,eval b X.env)]) (hs2:starEach [b] X.env=[(false,eval b X.env)]) (hm:X.mg "zip"=none) (ha:PE X a te) (hb:PE X b te2) :
  PI X (.Tuple es x1 ps) (.Call (.Name "zip" p) [a,b] [] pos) (Ge K (cr te (cr te2 jY))):=by
 subst h;exact zT hg hm (jo ha (jo hb ae hs2) (by rw[hs,hs2])) hs hs2
end
end VF22
namespace TS
open PySem PyProof.Rows
theorem nT {M:Model} {A:Around} {E:Value->Shared->Prop} {σ γ:Type} {X Y:StateT σ Sem γ} {p:Prop} {d:Decidable p} {Q:γ->σ->Prop} {st:σ} (h:p) (k:wpS M A E s X Q st):wpS M A E s (@ite _ p d X Y) Q st:=by rw[Ae h];exact k
theorem mj {M:Model} {A:Around} {E:Value->Shared->Prop} {σ γ:Type} {X Y:StateT σ Sem γ} {p:Prop} {d:Decidable p} {Q:γ->σ->Prop} {st:σ} (h:¬ p) (k:wpS M A E s Y Q st):wpS M A E s (@ite _ p d X Y) Q st:=by rw[Af h];exact k
theorem xz {α β:Type} (f:α->β) (x:Array α) (i j:Nat):(x.map f).swapIfInBounds i j=(x.swapIfInBounds i j).map f:=by grind
theorem kn {α β γ:Type} (f:α->β) (p q:γ->Nat):∀(l:List γ) (x:Array α),l.foldl (fun a k=>a.swapIfInBounds (p k) (q k)) (x.map f)=(l.foldl (fun a k=>a.swapIfInBounds (p k) (q k)) x).map f
 | [],x=>rfl
 | k::l,x=>by
  rw[Yg,Yg,xz];exact kn f p q l _
theorem sd (f:α->β) (x:Array α) (i d:Nat):bubble (x.map f) i d=(bubble x i d).map f:=kn f _ _ _ x
theorem fX (f:α->β) (x:Array α) (i j d:Nat):mirror (x.map f) i j d=(mirror x i j d).map f:=kn f _ _ _ x
structure Cm (prog:Program) (w:World) (A:Around) (s:Shared) (k:SortKind) (f:Nat->Keyed) (N:Nat) (c:Nat->Nat->Bool):Prop where
 lt:∀(E:Value->Shared->Prop) (Q:Bool->Shared->Prop) (g h:Nat),g<N->h<N->Q (c g h) s->wpAny (model prog w) A (keyLt' k (f g).1 (f h).1) Q E s
 irr:∀g,c g g=false
 tra:∀g h i,c g h=true->c h i=true->c g i=true
 neg:∀g h i,c g i=true->c g h=true∨c h i=true
def Bf (c:Nat->Nat->Bool) (g h:Nat):Prop:=c g h=true∨(c h g=false/\g<h)
structure Rp (k:SortKind) (f:Nat->Keyed) (N:Nat) (st:SortSt) (γ:Array Nat):Prop where
 arr:arrOf st=γ.map f
 kind:kindOf st=k
 fine:failedOf st=none
 perm:γ.Perm (Array.range N)
section
variable {prog:Program} {w:World} {A:Around} {E:Value->Shared->Prop} {s:Shared} {k:SortKind} {f:Nat->Keyed} {N:Nat} {c:Nat->Nat->Bool} {st:SortSt} {γ:Array Nat}
theorem Cm.asy (C:Cm prog w A s k f N c) (e:c g h=true):c h g=false:=by
 cases e':c h g with
 | false=>rfl
 | true=>exact absurd (C.tra g h g e e') (by rw[C.irr];exact Bool.noConfusion)
theorem Cm.le (C:Cm prog w A s k f N c) (e:Bf c g h):c h g=false:=by
 rcases e with e|e
 ·exact C.asy e
 ·exact e.1
theorem Cm.letr (C:Cm prog w A s k f N c) (e:c h g=false) (e':c i h=false):c i g=false:=by
 cases e2:c i g with
 | false=>rfl
 | true =>
  rcases C.neg i h g e2 with q|q
  ·rw[q]at e';exact e'
  ·rw[q]at e;exact e
theorem Cm.trans (C:Cm prog w A s k f N c) (e:Bf c g h) (e':Bf c h i):Bf c g i:=by
 have l:=C.letr (C.le e) (C.le e');cases e2:c g i with
 | true=>exact .inl e2
 | false =>
  refine .inr ⟨l,?_⟩;rcases e with e|e
  ·rcases C.neg g i h e with q|q
   ·rw[q]at e2;cases e2
   ·rw[C.le e']at q;cases q
  ·rcases e' with e'|e'
   ·rcases C.neg h g i e' with q|q
    ·rw[e.1]at q;cases q
    ·rw[q]at e2;cases e2
   ·exact Bm e.2 e'.2
theorem Rp.size (R:Rp k f N st γ):γ.size=N:=by rw[R.perm.size_eq,AO]
theorem Rp.bnd (R:Rp k f N st γ) {i g:Nat} (e:γ[i]?=some g):g<N:=by
 have hm:g∈γ:=Array.mem_of_getElem? e;exact Array.mem_range.mp (R.perm.mem_iff.mp hm)
theorem Rp.at (R:Rp k f N st γ) {i g:Nat} (e:γ[i]?=some g):(arrOf st)[i]?=some (f g):=by rw[R.arr,Array.getElem?_map,e];rfl
theorem Rp.put (R:Rp k f N st γ) {γ':Array Nat} (p:γ'.Perm γ) (e:x=γ'.map f):Rp k f N (setArr st x) γ':=⟨e,R.kind,R.fine,p.trans R.perm⟩
theorem Iq (C:Cm prog w A s k f N c) (hk:kindOf st=k) (bg:g<N) (bh:h<N) (q:Q (some (c g h)) st):wpS (model prog w) A E s (lt' (f g) (f h)) Q st:=by
 rw[lt'_eq];refine Al (wpS_get ?_);subst hk;exact Al (wpS_lift (AQ (C.lt _ _ g h bg bh ⟨rfl,Ar q⟩)))
theorem il (C:Cm prog w A s k f N c) (R:Rp k f N st γ) {i j g h:Nat} (ei:γ[i]?=some g) (ej:γ[j]?=some h) {Q:Option Bool->SortSt->Prop} (q:Q (some (c g h)) st):wpS (model prog w) A E s (ltAt' i j) Q st:=by
 rw[ltAt'_eq];refine Al (wpS_get ?_);dsimp only;rw[elem'_eq,elem'_eq,R.at ei,R.at ej];exact Al (Ar (Al (Ar (Iq C R.kind (R.bnd ei) (R.bnd ej) q))))
end
end TS
namespace TS
open PySem PyProof.Rows
def Sg (c:Nat->Nat->Bool) (γ:Array Nat) (lo hi:Nat):Prop:=∀i j g h,lo<=i->i<j->j<hi->γ[i]?=some g->γ[j]?=some h->Bf c g h
def Ow (γ:Array Nat) (lo hi:Nat):Prop:=∀i g,lo<=i->i<hi->γ[i]?=some g->lo<=g/\g<hi
def Raw (γ:Array Nat) (lo hi:Nat):Prop:=∀i,lo<=i->i<hi->γ[i]?=some i
def Out (γ γ':Array Nat) (lo hi:Nat):Prop:=∀i,i<lo∨hi<=i->γ'[i]?=γ[i]?
theorem Out.refl (γ:Array Nat) (lo hi:Nat):Out γ γ lo hi:=fun _ _=>rfl
section
variable {prog:Program} {w:World} {A:Around} {E:Value->Shared->Prop} {s:Shared} {k:SortKind} {f:Nat->Keyed} {N:Nat} {c:Nat->Nat->Bool} {st:SortSt} {γ:Array Nat}
theorem xA {γ:Array Nat} (h:i<γ.size):∃g,γ[i]?=some g:=⟨_,Qj h⟩
theorem mid (h:l<u):l<=(l+u) / 2/\(l+u) / 2<u:=by lia
theorem JA (h:u-l<=m-y) (h1:t<u) (h2:l<=t):t-l<=m-(y+1):=by lia
theorem JB (h:u-l<=m-y) (h1:l<=t) (h2:t<u):u-(t+1)<=m-(y+1):=by lia
inductive Bub (γ:Array Nat) (a b i g:Nat):Prop
 | at_ (h:i=a) (e:γ[b]?=some g)
 | mid (j:Nat) (h:i=j+1) (k:a<=j) (l:j<b) (e:γ[j]?=some g)
 | lo (h:i<a) (e:γ[i]?=some g)
 | hi (h:b<i)
theorem ml (e:(if i=a then γ[b]? else if a<i/\i<=b then γ[i-1]? else γ[i]?)=some g):Bub γ a b i g:=by
 by_cases h:i=a
 ·rw[Ae h]at e;exact .at_ h e
 ·rw[Af h]at e;by_cases h2:a<i/\i<=b
  ·rw[Ae h2]at e;obtain⟨j,rfl⟩:=Nat.exists_eq_add_one_of_ne_zero (AZ (Zm (Wh _) h2.1));exact .mid j rfl (Nat.le_of_lt_succ h2.1) h2.2 e
  ·rw[Af h2]at e;by_cases h3:i<a
   ·exact .lo h3 e
   ·exact .hi (Bh fun z=>h2 ⟨Nat.lt_of_le_of_ne (Bi h3) (Ne.symm h),z⟩)
theorem xB (hab:a<=b) (h:b<i):(if i=a then γ[b]? else if a<i/\i<=b then γ[i-1]? else γ[i]?)=γ[i]?:=by
 rw[Af (AZ (Zm hab h)),Af fun z=>BU h z.2]
theorem Gi (h:i<a):(if i=a then γ[b]? else if a<i/\i<=b then γ[i-1]? else γ[i]?)=γ[i]?:=by
 rw[Af (Xf h),Af fun z=>Nat.lt_asymm h z.1]
theorem zU (C:Cm prog w A s k f N c) (R:Rp k f N st γ) {lo n ok:Nat} (hn:lo+n<=N) (h1:1<=ok) (hok:ok<=n) (sg:Sg c γ lo (lo+ok)) (ow:Ow γ lo (lo+ok)) (raw:Raw γ (lo+ok) N)
  {Q:Bool->SortSt->Prop} (q:∀(x:Array Keyed) (γ':Array Nat),Rp k f N (setArr st x) γ'->Sg c γ' lo (lo+n)->Ow γ' lo (lo+n)->Raw γ' (lo+n) N->Out γ γ' lo (lo+n)->Q true (setArr st x)) :
  wpS (model prog w) A E s (binarySort' lo n ok) Q st:=by
 rw[binarySort'_eq]
 refine Al (Bu (AH (I:=fun m r st'=>r=(none,())/\∃x γ',st'=setArr st x/\Rp k f N st' γ'/\Sg c γ' lo (lo+m)/\Ow γ' lo (lo+m)/\Raw γ' (lo+m) N/\Out γ γ' lo (lo+m))
  (Q:=fun r st'=>r=(none,())/\∃x γ',st'=setArr st x/\Rp k f N st' γ'/\Sg c γ' lo (lo+n)/\Ow γ' lo (lo+n)/\Raw γ' (lo+n) N/\Out γ γ' lo (lo+n)) ?step ?fin ?init) ?post)
 case post =>
  rintro r st' ⟨rfl,x,γ',rfl,R',a1,a2,a3,a4⟩;exact Ar (q x γ' R' a1 a2 a3 a4)
 case init =>
  rw[show max ok 1=ok by lia]
  exact⟨rfl,arrOf st,γ,rfl,R,sg,ow,raw,Out.refl _ _ _⟩
 case fin =>
  rintro r st' h;rw[show max (max ok 1) n=n by lia]at h
  exact h
 case step =>
  rintro m r st' hm hmn ⟨rfl,x,γ',rfl,R',a1,a2,a3,a4⟩;have em:γ'[lo+m]?=some (lo+m):=a3 (lo+m) (Xa _) (by lia)
  refine Al (Bu (AH (I:=fun y r st''=>st''=setArr st x/\∃l u,r=(none,l,u)/\l<=u/\u<=m/\u-l<=m-y /\
    (∀i g,lo<=i->i<lo+l->γ'[i]?=some g->c (lo+m) g=false)/\(∀i g,lo+u<=i->i<lo+m->γ'[i]?=some g->c (lo+m) g=true))
   (Q:=fun r st''=>st''=setArr st x/\∃l u,r=(none,l,u)/\l<=m /\
    (∀i g,lo<=i->i<lo+l->γ'[i]?=some g->c (lo+m) g=false)/\(∀i g,lo+l<=i->i<lo+m->γ'[i]?=some g->c (lo+m) g=true)) ?istep ?ifin ?iinit) ?ipost)
  case iinit=>exact⟨rfl,0,m,rfl,by lia,by lia,by lia,fun i g p1 p2=>by lia,fun i g p1 p2=>by lia⟩
  case ifin =>
   rintro r st'' ⟨rfl,l,u,rfl,b1,b2,b3,b4,b5⟩;obtain rfl:l=u:=by lia
   exact⟨rfl,l,l,rfl,b2,b4,b5⟩
  case istep =>
   rintro y r st'' _ hy ⟨rfl,l,u,rfl,b1,b2,b3,b4,b5⟩;dsimp only;by_cases hge:l ≥ u
   ·refine nT hge ?_;obtain rfl:l=u:=by lia
    exact Ar ⟨rfl,l,l,rfl,b2,b4,b5⟩
   ·refine mj hge ?_;have hq:l<=(l+u) / 2/\(l+u) / 2<u:=mid (Bh hge);generalize (l+u) / 2=t at hq;obtain⟨q1,q2⟩:=hq;have q3:t-l<=m-(y+1):=JA b3 q2 q1;have q4:u-(t+1)<=m-(y+1):=JB b3 q1 q2;obtain⟨g,eg⟩:=xA (γ:=γ') (i:=lo+t) (by rw[R'.size];lia)
    refine Al (il C R' em eg ?_);cases hc:c (lo+m) g with
    | true =>
     refine Ar ⟨rfl,l,t,rfl,q1,by lia,q3,b4,fun i g' p1 p2 e=>?_⟩
     by_cases hi:i=lo+t
     ·subst hi;rw[eg]at e;cases e;exact hc
     ·have bf:=a1 _ i g g' (by lia) (by lia) p2 eg e
      rcases C.neg _ g' _ hc with z|z
      ·exact z
      ·rw[C.le bf]at z;cases z
    | false =>
     refine Ar ⟨rfl,t+1,u,rfl,q2,b2,q4,fun i g' p1 p2 e=>?_,b5⟩;by_cases hi:i=lo+t
     ·subst hi;rw[eg]at e;cases e;exact hc
     ·have bf:=a1 i _ g' g p1 (by lia) (by lia) e eg
      exact C.letr (C.le bf) hc
  case ipost =>
   rintro r st'' ⟨rfl,l,u,rfl,b2,b4,b5⟩;show wpS _ _ _ _ (do moveDown' (lo+m) (lo+l);pure (ForInStep.yield (none,()))) _ _
   rw[moveDown'_eq];have hs:lo+m<γ'.size:=by rw[R'.size];lia
   have gb:=getElem?_bubble hs (lo+m-(lo+l)) (Nat.sub_le _ _);rw[Nat.sub_sub_self (Vi b2 lo)]at gb;refine Al (wpS_modify (Ar ⟨rfl,bubble x (lo+m) (lo+m-(lo+l)),bubble γ' (lo+m) (lo+m-(lo+l)),rfl,R'.put (bubble_perm _ _ _) ?_,?_,?_,?_,?_⟩))
   ·rw[R'.arr,sd]
   ·intro i j g h p1 p2 p3 e1 e2;rw[gb]at e1 e2;cases ml e1 with
    | at_ y e1 =>
     rw[em]at e1;cases e1;cases ml e2 with
     | at_ z e2=>lia
     | mid j' z z1 z2 e2=>exact .inl (b5 _ h z1 z2 e2)
     | lo z e2=>lia
     | hi z=>lia
    | mid i' y y1 y2 e1 =>
     cases ml e2 with
     | at_ z e2=>lia
     | mid j' z z1 z2 e2=>exact a1 _ _ g h (Ze (Zj _ _) y1) (by lia) z2 e1 e2
     | lo z e2=>lia
     | hi z=>lia
    | lo y e1 =>
     have ym:i<lo+m:=Zc y (Vi b2 lo);cases ml e2 with
     | at_ z e2 =>
      rw[em]at e2;cases e2;exact .inr ⟨b4 i g p1 y e1,(a2 i g p1 ym e1).2⟩
     | mid j' z z1 z2 e2=>exact a1 i _ g h p1 (Zc y z1) z2 e1 e2
     | lo z e2=>exact a1 i j g h p1 p2 (Zc z (Vi b2 lo)) e1 e2
     | hi z=>lia
    | hi y=>lia
   ·intro i g p1 p2 e;rw[gb]at e;cases ml e with
    | at_ z e=>rw[em]at e;cases e;exact⟨Zj _ _,Nat.lt_succ_self _⟩
    | mid j z z1 z2 e=>exact⟨(a2 _ g (Ze (Zj _ _) z1) z2 e).1,Bd (a2 _ g (Ze (Zj _ _) z1) z2 e).2⟩
    | lo z e =>
     have ym:i<lo+m:=Zc z (Vi b2 lo);exact⟨(a2 i g p1 ym e).1,Bd (a2 i g p1 ym e).2⟩
    | hi z=>lia
   ·intro i p1 p2;rw[gb,xB (Vi b2 lo) p1];exact a3 i (A0 p1) p2
   ·intro i p;rw[gb];rcases p with p|p
    ·rw[Gi (Zc p (Zj _ _))];exact a4 i (.inl p)
    ·rw[xB (Vi b2 lo) p];exact a4 i (.inr (A0 p))
end
end TS
namespace TS
open PySem PyProof.Rows
section
variable {prog:Program} {w:World} {A:Around} {E:Value->Shared->Prop} {s:Shared} {k:SortKind} {f:Nat->Keyed} {N:Nat} {c:Nat->Nat->Bool} {st:SortSt} {γ:Array Nat}
theorem Sg.more (C:Cm prog w A s k f N c) {lo n g h:Nat} (sg:Sg c γ lo n) (h1:lo<n) (e:γ[n-1]?=some g) (e':γ[n]?=some h) (b:Bf c g h):Sg c γ lo (n+1):=by
 intro i j g' h' p1 p2 p3 e1 e2;by_cases hj:j<n
 ·exact sg i j g' h' p1 p2 hj e1 e2
 ·obtain rfl:j=n:=by lia
  rw[e']at e2;cases e2;by_cases hi:i=j-1
  ·subst hi;rw[e]at e1;cases e1;exact b
  ·exact C.trans (sg i (j-1) g' g p1 (by lia) (by lia) e1 e) b
theorem qy (C:Cm prog w A s k f N c) {lo x h:Nat} (sg:Sg c γ lo (lo+x)) (ow:Ow γ lo (lo+x)) (raw:Raw γ (lo+x) N) (h1:1<=x) (hx:lo+x<N) (e:γ[lo+x-1]?=some h) (hc:c (lo+x) h=false) :
  Sg c γ lo (lo+(x+1))/\Ow γ lo (lo+(x+1))/\Raw γ (lo+(x+1)) N:=by
 have en:=raw (lo+x) (Xa _) hx;refine⟨sg.more C (by lia) e en (.inr ⟨hc,(ow _ h (by lia) (by lia) e).2⟩),fun i g p1 p2 e1=>?_,fun i p1 p2=>raw i (by lia) p2⟩
 by_cases hi:i<lo+x
 ·have:=ow i g p1 hi e1;lia
 ·obtain rfl:i=lo+x:=by lia
  rw[en]at e1;cases e1;lia
structure Fl (c:Nat->Nat->Bool) (γ:Array Nat) (lo m n:Nat):Prop where
 le:lo<=m
 lt:m<n
 fall:∀i j g h,lo<=i->i<j->j<m->γ[i]?=some g->γ[j]?=some h->Bf c h g
 cross:∀i j g h,lo<=i->i<m->m<=j->j<n->γ[i]?=some g->γ[j]?=some h->c h g=true
 same:∀i j g h,m<=i->i<n->m<=j->j<n->γ[i]?=some g->γ[j]?=some h->c g h=false
 raw:Raw γ m n
 own:Ow γ lo n
def Fa (c:Nat->Nat->Bool) (γ:Array Nat) (lo n:Nat):Prop:=∀i j g h,lo<=i->i<j->j<n->γ[i]?=some g->γ[j]?=some h->Bf c h g
theorem jc (hn:n<=γ.size) (h1:a<=i) (h2:i<n):∃i',a<=i'/\i'<n/\i+i'+1=a+n/\(mirror γ a n ((n-a) / 2))[i]?=γ[i']? :=
 ⟨a+n-1-i,by lia,by lia,by lia,by rw[getElem?_mirror_all hn,Ae ⟨h1,h2⟩]⟩
theorem fY (hn:n<=γ.size) (h:i<a∨n<=i):(mirror γ a n ((n-a) / 2))[i]?=γ[i]?:=by
 rw[getElem?_mirror_all hn,Af fun z=>h.elim (fun q=>BU q z.1) fun q=>BU z.2 q]
theorem vh {lo n:Nat} (fa:Fa c γ lo n) (hn:n<=γ.size):Sg c (mirror γ lo n ((n-lo) / 2)) lo n:=by
 intro i j g h p1 p2 p3 e1 e2;obtain⟨i',a1,a2,a3,a4⟩:=jc (γ:=γ) hn p1 (Bm p2 p3);obtain⟨j',b1,b2,b3,b4⟩:=jc (γ:=γ) hn (Ze p1 (A0 p2)) p3;exact fa j' i' h g b1 (by lia) a2 (b4 ▸ e2) (a4 ▸ e1)
theorem im {lo a n:Nat} (ow:Ow γ lo n) (ha:lo<=a) (hn:n<=γ.size):Ow (mirror γ a n ((n-a) / 2)) lo n:=by
 intro i g p1 p2 e;by_cases hi:a<=i
 ·obtain⟨i',a1,a2,a3,a4⟩:=jc (γ:=γ) hn hi p2;exact ow i' g (Ze ha a1) a2 (a4 ▸ e)
 ·rw[fY hn (.inl (Bh hi))]at e;exact ow i g p1 p2 e
theorem dW (raw:Raw γ n m) (hn:n<=γ.size):Raw (mirror γ a n ((n-a) / 2)) n m:=by
 intro i p1 p2;rw[fY hn (.inr p1)];exact raw i p1 p2
theorem fZ {lo a n:Nat} {γ':Array Nat} (o:Out γ γ' lo n) (ha:lo<=a) (hn:n<=γ'.size):Out γ (mirror γ' a n ((n-a) / 2)) lo n:=by
 intro i p;rw[fY hn (p.imp (fun q=>Zc q ha) id)];exact o i p
theorem Out.wide {lo n n':Nat} {γ':Array Nat} (o:Out γ γ' lo n) (h:n<=n'):Out γ γ' lo n':=fun i p=>o i (by lia)
theorem Fl.turn {lo m n:Nat} (F:Fl c γ lo m n) (hn:n<=γ.size):Fa c (mirror γ m n ((n-m) / 2)) lo n:=by
 intro i j g h p1 p2 p3 e1 e2;by_cases hj:j<m
 ·rw[fY hn (.inl (Bm p2 hj))]at e1;rw[fY hn (.inl hj)]at e2;exact F.fall i j g h p1 p2 hj e1 e2
 obtain⟨j',b1,b2,b3,b4⟩:=jc (γ:=γ) hn (Bi hj) p3;rw[b4]at e2;by_cases hi:i<m
 ·rw[fY hn (.inl hi)]at e1;exact .inl (F.cross i j' g h p1 hi b1 b2 e1 e2)
 ·obtain⟨i',a1,a2,a3,a4⟩:=jc (γ:=γ) hn (Bi hi) (Bm p2 p3);rw[a4]at e1;refine .inr ⟨F.same i' j' g h a1 a2 b1 b2 e1 e2,?_⟩;rw[F.raw i' a1 a2]at e1;rw[F.raw j' b1 b2]at e2;cases e1;cases e2;lia
theorem Fl.fa1 {lo m:Nat} (F:Fl c γ lo m (m+1)):Fa c γ lo (m+1):=by
 intro i j g h p1 p2 p3 e1 e2;by_cases hj:j<m
 ·exact F.fall i j g h p1 p2 hj e1 e2
 ·exact .inl (F.cross i j g h p1 (by lia) (by lia) p3 e1 e2)
theorem Fa.next (C:Cm prog w A s k f N c) {lo n g:Nat} (fa:Fa c γ lo n) (ow:Ow γ lo n) (raw:Raw γ n N) (hl:lo<n) (hn:n<N) (z:∀i g,lo<=i->i<n->γ[i]?=some g->c n g=true):Fl c γ lo n (n+1):=by
 have en:=raw n (Xa _) hn;refine⟨by lia,by lia,fa,fun i j g h p1 p2 p3 p4 e1 e2=>?_,fun i j g h p1 p2 p3 p4 e1 e2=>?_,fun i p1 p2=>raw i p1 (by lia),fun i g p1 p2 e=>?_⟩
 ·obtain rfl:j=n:=by lia
  rw[en]at e2;cases e2;exact z i g p1 p2 e1
 ·obtain rfl:i=n:=by lia
  obtain rfl:j=i:=by lia
  rw[en]at e1 e2;cases e1;cases e2;exact C.irr _
 ·by_cases hi:i<n
  ·have:=ow i g p1 hi e;lia
  ·obtain rfl:i=n:=by lia
   rw[en]at e;cases e;lia
theorem Fl.more (C:Cm prog w A s k f N c) {lo m n:Nat} (F:Fl c γ lo m n) (raw:Raw γ n N) (hn:n<N) (z1:c n (n-1)=false) (z2:c (n-1) n=false):Fl c γ lo m (n+1):=by
 have en:=raw n (Xa _) hn;have ep:=F.raw (n-1) (by have:=F.lt;lia) (by have:=F.lt;lia)
 have hlt:=F.lt;have hle:=F.le;refine⟨hle,by lia,F.fall,fun i j g h p1 p2 p3 p4 e1 e2=>?_,fun i j g h p1 p2 p3 p4 e1 e2=>?_,fun i p1 p2=>?_,fun i g p1 p2 e=>?_⟩
 ·by_cases hj:j<n
  ·exact F.cross i j g h p1 p2 p3 hj e1 e2
  ·obtain rfl:j=n:=by lia
   rw[en]at e2;cases e2;rcases C.neg _ j _ (F.cross i (j-1) g (j-1) p1 p2 (by lia) (by lia) e1 ep) with q|q
   ·rw[z2]at q;cases q
   ·exact q
 ·have key:∀a g,m<=a->a<n+1->γ[a]?=some g->c g (n-1)=false/\c (n-1) g=false:=by
   intro a g q1 q2 e;by_cases ha:a<n
   ·exact⟨F.same a (n-1) g (n-1) q1 ha (by lia) (by lia) e ep,F.same (n-1) a (n-1) g (by lia) (by lia) q1 ha ep e⟩
   ·obtain rfl:a=n:=by lia
    rw[en]at e;cases e;exact⟨z1,z2⟩
  exact C.letr (key j h p3 p4 e2).2 (key i g p1 p2 e1).1
 ·by_cases hi:i<n
  ·exact F.raw i p1 hi
  ·exact raw i (by lia) (by lia)
 ·by_cases hi:i<n
  ·have:=F.own i g p1 hi e;lia
  ·obtain rfl:i=n:=by lia
   rw[en]at e;cases e;lia
theorem Fl.below (C:Cm prog w A s k f N c) {lo m n x:Nat} (F:Fl c γ lo m n) (z:c x (n-1)=true):∀i g,lo<=i->i<n->γ[i]?=some g->c x g=true:=by
 have hlt:=F.lt;have ep:=F.raw (n-1) (by lia) (by lia)
 intro i g p1 p2 e;rcases C.neg x g _ z with q|q
 ·exact q
 ·by_cases hi:i<m
  ·exact absurd (F.cross i (n-1) g (n-1) p1 hi (by lia) (by lia) e ep) (by rw[C.asy q];exact Bool.noConfusion)
  ·rw[F.same i (n - 1) g (n - 1) (by lia) p2 (by lia) (by lia) e ep]at q;cases q
def Rn (k:SortKind) (f:Nat->Keyed) (N:Nat) (c:Nat->Nat->Bool) (lo:Nat) (st:SortSt) (γ:Array Nat) (n:Nat) (st':SortSt):Prop :=
 ∃x γ',st'=setArr st x/\Rp k f N st' γ'/\Sg c γ' lo (lo+n)/\Ow γ' lo (lo+n)/\Raw γ' (lo+n) N/\Out γ γ' lo (lo+n)
def qz (lo n nrem:Nat):StateT SortSt Sem (Option Nat):=do
 reverseSlice' lo (lo+n)
 let r ← forIn [n:nrem] ((none,n):Option (Option Nat)×Nat) fun _ r=>do
  match ← ltAt' (lo+r.2) (lo+r.2-1) with
  | some smaller=>if smaller=true then pure (ForInStep.done (none,r.2)) else pure (ForInStep.yield (none,r.2+1))
  | _=>pure (ForInStep.done (some none,r.2))
 match r.1 with
 | some z=>pure z
 | none=>pure (some r.2)
def mo (lo x nrem:Nat):StateT SortSt Sem (Option Nat):=do
 liftM (rule "list.sort.descending-run")
 let r ← forIn [x+1:nrem] ((none,x+1,0):Option (Option Nat)×Nat×Nat) fun _ r=>do
  match ← ltAt' (lo+r.2.1) (lo+r.2.1-1) with
  | some smaller =>
   if smaller=true then
    if r.2.2 > 0 then do
     reverseSlice' (lo+r.2.1-(r.2.2+1)) (lo+r.2.1)
     pure (ForInStep.yield (none,r.2.1+1,0))
    else pure (ForInStep.yield (none,r.2.1+1,0))
   else do
    match ← ltAt' (lo+r.2.1-1) (lo+r.2.1) with
    | some larger=>if larger=true then pure (ForInStep.done (none,r.2.1,r.2.2)) else pure (ForInStep.yield (none,r.2.1+1,r.2.2+1))
    | _=>pure (ForInStep.done (some none,r.2.1,r.2.2))
  | _=>pure (ForInStep.done (some none,r.2.1,r.2.2))
 match r.1 with
 | some z=>pure z
 | none =>
  if r.2.2 > 0 then do
   reverseSlice' (lo+r.2.1-(r.2.2+1)) (lo+r.2.1)
   qz lo r.2.1 nrem
  else qz lo r.2.1 nrem
theorem oW (h:Q () (setArr st (mirror (arrOf st) i j ((j-i) / 2)))):wpS (model prog w) A E s (reverseSlice' i j) Q st:=by
 rw[reverseSlice'_eq];exact wpS_modify h
theorem tR (C:Cm prog w A s k f N c) {st₀:SortSt} {γ₀:Array Nat} {lo n:Nat} {y:Array Keyed} (R:Rp k f N (setArr st₀ y) γ) (h1:1<=n) (hn:lo+n<=N) (fa:Fa c γ lo (lo+n)) (ow:Ow γ lo (lo+n)) (raw:Raw γ (lo+n) N) (out:Out γ₀ γ lo (lo+n))
  {Q:Option Nat->SortSt->Prop} (q:∀n st',1<=n->lo+n<=N->Rn k f N c lo st₀ γ₀ n st'->Q (some n) st'):wpS (model prog w) A E s (qz lo n (N-lo)) Q (setArr st₀ y):=by
 have hs:lo+n<=γ.size:=by rw[R.size];exact hn
 refine Al (oW ?_);have R1:Rp k f N (setArr st₀ (mirror y lo (lo+n) ((lo+n-lo) / 2))) (mirror γ lo (lo+n) ((lo+n-lo) / 2)):=R.put (mirror_perm _ _ _ _) (by rw[show y=γ.map f from R.arr,fX])
 have sg:=vh fa hs;have ow':=im ow (Xa lo) hs;have raw':=dW (a:=lo) raw hs;have out':=fZ out (Xa lo) hs;generalize mirror γ lo (lo+n) ((lo+n-lo) / 2)=δ at R1 sg ow' raw' out';generalize mirror y lo (lo+n) ((lo+n-lo) / 2)=y' at R1
 refine Al (Bu (AH (I:=fun x r st'=>st'=setArr st₀ y'/\r=(none,x)/\n<=x/\lo+x<=N/\Sg c δ lo (lo+x)/\Ow δ lo (lo+x)/\Raw δ (lo+x) N)
  (Q:=fun r st'=>st'=setArr st₀ y'/\∃x,r=(none,x)/\n<=x/\lo+x<=N/\Sg c δ lo (lo+x)/\Ow δ lo (lo+x)/\Raw δ (lo+x) N) ?step ?fin ?init) ?post)
 case init=>exact⟨rfl,rfl,Xa _,hn,sg,ow',raw'⟩
 case fin =>
  rintro r st' ⟨rfl,rfl,b1,b2,b3,b4,b5⟩;exact⟨rfl,_,rfl,b1,b2,b3,b4,b5⟩
 case step =>
  rintro x r st' p1 p2 ⟨rfl,rfl,b1,b2,b3,b4,b5⟩;dsimp only;have en:=b5 (lo+x) (by lia) (by lia)
  obtain⟨g,ep⟩:=xA (γ:=δ) (i:=lo+x-1) (by rw[R1.size];lia)
  refine Al (il C R1 en ep ?_);cases hc:c (lo+x) g with
  | true=>exact Ar ⟨rfl,x,rfl,b1,b2,b3,b4,b5⟩
  | false =>
   obtain⟨a1,a2,a3⟩:=qy C b3 b4 b5 (by lia) (by lia) ep hc
   exact Ar ⟨rfl,rfl,by lia,by lia,a1,a2,a3⟩
 case post =>
  rintro r st' ⟨rfl,x,rfl,b1,b2,b3,b4,b5⟩;exact Ar (q x _ (by lia) b2 ⟨y',δ,rfl,R1,b3,b4,b5,out'.wide (by lia)⟩)
theorem tS (C:Cm prog w A s k f N c) {st₀:SortSt} {γ₀:Array Nat} {lo x:Nat} {y:Array Keyed} (R:Rp k f N (setArr st₀ y) γ) (hx:lo+x<N) (F:Fl c γ lo (lo+x) (lo+x+1)) (raw:Raw γ (lo+x+1) N) (out:Out γ₀ γ lo (lo+x+1))
  {Q:Option Nat->SortSt->Prop} (q:∀n st',1<=n->lo+n<=N->Rn k f N c lo st₀ γ₀ n st'->Q (some n) st'):wpS (model prog w) A E s (mo lo x (N-lo)) Q (setArr st₀ y):=by
 refine Al (wpS_lift (AF ⟨rfl,?_⟩))
 refine Al (Bu (AH (I:=fun n r st'=>∃e y' δ,r=(none,n,e)/\st'=setArr st₀ y'/\Rp k f N (setArr st₀ y') δ/\e+1<=n/\lo+n<=N/\Fl c δ lo (lo+n-(e+1)) (lo+n)/\Raw δ (lo+n) N/\Out γ₀ δ lo (lo+n))
  (Q:=fun r st'=>∃n e y' δ,r=(none,n,e)/\st'=setArr st₀ y'/\Rp k f N (setArr st₀ y') δ/\e+1<=n/\lo+n<=N/\Fl c δ lo (lo+n-(e+1)) (lo+n)/\Raw δ (lo+n) N/\Out γ₀ δ lo (lo+n)) ?step ?fin ?init) ?post)
 case init=>exact⟨0,y,γ,rfl,rfl,R,by lia,by lia,F,raw,out⟩
 case fin =>
  rintro r st' ⟨e,y',δ,h⟩;exact⟨_,e,y',δ,h⟩
 case step =>
  rintro n r st' p1 p2 ⟨e,y',δ,rfl,rfl,R1,b1,b2,F1,raw1,out1⟩;dsimp only;have en:=raw1 (lo+n) (Xa _) (by lia)
  have s1:1<=lo+n:=by lia
  have ep:=F1.raw (lo+n-1) (Nat.sub_le_sub_left (Nat.succ_le_succ (Wh e)) _) (Nat.sub_lt s1 Nat.one_pos);have hs:lo+n<=δ.size:=by rw[R1.size];exact b2
  refine Al (il C R1 en ep ?_);cases hc:c (lo+n) (lo+n-1) with
  | true =>
   dsimp only;refine nT rfl ?_;have bl:=F1.below C hc;by_cases he:e > 0
   ·refine nT he ?_;refine Al (oW (Ar ?_));have fa:=F1.turn hs;have ow':=im F1.own F1.le hs;have raw':=dW (a:=lo+n-(e+1)) raw1 hs;have out':=fZ out1 F1.le hs;refine⟨0,_,mirror δ (lo+n-(e+1)) (lo+n) ((lo+n-(lo+n-(e+1))) / 2),rfl,rfl,R1.put (mirror_perm _ _ _ _) (by rw[show arrOf (setArr st₀ y')=δ.map f from R1.arr,fX]),by lia,by lia,?_,fun i q1 q2=>raw' i (by lia) q2,out'.wide (by lia)⟩
    refine fa.next C (g:=0) ow' raw' (by lia) (by lia) fun i g q1 q2 e1=>?_
    by_cases hi:lo+n-(e+1)<=i
    ·obtain⟨i',a1,a2,_,a4⟩:=jc (γ:=δ) hs hi q2;exact bl i' g (Ze F1.le a1) a2 (a4 ▸ e1)
    ·rw[fY hs (.inl (Bh hi))]at e1;exact bl i g q1 q2 e1
   ·obtain rfl:e=0:=by lia
    refine mj he ?_;have F2:Fl c δ lo (lo+n-1) (lo+n-1+1):=by rw[A5 s1];exact F1
    have fa:=F2.fa1;rw[A5 s1]at fa;exact Ar ⟨0,y',δ,rfl,rfl,R1,by lia,by lia,fa.next C (g:=0) F1.own raw1 (by lia) (by lia) bl,fun i q1 q2=>raw1 i (by lia) q2,out1.wide (by lia)⟩
  | false =>
   dsimp only;refine mj Bool.noConfusion ?_;refine Al (il C R1 ep en ?_);cases hc2:c (lo+n-1) (lo+n) with
   | true=>exact Ar ⟨n,e,y',δ,rfl,rfl,R1,b1,b2,F1,raw1,out1⟩
   | false =>
    refine Ar ⟨e+1,y',δ,rfl,rfl,R1,by lia,by lia,?_,fun i q1 q2=>raw1 i (by lia) q2,out1.wide (by lia)⟩
    rw[show lo+(n+1) - (e+1+1)=lo+n - (e+1) from Nat.succ_sub_succ _ _];exact F1.more C raw1 (by lia) hc hc2
 case post =>
  rintro r st' ⟨n,e,y',δ,rfl,rfl,R1,b1,b2,F1,raw1,out1⟩;have hs:lo+n<=δ.size:=by rw[R1.size];exact b2
  have s1:1<=lo+n:=by lia
  dsimp only;by_cases he:e > 0
  ·refine nT he ?_;refine Al (oW ?_);exact tR C (γ:=mirror δ (lo+n-(e+1)) (lo+n) ((lo+n-(lo+n-(e+1))) / 2)) (R1.put (mirror_perm _ _ _ _) (by rw[show arrOf (setArr st₀ y')=δ.map f from R1.arr,fX])) (by lia) b2 (F1.turn hs) (im F1.own F1.le hs) (dW (a:=lo+n-(e+1)) raw1 hs) (fZ out1 F1.le hs) q
  ·obtain rfl:e=0:=by lia
   refine mj he ?_;have F2:Fl c δ lo (lo+n-1) (lo+n-1+1):=by rw[A5 s1];exact F1
   have fa:=F2.fa1;rw[A5 s1]at fa;exact tR C R1 (by lia) b2 fa F1.own raw1 out1 q
theorem Gj (C:Cm prog w A s k f N c) (R:Rp k f N st γ) {lo:Nat} (hl:lo<N) (raw:Raw γ lo N)
  {Q:Option Nat->SortSt->Prop} (q:∀n st',1<=n->lo+n<=N->Rn k f N c lo st γ n st'->Q (some n) st'):wpS (model prog w) A E s (countRun' lo (N-lo)) Q st:=by
 rw[countRun'_eq];have sg1:Sg c γ lo (lo+1):=fun i j g h p1 p2 p3=>by lia
 have ow1:Ow γ lo (lo+1):=fun i g p1 p2 e=>by
  obtain rfl:i=lo:=by lia
  rw[raw i (Xa _) hl]at e;cases e;lia
 refine Al (Bu (AH (I:=fun x r st'=>st'=st/\r=(none,x)/\1<=x/\lo+x<=N/\Sg c γ lo (lo+x)/\Ow γ lo (lo+x)/\∀i g h,lo<=i->i+1<lo+x->γ[i]?=some g->γ[i+1]?=some h->c h g=false)
  (Q:=fun r st'=>st'=st/\∃x,r=(none,x)/\1<=x/\lo+x<=N/\Sg c γ lo (lo+x)/\Ow γ lo (lo+x)/\(lo+x=N∨c (lo+x) (lo+x-1)=true)) ?step ?fin ?init) ?post)
 case init=>exact⟨rfl,rfl,by lia,by lia,sg1,ow1,fun i g h p1 p2=>by lia⟩
 case fin =>
  rintro r st' ⟨rfl,rfl,b1,b2,b3,b4,b5⟩;exact⟨rfl,_,rfl,b1,b2,b3,b4,.inl (by lia)⟩
 case step =>
  rintro x r st' p1 p2 ⟨rfl,rfl,b1,b2,b3,b4,b5⟩;dsimp only;have en:=raw (lo+x) (by lia) (by lia)
  have ep:=raw (lo+x-1) (by lia) (by lia)
  refine Al (il C R en ep ?_);cases hc:c (lo+x) (lo+x-1) with
  | true=>exact Ar ⟨rfl,x,rfl,b1,b2,b3,b4,.inr hc⟩
  | false =>
   obtain⟨a1,a2,_⟩:=qy C b3 b4 (fun i q1 q2=>raw i (by lia) q2) b1 (by lia) ep hc
   refine Ar ⟨rfl,rfl,by lia,by lia,a1,a2,fun i g h q1 q2 e1 e2=>?_⟩
   rw[raw i q1 (by lia)]at e1
   rw[raw (i+1) (by lia) (by lia)]at e2
   cases e1;cases e2;by_cases hi:i+1<lo+x
   ·exact b5 i i (i+1) q1 hi (raw _ q1 (by lia)) (raw _ (by lia) (by lia))
   ·obtain rfl:i=lo+x-1:=by lia
    rw[show lo+x - 1+1=lo+x by lia];exact hc
 case post =>
  rintro r st' ⟨rfl,x,rfl,b1,b2,b3,b4,b6⟩;dsimp only;by_cases hx:lo+x=N
  ·refine nT (by simp;lia) ?_
   exact Ar (q x _ b1 b2 ⟨_,γ,rfl,R,b3,b4,fun i q1 q2=>raw i (by lia) q2,Out.refl _ _ _⟩)
  ·refine mj (by simp;lia) ?_
   have hc:c (lo+x) (lo+x-1)=true:=b6.resolve_left hx;have hs:lo+x<=γ.size:=by rw[R.size];exact b2
   have raw':Raw γ (lo+x) N:=fun i q1 q2=>raw i (by lia) q2
   by_cases h1:x > 1
   ·refine nT h1 ?_;refine Al (il C R (raw lo (Xa _) hl) (raw (lo+x-1) (by lia) (by lia)) ?_)
    cases hr:c lo (lo+x-1) with
    | true=>exact Ar (q x _ b1 b2 ⟨_,γ,rfl,R,b3,b4,raw',Out.refl _ _ _⟩)
    | false =>
     dsimp only;refine mj Bool.noConfusion ?_;have le:∀a b,lo<=a->a<lo+x->lo<=b->b<lo+x->a<=b->c b a=false:=fun a b p1 p2 p3 p4 p5=>by
      by_cases ab:a=b
      ·subst ab;exact C.irr _
      ·exact C.le (b3 a b a b p1 (by lia) p4 (raw a p1 (by lia)) (raw b p3 (by lia)))
     have al:∀a b,lo<=a->a<lo+x->lo<=b->b<lo+x->c a b=false:=fun a b p1 p2 p3 p4=>by
      by_cases ab:b<=a
      ·exact le b a p3 p4 p1 p2 ab
      ·cases hab:c a b with
       | false=>rfl
       | true =>
        rcases C.neg a lo b hab with z|z
        ·rw[le lo a (Xa _) (by lia) p1 p2 p1]at z;exact z.symm
        ·rcases C.neg lo (lo+x-1) b z with z|z
         ·rw[hr]at z;exact z.symm
         ·rw[le b (lo+x - 1) p3 p4 (by lia) (by lia) (by lia)]at z;exact z.symm
     have F0:Fl c γ lo lo (lo+x):=⟨Xa _,by lia,fun i j g h p1 p2 p3=>by lia,fun i j g h p1 p2=>by lia,fun i j g h p1 p2 p3 p4 e1 e2=>by
      rw[raw i p1 (by lia)]at e1
      rw[raw j p3 (by lia)]at e2
      cases e1;cases e2
      exact al i j p1 p2 p3 p4,fun i p1 p2=>raw i p1 (by lia),b4⟩
     refine Al (oW ?_);refine(show ∀{m:StateT SortSt Sem (Option Nat)} {t:SortSt},m=mo lo x (N-lo)->wpS (model prog w) A E s (mo lo x (N-lo)) Q t->wpS (model prog w) A E s m Q t from fun e h=>e ▸ h) ?_
      (tS C (st₀:=st') (γ₀:=γ) (γ:=mirror γ lo (lo+x) ((lo+x-lo) / 2)) (R.put (mirror_perm _ _ _ _) (by rw[R.arr,fX])) (by lia)
       ((F0.turn hs).next C (g:=0) (im b4 (Xa _) hs) (dW (a:=lo) raw' hs) (by lia) (by lia) fun i g p1 p2 e=>?_) (fun i q1 q2=>dW (a:=lo) raw' hs i (by lia) q2) ((fZ (Out.refl γ lo (lo+x)) (Xa _) hs).wide (by lia)) q)
     ·unfold mo qz;congr 1;funext _v;congr 1;funext z;obtain⟨z1,z2,z3⟩:=z;cases z1 with
      | some z1=>rfl
      | none =>
       dsimp only;split
       ·congr 1;funext _y;congr 1;funext _u;congr 1;funext z;obtain⟨z1,z2⟩:=z;cases z1<;>rfl
       ·congr 1;funext _u;congr 1;funext z;obtain⟨z1,z2⟩:=z;cases z1<;>rfl
     ·obtain⟨i',a1,a2,_,a4⟩:=jc (γ:=γ) hs p1 p2;exact F0.below C hc i' g a1 a2 (a4 ▸ e)
   ·obtain rfl:x=1:=by lia
    refine mj h1 ?_;have fa:Fa c γ lo (lo+1):=fun i j g h p1 p2 p3=>by lia
    refine(show ∀{m:StateT SortSt Sem (Option Nat)},m=mo lo 1 (N-lo)->wpS (model prog w) A E s (mo lo 1 (N-lo)) Q st'->wpS (model prog w) A E s m Q st' from fun e h=>e ▸ h) ?_ (tS C (st₀:=st') (y:=arrOf st') (γ₀:=γ) (γ:=γ) R (by lia) (fa.next C (g:=0) b4 raw' (by lia) (by lia) fun i g p1 p2 e=>?_) (fun i q1 q2=>raw i (by lia) q2) (Out.refl _ _ _) q)
    ·unfold mo qz;congr 1;funext _v;congr 1;funext z;obtain⟨z1,z2,z3⟩:=z;cases z1 with
     | some z1=>rfl
     | none =>
      dsimp only;split
      ·congr 1;funext _y;congr 1;funext _u;congr 1;funext z;obtain⟨z1,z2⟩:=z;cases z1<;>rfl
      ·congr 1;funext _u;congr 1;funext z;obtain⟨z1,z2⟩:=z;cases z1<;>rfl
    obtain rfl:i=lo:=by lia
    rw[raw i (Xa _) hl]at e;cases e;exact hc
end
end TS
namespace TS
open PySem PyProof.Rows
def JC:StateT SortSt Sem Unit:=sortPriv% PySem.Builtin.sortRuns
section
variable {prog:Program} {w:World} {A:Around} {E:Value->Shared->Prop} {s:Shared} {k:SortKind} {f:Nat->Keyed} {N:Nat} {c:Nat->Nat->Bool} {st:SortSt} {γ:Array Nat}
theorem Gk (C:Cm prog w A s k f N c) (R:Rp k f N st γ) {lo n ok:Nat} (hn:lo+n<=N) (h1:1<=ok) (hok:ok<=n) (sg:Sg c γ lo (lo+ok)) (ow:Ow γ lo (lo+ok)) (raw:Raw γ (lo+ok) N)
  {Q:Bool->SortSt->Prop} (q:∀(x:Array Keyed) (γ':Array Nat),Rp k f N (setArr st x) γ'->Sg c γ' lo (lo+n)->Ow γ' lo (lo+n)->Raw γ' (lo+n) N->Out γ γ' lo (lo+n)->Q true (setArr st x)) :
  wpS (model prog w) A E s ((sortPriv% PySem.Builtin.binarySort) lo n ok) Q st:=zU C R hn h1 hok sg ow raw q
theorem Gm (C:Cm prog w A s k f N c) (R:Rp k f N st γ) {lo:Nat} (hl:lo<N) (raw:Raw γ lo N)
  {Q:Option Nat->SortSt->Prop} (q:∀n st',1<=n->lo+n<=N->Rn k f N c lo st γ n st'->Q (some n) st'):wpS (model prog w) A E s ((sortPriv% PySem.Builtin.countRun) lo (N-lo)) Q st:=Gj C R hl raw q
theorem zV (h64:N<64) (C:Cm prog w A s k f N c) (R:Rp k f N st γ) (hp:pendingOf st=#[]) (raw:Raw γ 0 N) {Q:Unit->SortSt->Prop} (q:∀st' γ',Rp k f N st' γ'->Sg c γ' 0 N->Q ⟨⟩ st'):wpS (model prog w) A E s JC Q st:=by
 have hsz:((sortPriv% PySem.Builtin.SortState.a) st).size=N:=by
  have:=congrArg Array.size R.arr;rw[Array.size_map,R.size]at this;exact this
 have hmin:(sortPriv% PySem.Builtin.minRun) N N 0=N:=by
  cases N with
  | zero=>rfl
  | succ m =>
   show minRun' (m+1) (m+1) 0=m+1;rw[minRun'_succ,Ae h64]
 refine Al (wpS_get ?_);dsimp only;rw[hsz,hmin]
 refine Al (Bu (AH (I:=fun x r st'=>(r=(none,0)/\st'=st/\x=0)∨(r=(none,N)/\(pendingOf st').size<=1/\∃γ',Rp k f N st' γ'/\Sg c γ' 0 N))
  (Q:=fun r st'=>r.1=none/\(pendingOf st').size<=1/\∃γ',Rp k f N st' γ'/\Sg c γ' 0 N) ?step ?fin ?init) ?post)
 case init=>exact .inl ⟨rfl,rfl,rfl⟩
 case fin =>
  rintro r st' (⟨rfl,rfl,hx⟩|⟨rfl,hz,γ',R',g'⟩)
  ·have hN:N=0:=by lia
   subst hN;exact⟨rfl,by rw[hp];exact Wh _,γ,R,fun i j g h z1 z2 z3=>by lia⟩
  ·exact⟨rfl,hz,γ',R',g'⟩
 case step =>
  rintro x r st' _ hxN (⟨rfl,rfl,hx⟩|⟨rfl,hz,γ',R',g'⟩)
  ·dsimp only;have hpos:0<N:=by lia
   rw[Af (by lia)]
   refine Al (Gm C R hpos raw fun n st1 hn1 hn2 rn=>?_);obtain⟨xa,γ1,hst1,R1,sg1,ow1,raw1,out1⟩:=rn;have pd1:pendingOf st1=#[]:=by rw[hst1];exact hp
   dsimp only;by_cases hm:n<N
   ·rw[Ae hm];refine Al (wpS_lift (AF ⟨rfl,?_⟩));rw[show min (N - 0) N=N by lia]
    refine Al (Gk C R1 (n:=N) (by lia) hn1 (by lia) sg1 ow1 raw1 fun xb γ2 R2 sg2 ow2 raw2 out2=>?_)
    rw[Af (by decide)]
    refine Al (wpS_get ?_);have hb:((sortPriv% PySem.Builtin.SortState.pending) (setArr st1 xb)).back?=none:=by
     show(pendingOf st1).back?=none;rw[pd1];rfl
    rw[hb];refine Al (wpS_modify (Ar (.inr ⟨by rw[AY],?_,γ2,⟨R2.arr,R2.kind,R2.fine,R2.perm⟩,by rw[AY]at sg2;exact sg2⟩)))
    show((pendingOf st1).push _).size<=1;rw[pd1];exact Xa _
   ·rw[Af hm];obtain rfl:n=N:=by lia
    refine Al (wpS_get ?_);have hb:((sortPriv% PySem.Builtin.SortState.pending) st1).back?=none:=by
     show(pendingOf st1).back?=none;rw[pd1];rfl
    rw[hb];refine Al (wpS_modify (Ar (.inr ⟨by rw[AY],?_,γ1,⟨R1.arr,R1.kind,R1.fine,R1.perm⟩,by rw[AY]at sg1;exact sg1⟩)))
    show((pendingOf st1).push _).size<=1;rw[pd1];exact Xa _
  ·dsimp only;rw[Ae (Xa N)];exact Ar ⟨rfl,hz,γ',R',g'⟩
 case post =>
  rintro⟨r1,r2⟩ st' ⟨hr,hz,γ',R',g'⟩;dsimp only at hr;subst hr;dsimp only;refine Al (Bu (AH (I:=fun _ r st2=>r=(none,())/\st2=st') (Q:=fun r st2=>r=(none,())/\st2=st') ?step3 ?fin3 ?init3) ?post3)
  case init3=>exact⟨rfl,rfl⟩
  case fin3=>exact fun r st2 h=>h
  case step3 =>
   rintro y r st2 _ _ ⟨rfl,rfl⟩;refine Al (wpS_get ?_);rw[Ae (show((sortPriv% PySem.Builtin.SortState.pending) st2).size<=1 from hz)];exact Ar ⟨rfl,rfl⟩
  case post3 =>
   rintro r st2 ⟨rfl,rfl⟩;exact Ar (q st2 γ' R' g')
end
end TS
namespace VF
open PySem L2
open Classical in
noncomputable def gq (lt:D->D->Bool):List D->List D->Bool
 | [],[]=>false
 | [],_::_=>true
 | _::_,[]=>false
 | x::xs,y::ys=>if x=y then gq lt xs ys else lt x y
noncomputable def ltN:Nat->D->D->Bool
 | 0,_,_=>false
 | _+1,.int i,.int j=>decide (i<j)
 | _+1,.str x,.str y=>decide (x.cps.toList<y.cps.toList)
 | n+1,.tup xs,.tup ys=>gq (ltN n) xs ys
 | n+1,.lst xs,.lst ys=>gq (ltN n) xs ys
 | _+1,_,_=>false
def Cp:Nat->D->D->Prop
 | 0,_,_=>False
 | _+1,.int _,.int _=>True
 | _+1,.str _,.str _=>True
 | n+1,.tup xs,.tup ys=>∀(i:Nat) x y,xs[i]?=some x->ys[i]?=some y->Cp n x y
 | n+1,.lst xs,.lst ys=>∀(i:Nat) x y,xs[i]?=some x->ys[i]?=some y->Cp n x y
 | _+1,_,_=>False
theorem oX:∀(xs:List D),gq lt xs xs=false
 | []=>rfl
 | x::xs=>by
  unfold gq;rw[Ae rfl];exact oX xs
theorem lF:∀(n:Nat) (a:D),ltN n a a=false
 | 0,_=>rfl
 | n+1,a=>by
  cases a with
  | int i=>exact Ad (Int.lt_irrefl i)
  | str x=>exact Ad (List.lt_irrefl _)
  | tup xs=>exact oX xs
  | lst xs=>exact oX xs
  | _=>rfl
structure Or (n:Nat):Prop where
 tri:∀{a b:D},Cp n a b->a=b∨ltN n a b=true∨ltN n b a=true
 tra:∀{a b c:D},Cp n a b->Cp n b c->Cp n a c->ltN n a b=true->ltN n b c=true->ltN n a c=true
abbrev Cl (n:Nat) (xs ys:List D):Prop:=∀(i:Nat) x y,xs[i]?=some x->ys[i]?=some y->Cp n x y
theorem Cl.tail (h:Cl n (x::xs) (y::ys)):Cl n xs ys:=fun i a b e1 e2=>h (i+1) a b (by simpa using e1) (by simpa using e2)
theorem Cl.head (h:Cl n (x::xs) (y::ys)):Cp n x y:=h 0 x y rfl rfl
open Classical in
theorem bH:gq lt (x::xs) (x::ys)=gq lt xs ys:=by
 show(if x=x then gq lt xs ys else lt x x)=_;rw[Ae rfl]
open Classical in
theorem bj (h:x≠y):gq lt (x::xs) (y::ys)=lt x y:=by
 show(if x=y then gq lt xs ys else lt x y)=_;rw[Af h]
theorem oY (O:Or n):∀{xs ys:List D},Cl n xs ys->xs=ys∨gq (ltN n) xs ys=true∨gq (ltN n) ys xs=true
 | [],[],_=>.inl rfl
 | [],_::_,_=>.inr (.inl rfl)
 | _::_,[],_=>.inr (.inr rfl)
 | x::xs,y::ys,h=>by
  by_cases e:x=y
  ·subst e;rw[bH,bH];rcases oY O h.tail with q|q
   ·exact .inl (by rw[q])
   ·exact .inr q
  ·rw[bj e,bj (Ne.symm e)];rcases O.tri h.head with q|q
   ·exact absurd q e
   ·exact .inr q
theorem oZ (O:Or n):∀{xs ys zs:List D},Cl n xs ys->Cl n ys zs->Cl n xs zs->gq (ltN n) xs ys=true->gq (ltN n) ys zs=true->gq (ltN n) xs zs=true
 | [],[],[],_,_,_,h1,_=>h1
 | [],_::_,[],_,_,_,_,h2=>h2
 | [],_,_::_,_,_,_,_,_=>rfl
 | _::_,[],_,_,_,_,h1,_=>by cases h1
 | _::_,_::_,[],_,_,_,_,h2=>by cases h2
 | x::xs,y::ys,z::zs,c1,c2,c3,h1,h2=>by
  by_cases e1:x=y
  ·subst e1;rw[bH]at h1;by_cases e2:x=z
   ·subst e2;rw[bH]at h2 ⊢;exact oZ O c1.tail c2.tail c3.tail h1 h2
   ·rw[bj e2]at h2 ⊢;exact h2
  ·rw[bj e1]at h1;by_cases e2:y=z
   ·subst e2;rw[bj e1];exact h1
   ·rw[bj e2]at h2;have h3:=O.tra c1.head c2.head c3.head h1 h2;have e3:x≠z:=fun e=>by subst e;rw[lF]at h3;cases h3
    rw[bj e3];exact h3
theorem mq:∀n,Or n
 | 0=>⟨fun h=>h.elim,fun h=>h.elim⟩
 | n+1=>by
  have O:=mq n;refine⟨fun {a b} h=>?_,fun {a b c} h1 h2 h3 l1 l2=>?_⟩
  ·cases a with
   | int i =>
    cases b with
    | int j =>
     rcases Int.lt_trichotomy i j with q|q|q
     ·exact .inr (.inl (Ag q))
     ·exact .inl (by rw[q])
     ·exact .inr (.inr (Ag q))
    | _=>exact h.elim
   | str x =>
    cases b with
    | str y =>
     by_cases q:x.cps.toList<y.cps.toList
     ·exact .inr (.inl (Ag q))
     ·by_cases q':y.cps.toList<x.cps.toList
      ·exact .inr (.inr (Ag q'))
      ·refine .inl ?_;have:=xh (a:=x) (b:=y) q' q;rw[this]
    | _=>exact h.elim
   | tup xs =>
    cases b with
    | tup ys =>
     rcases oY O h with q|q
     ·exact .inl (by rw[q])
     ·exact .inr q
    | _=>exact h.elim
   | lst xs =>
    cases b with
    | lst ys =>
     rcases oY O h with q|q
     ·exact .inl (by rw[q])
     ·exact .inr q
    | _=>exact h.elim
   | _=>exact h.elim
  ·cases a with
   | int i =>
    cases b with
    | int j =>
     cases c with
     | int k =>
      have q1:=Ao l1;have q2:=Ao l2;exact Ag (Int.lt_trans q1 q2)
     | _=>exact h2.elim
    | _=>exact h1.elim
   | str x =>
    cases b with
    | str y =>
     cases c with
     | str z =>
      have q1:=Ao l1;have q2:=Ao l2;exact Ag (List.lt_trans q1 q2)
     | _=>exact h2.elim
    | _=>exact h1.elim
   | tup xs =>
    cases b with
    | tup ys =>
     cases c with
     | tup zs=>exact oZ O h1 h2 h3 l1 l2
     | _=>exact h2.elim
    | _=>exact h1.elim
   | lst xs =>
    cases b with
    | lst ys =>
     cases c with
     | lst zs=>exact oZ O h1 h2 h3 l1 l2
     | _=>exact h2.elim
    | _=>exact h1.elim
   | _=>exact h1.elim
theorem o0 (h:∀a b,lt a b=true->lt b a=false):∀(xs ys:List D),gq lt xs ys=true->gq lt ys xs=false
 | [],[],l=>by cases l
 | [],_::_,_=>rfl
 | _::_,[],l=>by cases l
 | x::xs,y::ys,l=>by
  by_cases e:x=y
  ·subst e;rw[bH]at l ⊢;exact o0 h xs ys l
  ·rw[bj e]at l;rw[bj (Ne.symm e)];exact h x y l
theorem lG:∀(n:Nat) (a b:D),ltN n a b=true->ltN n b a=false
 | 0,_,_,l=>by cases l
 | n+1,a,b,l=>by
  cases a with
  | int i =>
   cases b with
   | int j =>
    have q:=Ao l;exact Ad (by lia)
   | _=>cases l
  | str x =>
   cases b with
   | str y =>
    have q:=Ao l;exact Ad (List.lt_asymm q)
   | _=>cases l
  | tup xs =>
   cases b with
   | tup ys=>exact o0 (lG n) xs ys l
   | _=>cases l
  | lst xs =>
   cases b with
   | lst ys=>exact o0 (lG n) xs ys l
   | _=>cases l
  | _=>cases l
def zW (n:Nat) (es:List D):Prop:=es.Pairwise fun a b=>ltN n b a=false
open Classical in
noncomputable def bR (n:Nat) (ds:List D):List D:=if h:∃es:List D,es.Perm ds/\zW n es then h.choose else ds
theorem f6 (n:Nat) (ds:List D):(bR n ds).Perm ds:=by
 unfold bR;split
 ·rename_i h;exact h.choose_spec.1
 ·exact List.Perm.refl _
def CA (n:Nat) (ds:List D):Prop:=∀a∈ds,∀b∈ds,Cp n a b
theorem CA.neg (h:CA n ds) (ha:a∈ds) (hb:b∈ds) (hc:c∈ds) (l:ltN n a c=true):ltN n a b=true∨ltN n b c=true:=by
 rcases(mq n).tri (h a ha b hb) with q|q|q
 ·subst q;exact .inr l
 ·exact .inl q
 ·exact .inr ((mq n).tra (h b hb a ha) (h a ha c hc) (h b hb c hc) q l)
theorem cq {ds es:List D} (h:CA n ds) (p:es.Perm ds) (s:zW n es):es=bR n ds:=by
 have ex:∃es:List D,es.Perm ds/\zW n es:=⟨es,p,s⟩;have e:bR n ds=ex.choose:=by unfold bR;rw[dif_pos ex]
 obtain⟨p2,s2⟩:=ex.choose_spec;rw[e];refine(p.trans p2.symm).eq_of_pairwise (fun a b ha hb h1 h2=>?_) s s2;rcases(mq n).tri (h a (p.mem_iff.mp ha) b (p2.mem_iff.mp hb)) with q|q|q
 ·exact q
 ·rw[h2]at q;cases q
 ·rw[h1]at q;cases q
end VF
namespace VF
open PySem L2 PySem.SeqAt
open PySem.AutoSeq1 (wpAny_loadPart')
open PySem.MeetsSeq PySem.MeetsSeq2 PySem.MeetsSeq3
def LtAt (A:Around) (s:Shared) (u v:Value) (b:Bool):Prop:=∀(prog:Program) (w:World) (E:Value->Shared->Prop) (Q:Value->Shared->Prop),Q (.bool b) s->wpAny (model prog w) A (richCompare .Lt u v) Q E s
open Classical in
inductive IL (A:Around) (s:Shared) (lt:D->D->Bool):List Value->List Value->List D->List D->Prop where
 | left {ws:List Value} {es:List D}:ws.length=es.length->IL A s lt [] ws [] es
 | right {vs:List Value} {ds:List D}:vs.length=ds.length->IL A s lt vs [] ds []
 | cons {v w:Value} {vs ws:List Value} {d e:D} {ds es:List D}:EqAt A.in1 s v w (decide (d=e))->(d≠e->LtAt A.in1 s v w (lt d e))->IL A s lt vs ws ds es->IL A s lt (v::vs) (w::ws) (d::ds) (e::es)
open Classical in
inductive KL (A:Around) (s:Shared) (lt:D->D->Bool) (n m:Nat) (R:Result->Shared->Prop) {α β:Type} (rest:List (Value×Value)) (b:Option α×β) (s':Shared):Prop
 | mk (vs ws:List Value) (ds' es':List D) (e1:b.1=none) (e2:s'=s) (hz:rest=vs.zip ws) (hi:IL A s lt vs ws ds' es') (hlen:vs.length+m=ws.length+n) (hR:R (.ok (.ret (.bool (gq lt ds' es')))) s)
open Classical in
theorem m7 (l b:Addr) (items items2:Array Value) (n n2:Nat) (dd dd2:Option Addr) (sl sl2:Array (Option Value)) (lt:D->D->Bool) (ds es:List D) :
  Meets (Builtin.«tuple.__lt__» ⟨[.ref l,.ref b],[]⟩)
   (fun A R s=>s.heap.get? l=some { cls:=.type "tuple",dict:=dd,data:=.seq items n,slots:=sl }/\s.heap.get? b=some { cls:=.type "tuple",dict:=dd2,data:=.seq items2 n2,slots:=sl2 } /\
    IL A s lt items.toList items2.toList ds es/\R (.ok (.ret (.bool (gq lt ds es)))) s) :=
 .of_wp fun prog w A R s h=>by
  obtain⟨hp,g,d,tk,os⟩:=s;obtain⟨hl,hb,hI,h⟩:=h;have f2:=AutoSeq1.sub_tuple_tuple
  wp_walk using Ak hl,Ak hb,AL _ (KL A ⟨hp,g,d,tk,os⟩ lt items.size items2.size R) _
  case turn =>
   rintro⟨y,x⟩ rest b s' ⟨vs,ws,ds',es',hb',rfl,hz,hi,hlen,hR⟩;cases hi with
   | left _=>rw[List.zip_nil_left]at hz;cases hz
   | right _=>rw[List.zip_nil_right]at hz;cases hz
   | @cons v w' vs' ws' d' e' ds2 es2 he hlt hi' =>
    rw[A6]at hz;injection hz with hyx hrest;injection hyx with hy hx;subst hy hx;simp only[Zd]at hlen;refine Aa (he prog w _ _ ?_);by_cases hde:d'=e'
    ·subst hde;rw[Ag rfl];rw[bH]at hR
     wp_walk
     exact⟨_,_,_,_,rfl,rfl,hrest,hi',by lia,hR⟩
    ·rw[Ad hde];rw[bj hde]at hR;have hri:=hlt hde prog w
     wp_walk using hri
     exact⟨_,rfl,by simpa using hR⟩
  case fin =>
   rintro⟨b1,b2⟩ s' ⟨vs,ws,ds',es',hb',rfl,hz,hi,hlen,hR⟩;simp only at hb';subst hb';have hv:gq lt ds' es'=decide (items.size<items2.size):=by
    cases hi with
    | left hl2 =>
     cases es' with
     | nil =>
      simp only[Zg]at hlen hl2;exact(Ad (by lia)).symm
     | cons e0 e1 =>
      simp only[Zg,Zd]at hlen hl2;exact(Ag (by lia)).symm
    | right hl2 =>
     cases ds' with
     | nil =>
      simp only[Zg]at hlen hl2;exact(Ad (by lia)).symm
     | cons e0 e1 =>
      simp only[Zg,Zd]at hlen hl2;exact(Ad (by lia)).symm
    | cons _ _ _ =>
     rw[A6]at hz;cases hz
   rw[hv]at hR
   wp_walk
   exact⟨_,rfl,by simpa[Builtin.Tuple.tupleCompareSizes]using hR⟩
  case h =>
   exact⟨items.toList,items2.toList,ds,es,rfl,rfl,rfl,hI,by rw[Qd,Qd,Bo],h⟩
theorem LtAt.tuples {A:Around} {s:Shared} {items items2:Array Value} (hl:s.heap.IsTuple l items) (hb:s.heap.IsTuple b items2) (hu:A.units<cLine) (hI:IL A s lt items.toList items2.toList ds es) :
  LtAt A s (.ref l) (.ref b) (gq lt ds es):=fun prog w E Q h=>by
 obtain⟨⟨cls,dd,data,sl⟩,ho,hc,n,hd⟩:=id hl;obtain⟨⟨cls2,dd2,data2,sl2⟩,ho2,hc2,n2,hd2⟩:=id hb;simp only at hc hd hc2 hd2;subst hc hd hc2 hd2;exact richCompare_meets_room (op:=.Lt) ⟨_,ho,rfl⟩ ⟨_,ho2,rfl⟩ PySem.F.slot_tuple_lt PySem.F.entry_tuple_lt (PySem.F.args_tuple_lt_2 _ _) (m7 l b items items2 n n2 dd dd2 sl sl2 lt ds es)
  ⟨ho,ho2,hI,show Value.bool (gq lt ds es)≠Value.notImplemented/\Q (.bool (gq lt ds es)) s from⟨(fun x=>nomatch x),h⟩⟩ hu
open Classical in
theorem zX (l b:Addr) (items items2:Array Value) (n n2:Nat) (dd dd2:Option Addr) (sl sl2:Array (Option Value)) (lt:D->D->Bool) (k:Nat) :
  ∀(i:Nat) (ds es:List D),items.size-i=k->i<=items.size->i<=items2.size->Meets (Builtin.«list.__eq__.loop» ⟨[.ref l,.ref b,rawInt i,rawInt 0],[]⟩)
   (fun A R s=>s.heap.get? l=some { cls:=.type "list",dict:=dd,data:=.seq items n,slots:=sl }/\s.heap.get? b=some { cls:=.type "list",dict:=dd2,data:=.seq items2 n2,slots:=sl2 } /\
    IL A s lt (items.toList.drop i) (items2.toList.drop i) ds es/\R (.ok (.ret (.bool (gq lt ds es)))) s):=by
 induction k with
 | zero =>
  intro i ds es hk q1 q2 prog w A R s h;obtain⟨hp,g,d,tk,os⟩:=s;obtain⟨hl,hb,hI,h⟩:=h
  wp_walk using Ak hl,Ak hb
  have hi1:items[((i:Nat):Int).toNat]?=none:=by simp;lia
  rw[hi1]
  wp_walk using Ak hl,Ak hb
  show R (.ok (.ret (.bool (decide (items.size<items2.size))))) _;have e1:items.toList.drop i=[]:=by simp;lia
  rw[e1]at hI;have lz:(items2.toList.drop i).length=items2.size-i:=by rw[Zn,Qd]
  generalize items2.toList.drop i=zs at hI lz;have hv:gq lt ds es=decide (items.size<items2.size):=by
   cases hI with
   | left hl2 =>
    cases es with
    | nil =>
     rw[Zg]at hl2;exact(Ad (by lia)).symm
    | cons e0 e1 =>
     rw[Zd]at hl2;exact(Ag (by lia)).symm
   | right hl2 =>
    cases ds with
    | nil =>
     rw[Zg]at lz;exact(Ad (by lia)).symm
    | cons e0 e1=>cases hl2
  rw[← hv];exact h
 | succ k ih =>
  intro i ds es hk q1 q2 prog w A R s h;obtain⟨hp,g,d,tk,os⟩:=s;obtain⟨hl,hb,hI,h⟩:=h
  wp_walk using Ak hl,Ak hb
  have hlt:i<items.size:=by lia
  have hi1:items[((i:Nat):Int).toNat]?=some items[i]:=by simp[hlt]
  have d1:items.toList.drop i=items[i]::items.toList.drop (i+1):=by rw[Vj (by simpa using hlt)];rfl
  rw[d1]at hI;by_cases hlt2:i<items2.size
  ·have hi2:items2[((i:Nat):Int).toNat]?=some items2[i]:=by simp[hlt2]
   have d2:items2.toList.drop i=items2[i]::items2.toList.drop (i+1):=by rw[Vj (by simpa using hlt2)];rfl
   rw[d2]at hI;cases hI with
   | @cons _ _ _ _ d' e' ds' es' he hn hI' =>
    have hc:((i:Int)+1)=((i+1:Nat):Int):=by push_cast;rfl
    rw[hi1,hi2];refine Aa (he prog w _ _ ?_);by_cases hde:d'=e'
    ·subst hde;rw[Ag rfl];rw[bH]at h
     wp_walk
     rw[hc]
     exact⟨plainId_quiet plain_eq_loop _,Bs entry_eq_loop (by
      rw[Around.under_plainId plain_eq_loop _]
      exact ih (i+1) ds' es' (by lia) (by lia) (by lia) prog w A R _ ⟨hl,hb,hI',h⟩)⟩
    ·rw[Ad hde];rw[bj hde]at h;have hri:=hn hde prog w
     wp_walk using Ak hl,Ak hb
     rw[hi1,hi2]
     wp_walk using hri
     exact h
  ·have hi2:items2[((i:Nat):Int).toNat]?=none:=by simp;lia
   rw[hi1,hi2]
   wp_walk using Ak hl,Ak hb
   show R (.ok (.ret (.bool (decide (items.size<items2.size))))) _;have e2:items2.toList.drop i=[]:=by simp;lia
   rw[e2]at hI;cases hI with
   | right hl2 =>
    cases ds with
    | nil=>cases hl2
    | cons e0 e1=>rw[Ad (by lia)];exact h
open Classical in
theorem jA (l b:Addr) (items items2:Array Value) (n n2:Nat) (dd dd2:Option Addr) (sl sl2:Array (Option Value)) (lt:D->D->Bool) (ds es:List D) :
  Meets (Builtin.«list.__lt__» ⟨[.ref l,.ref b],[]⟩)
   (fun A R s=>s.heap.get? l=some { cls:=.type "list",dict:=dd,data:=.seq items n,slots:=sl }/\s.heap.get? b=some { cls:=.type "list",dict:=dd2,data:=.seq items2 n2,slots:=sl2 } /\
    IL A s lt items.toList items2.toList ds es/\R (.ok (.ret (.bool (gq lt ds es)))) s):=by
 intro prog w A R s h;obtain⟨hp,g,d,tk,os⟩:=s;obtain⟨hl,hb,hI,h⟩:=h;have f3:=AutoSeq1.sub_list_list
 wp_walk using Ak hl,Ak hb
 exact⟨plainId_quiet plain_eq_loop _,Bs entry_eq_loop (by
  rw[Around.under_plainId plain_eq_loop _]
  exact zX l b items items2 n n2 dd dd2 sl sl2 lt _ 0 ds es rfl (Wh _) (Wh _) prog w A R _ ⟨hl,hb,hI,h⟩)⟩
theorem LtAt.lists {A:Around} {s:Shared} {items items2:Array Value} (hl:s.heap.IsList l items) (hb:s.heap.IsList b items2) (hu:A.units<cLine) (hI:IL A s lt items.toList items2.toList ds es) :
  LtAt A s (.ref l) (.ref b) (gq lt ds es):=fun prog w E Q h=>by
 obtain⟨⟨cls,dd,data,sl⟩,ho,hc,n,hd⟩:=id hl;obtain⟨⟨cls2,dd2,data2,sl2⟩,ho2,hc2,n2,hd2⟩:=id hb;simp only at hc hd hc2 hd2;subst hc hd hc2 hd2;exact richCompare_meets_room (op:=.Lt) ⟨_,ho,rfl⟩ ⟨_,ho2,rfl⟩ PySem.F.slot_list_lt PySem.F.entry_list_lt (PySem.F.args_list_lt_2 _ _) (jA l b items items2 n n2 dd dd2 sl sl2 lt ds es)
  ⟨ho,ho2,hI,show Value.bool (gq lt ds es)≠Value.notImplemented/\Q (.bool (gq lt ds es)) s from⟨(fun x=>nomatch x),h⟩⟩ hu
theorem tT {A:Around}:∀{vs ws:List Value} {ds es:List D},vs.length=ds.length->ws.length=es.length ->
  (∀(i:Nat) v w d e,vs[i]?=some v->ws[i]?=some w->ds[i]?=some d->es[i]?=some e->(∀b,(b=true↔d=e)->EqAt A.in1 s v w b)/\(d≠e->LtAt A.in1 s v w (lt d e)))->IL A s lt vs ws ds es
 | [],_,[],_,_,h2,_=>.left h2
 | _::_,[],_::_,[],h1,_,_=>.right h1
 | v::vs,w::ws,d::ds,e::es,h1,h2,h=>by
  obtain⟨a1,a2⟩:=h 0 v w d e rfl rfl rfl rfl;exact .cons (a1 _ (by simp)) a2 (tT (by simpa using h1) (by simpa using h2) fun i v' w' d' e' z1 z2 z3 z4=>h (i+1) v' w' d' e' (by simpa using z1) (by simpa using z2) (by simpa using z3) (by simpa using z4))
 | [],_,_::_,_,h1,_,_=>by simp at h1
 | _::_,_,[],_,h1,_,_=>by simp at h1
 | _::_,[],_::_,_::_,_,h2,_=>by simp at h2
 | _::_,_::_,_::_,[],_,h2,_=>by simp at h2
open Classical in
theorem jB {A:Around} {u v:Value} {d e:D} (h:EqAt A s u v (decide (d=e))) (b:Bool) (hb:b=true↔d=e):EqAt A s u v b:=by
 have:b=decide (d=e):=by rw[Zf,hb,decide_eq_true_eq]
 rw[this];exact h
theorem RH.ltAt:∀(n:Nat) {s:Shared} {d1 d2:D} {u1 u2:Value} {A:Around},Pl n d1->Pl n d2->Cp n d1 d2->RH s.heap u1 d1->RH s.heap u2 d2->A.units+n<cLine->LtAt A s u1 u2 (ltN n d1 d2):=by
 intro n;induction n with
 | zero=>intro s d1 d2 u1 u2 A p;cases p
 | succ n ih =>
  intro s d1 d2 u1 u2 A p1 p2 cp r1 r2 hu;cases r1 with
  | non=>exact cp.elim
  | int i t =>
   cases r2 with
   | int j t'=>exact fun prog w E Q h=>HT.rcLt_int A s i t j t' prog w E Q h
   | _=>exact cp.elim
  | str x t =>
   cases r2 with
   | str y t'=>exact fun prog w E Q h=>(PyProof.Rows.lt_str h:wpAny (model prog w) A (compareOp .Lt (.str x t) (.str y t')) Q E s)
   | _=>exact cp.elim
  | @tup a its ds t hl f =>
   cases r2 with
   | @tup b its' ds' t' hl' f' =>
    cases p1 with
    | tup p1 =>
    cases p2 with
    | tup p2 =>
    refine LtAt.tuples t t' (by lia) (tT (by simpa using hl) (by simpa using hl') fun i v w d e z1 z2 z3 z4=>?_)
    have z1':its[i]?=some v:=by simpa using z1
    have z2':its'[i]?=some w:=by simpa using z2
    have m1:=p1 d (Xb z3);have m2:=p2 e (Xb z4);have hu':A.in1.units+n<cLine:=by show A.units+1+n<cLine;lia
    exact⟨jB (RH.eqAt n m1 m2 (f i v d z1' z3) (f' i w e z2' z4) hu').1,fun _=>ih m1 m2 (cp i d e z3 z4) (f i v d z1' z3) (f' i w e z2' z4) hu'⟩
   | _=>exact cp.elim
  | @lst a its ds t hl f =>
   cases r2 with
   | @lst b its' ds' t' hl' f' =>
    cases p1 with
    | lst p1 =>
    cases p2 with
    | lst p2 =>
    refine LtAt.lists t t' (by lia) (tT (by simpa using hl) (by simpa using hl') fun i v w d e z1 z2 z3 z4=>?_)
    have z1':its[i]?=some v:=by simpa using z1
    have z2':its'[i]?=some w:=by simpa using z2
    have m1:=p1 d (Xb z3);have m2:=p2 e (Xb z4);have hu':A.in1.units+n<cLine:=by show A.units+1+n<cLine;lia
    exact⟨jB (RH.eqAt n m1 m2 (f i v d z1' z3) (f' i w e z2' z4) hu').1,fun _=>ih m1 m2 (cp i d e z3 z4) (f i v d z1' z3) (f' i w e z2' z4) hu'⟩
   | _=>exact cp.elim
end VF
namespace VF
open PySem L2 PyProof.Rows PySem.SeqAt
def nU (A:Around) (s:Shared) (fl:Bool) (u v:Value) (c:Bool):Prop:=∀(prog:Program) (w:World) (E:Value->Shared->Prop) (Q:Bool->Shared->Prop),Q c s->wpAny (model prog w) A (oneLt' fl u v) Q E s
open Classical in
inductive IK (A:Around) (s:Shared) (b:Bool) (lt:D->D->Bool):Nat->List Value->List Value->List D->List D->Prop where
 | left {i:Nat} {ws:List Value} {es:List D}:ws.length=es.length->IK A s b lt i [] ws [] es
 | right {i:Nat} {vs:List Value} {ds:List D}:vs.length=ds.length->IK A s b lt i vs [] ds []
 | cons {i:Nat} {v w:Value} {vs ws:List Value} {d e:D} {ds es:List D}:EqAt A s v w (decide (d=e))->(d≠e->nU A s (b&&i == 0) v w (lt d e))->IK A s b lt (i+1) vs ws ds es->IK A s b lt i (v::vs) (w::ws) (d::ds) (e::es)
section
variable {prog:Program} {w:World} {A:Around} {E:Value->Shared->Prop} {s:Shared}
theorem tU (h:LtAt A s u v c):nU A s false u v c:=fun prog w E Q q=>by
 rw[oneLt'_eq];dsimp only;rw[Af Bool.noConfusion];exact Aa (h prog w _ _ (Av q))
theorem tV (fl:Bool):nU A s fl (.int a t) (.int b u) (decide (a<b)):=fun prog w E Q q=>by
 cases fl with
 | true=>exact oneLt_int q
 | false=>exact tU (fun prog w E Q h=>HT.rcLt_int A s a t b u prog w E Q h) prog w E Q q
theorem tW {a b:Str} (fl:Bool):nU A s fl (.str a t) (.str b u) (decide (a.cps.toList<b.cps.toList)):=fun prog w E Q q=>by
 cases fl with
 | true=>exact oneLt_str q
 | false=>exact tU (fun prog w E Q h=>(PyProof.Rows.lt_str h:wpAny (model prog w) A (compareOp .Lt (.str a t) (.str b u)) Q E s)) prog w E Q q
theorem zY {xs ys:List D} (p1:Pl (n+1) (.lst xs)) (p2:Pl (n+1) (.lst ys)) (cp:Cp (n+1) (.lst xs) (.lst ys)) (r1:RH s.heap u1 (.lst xs)) (r2:RH s.heap u2 (.lst ys)) (hu:A.units+(n+1)<cLine) (fl:Bool):nU A s fl u1 u2 (gq (ltN n) xs ys):=fun prog w E Q q=>by
 cases fl with
 | false=>exact tU (RH.ltAt (n+1) p1 p2 cp r1 r2 hu) prog w E Q q
 | true =>
  cases r1 with
  | @lst a its _ t hl f =>
  cases r2 with
  | @lst b its' _ t' hl' f' =>
  cases p1 with
  | lst p1 =>
  cases p2 with
  | lst p2 =>
  have hI:IL A s (ltN n) its its' xs ys:=tT hl hl' fun i v w d e z1 z2 z3 z4=>by
   have m1:=p1 d (Xb z3);have m2:=p2 e (Xb z4);have hu':A.in1.units+n<cLine:=by show A.units+1+n<cLine;lia
   exact⟨jB (RH.eqAt n m1 m2 (f i v d z1 z3) (f' i w e z2 z4) hu').1,fun _=>RH.ltAt n m1 m2 (cp i d e z3 z4) (f i v d z1 z3) (f' i w e z2 z4) hu'⟩
  rw[oneLt'_eq];simp only[if_true];refine Aa (wpAny_cRoomFor (by lia) ?_)
  obtain⟨⟨cls,dd,data,sl⟩,ho,hc,m,hd⟩:=id t;obtain⟨⟨cls2,dd2,data2,sl2⟩,ho2,hc2,m2,hd2⟩:=id t';simp only at hc hd hc2 hd2;subst hc hd hc2 hd2;refine Aa (wpAny_callSpecialIfBound?_slot (T:="list") ⟨_,ho,rfl⟩ PySem.F.slot_list_lt (AM PySem.F.slot_list_lt ⟨_,ho,rfl⟩ PySem.F.entry_list_lt (PySem.F.args_list_lt_2 _ _) (jA a b its.toArray its'.toArray m m2 dd dd2 sl sl2 (ltN n) xs ys) ⟨ho,ho2,by simpa using hI,?_⟩))
  exact Av q
inductive KI (A:Around) (s:Shared) (b:Bool) (lt:D->D->Bool) (n m:Nat) (Q:Bool->Shared->Prop) (rest:List ((Value×Value)×Nat)) (r:Option Bool×Unit) (s':Shared):Prop
 | mk (i:Nat) (vs ws:List Value) (ds' es':List D) (e1:s'=s) (e2:r=(none,())) (hz:rest=(vs.zip ws).zipIdx i) (hi:IK A s b lt i vs ws ds' es') (hlen:vs.length+m=ws.length+n) (hR:Q (gq lt ds' es') s)
open Classical in
theorem zZ {xs ys:Array Value} (hl:s.heap.IsTuple l xs) (hr:s.heap.IsTuple r ys) (hI:IK A s b lt 0 xs.toList ys.toList ds es) (q:Q (gq lt ds es) s) :
  wpAny (model prog w) A (keyLt' (tuples' b) (.ref l) (.ref r)) Q E s:=by
 obtain⟨o1,g1,_,n1,d1⟩:=hl;obtain⟨o2,g2,_,n2,d2⟩:=hr;refine Aa (AD g1 d1 ?_);refine Aa (AD g2 d2 ?_);refine Aa (AL _ (KI A s b lt xs.size ys.size Q) _ ?_ ?_ _ _ ?_)
 ·rintro⟨⟨y,x⟩,j⟩ rest r s' ⟨i,vs,ws,ds',es',rfl,rfl,hz,hi,hlen,hR⟩;cases hi with
  | left _=>rw[List.zip_nil_left]at hz;cases hz
  | right _=>rw[List.zip_nil_right]at hz;cases hz
  | @cons _ v w' vs' ws' d' e' ds2 es2 he hlt hi' =>
   rw[A6,Bj]at hz;injection hz with hyx hrest;injection hyx with hy hj;injection hy with hy hx;subst hy hx hj;simp only[Zd]at hlen;dsimp only;refine Aa (he prog w _ _ ?_);by_cases hde:d'=e'
   ·subst hde;rw[Ag rfl];rw[bH]at hR;exact Ac ⟨_,_,_,_,_,rfl,rfl,hrest,hi',by lia,hR⟩
   ·rw[Ad hde];rw[bj hde]at hR;exact Aa (hlt hde prog w _ _ (Ac (Ac hR)))
 ·rintro r s' ⟨i,vs,ws,ds',es',rfl,rfl,hz,hi,hlen,hR⟩;have hv:gq lt ds' es'=decide (xs.size<ys.size):=by
   cases hi with
   | left hl2 =>
    cases es' with
    | nil =>
     simp only[Zg]at hlen hl2;exact(Ad (by lia)).symm
    | cons e0 e1 =>
     simp only[Zg,Zd]at hlen hl2;exact(Ag (by lia)).symm
   | right hl2 =>
    cases ds' with
    | nil =>
     simp only[Zg]at hlen hl2;exact(Ad (by lia)).symm
    | cons e0 e1 =>
     simp only[Zg,Zd]at hlen hl2;exact(Ad (by lia)).symm
   | cons _ _ _ =>
    rw[A6,Bj]at hz;cases hz
  rw[hv]at hR;exact Ac hR
 ·exact⟨0,xs.toList,ys.toList,ds,es,rfl,rfl,rfl,hI,by rw[Qd,Qd,Bo],q⟩
theorem DL:∀{i:Nat} {vs ws:List Value} {ds es:List D},vs.length=ds.length->ws.length=es.length ->
  (∀(j:Nat) v w d e,vs[j]?=some v->ws[j]?=some w->ds[j]?=some d->es[j]?=some e->(∀c,(c=true↔d=e)->EqAt A s v w c)/\(d≠e->nU A s (b&&(i+j) == 0) v w (lt d e)))->IK A s b lt i vs ws ds es
 | _,[],_,[],_,_,h2,_=>.left h2
 | _,_::_,[],_::_,[],h1,_,_=>.right h1
 | i,v::vs,w::ws,d::ds,e::es,h1,h2,h=>by
  obtain⟨a1,a2⟩:=h 0 v w d e rfl rfl rfl rfl;refine .cons (a1 _ (by simp)) a2 (DL (by simpa using h1) (by simpa using h2) fun j v' w' d' e' z1 z2 z3 z4=>?_)
  have:=h (j+1) v' w' d' e' (by simpa using z1) (by simpa using z2) (by simpa using z3) (by simpa using z4)
  rwa [show i+(j+1)=i+1+j by lia]at this
 | _,[],_,_::_,_,h1,_,_=>by simp at h1
 | _,_::_,_,[],_,h1,_,_=>by simp at h1
 | _,_::_,[],_::_,_::_,_,h2,_=>by simp at h2
 | _,_::_,_::_,_::_,[],_,h2,_=>by simp at h2
def Gn (d:D):Prop:=match d with
 | .tup (.int _::_)=>True
 | _=>False
def Gp (d:D):Prop:=match d with
 | .tup (.str _::_)=>True
 | _=>False
theorem tX (h:Gn d):∃i r,d=.tup (.int i::r):=by
 cases d with
 | tup l =>
  cases l with
  | nil=>exact h.elim
  | cons x r =>
   cases x with
   | int i=>exact⟨_,_,rfl⟩
   | _=>exact h.elim
 | _=>exact h.elim
theorem tY (h:Gp d):∃i r,d=.tup (.str i::r):=by
 cases d with
 | tup l =>
  cases l with
  | nil=>exact h.elim
  | cons x r =>
   cases x with
   | str i=>exact⟨_,_,rfl⟩
   | _=>exact h.elim
 | _=>exact h.elim
theorem xC (p1:Pl (n+1) d1) (p2:Pl (n+1) d2) (cp:Cp (n+1) d1 d2) (r1:RH s.heap u1 d1) (r2:RH s.heap u2 d2) (hu:A.units+(n+1)<cLine)
  (ht:∃xs,d1=.tup xs) (hb:b=true->(Gn d1/\Gn d2)∨(Gp d1/\Gp d2)) (q:Q (ltN (n+1) d1 d2) s):wpAny (model prog w) A (keyLt' (tuples' b) u1 u2) Q E s:=by
 obtain⟨xs,rfl⟩:=ht;cases r1 with
 | @tup a its ds t hl f =>
  cases r2 with
  | @tup a2 its' ds' t' hl' f' =>
   cases p1 with
   | tup p1 =>
   cases p2 with
   | tup p2 =>
   refine zZ (lt:=ltN n) (ds:=xs) (es:=ds') t t' (DL (by simpa using hl) (by simpa using hl') fun j v w' d e z1 z2 z3 z4=>?_) q
   have z1':its[j]?=some v:=by simpa using z1
   have z2':its'[j]?=some w':=by simpa using z2
   have m1:=p1 d (Xb z3);have m2:=p2 e (Xb z4);have k1:=f j v d z1' z3;have k2:=f' j w' e z2' z4;have c1:=cp j d e z3 z4;refine⟨jB (RH.eqAt n m1 m2 k1 k2 (by lia)).1,fun _=>?_⟩
   cases hfl:(b&&(0+j) == 0) with
   | false=>exact tU (RH.ltAt n m1 m2 c1 k1 k2 (by lia))
   | true =>
    rw[Xg]at hfl;have hj:j=0:=by have:=eq_of_beq hfl.2;lia
    subst hj;rcases hb hfl.1 with⟨g1,g2⟩|⟨g1,g2⟩
    ·obtain⟨i,r,e1⟩:=tX g1;obtain⟨i2,r2,e2⟩:=tX g2;cases e1;cases e2;cases z3;cases z4;cases k1;cases k2;cases n with
     | zero=>cases m1
     | succ n=>exact tV true
    ·obtain⟨i,r,e1⟩:=tY g1;obtain⟨i2,r2,e2⟩:=tY g2;cases e1;cases e2;cases z3;cases z4;cases k1;cases k2;cases n with
     | zero=>cases m1
     | succ n=>exact tW true
  | _=>exact cp.elim
end
end VF
namespace VF
open PySem L2 PyProof.Rows
section
variable {M:Model} {prog:Program} {w:World} {A:Around} {E:Value->Shared->Prop} {s:Shared}
theorem tZ:∀(l:List α),(∀v∈l,∀Q:β->Shared->Prop,Q (g v) s->wpAny M A (f v) Q E s)->∀Q:List β->Shared->Prop,Q (l.map g) s->wpAny M A (l.mapM f) Q E s
 | [],_,Q,q=>by rw[List.mapM_nil];exact Ac q
 | v::l,h,Q,q=>by
  rw[List.mapM_cons];exact Aa (h v Wd _ (Aa (tZ l (fun u hu=>h u (Yc _ hu)) _ (Ac q))))
theorem t9 {l:List α} (h:∀v∈l,∀Q:β->Shared->Prop,Q (g v) s->wpAny M A (f v) Q E s) (q:Q (l.map g).toArray s):wpAny M A (l.toArray.mapM f) Q E s:=by
 rw[List.mapM_toArray,map_eq_pure_bind];exact Aa (tZ l h _ (Ac q))
def vi:D->String
 | .int _=>"int"
 | .str _=>"str"
 | .tup _=>"tuple"
 | _=>"list"
theorem RH.ty (r:RH s.heap u d) (h:d≠.non):s.TypeIs u (vi d):=by
 cases r with
 | non=>exact absurd rfl h
 | int i t=>exact typeIs_int s i t
 | str x t=>exact B5 s x t
 | tup t _ _=>obtain⟨o,h1,h2,_⟩:=t;exact⟨o,h1,h2⟩
 | lst t _ _=>obtain⟨o,h1,h2,_⟩:=t;exact⟨o,h1,h2⟩
theorem xD {us:List Value} {ds:List D} (hne:us≠[]) (hl:us.length=ds.length) (r:∀(i:Nat) u d,us[i]?=some u->ds[i]?=some d->RH s.heap u d/\d≠.non/\vi d=T) (q:Q (some (.type T)) s) :
  wpAny M A (oneTypeOnly' us.toArray) Q E s:=by
 rw[oneTypeOnly'_eq];refine Aa (t9 (g:=fun _=>Value.type T) (fun v hv Q q=>?_) ?_)
 ·obtain⟨i,hi,rfl⟩:=Yi.mp hv;obtain⟨r1,r2,r3⟩:=r i us[i] ds[i] (Za hi) (Za (by lia))
  exact AI (r3 ▸ r1.ty r2) q
 ·cases us with
  | nil=>exact absurd rfl hne
  | cons u us =>
   have h0:(List.map (fun _=>Value.type T) (u::us)).toArray[0]?=some (Value.type T):=by simp
   rw[h0];have hall:((List.map (fun _=>Value.type T) (u::us)).toArray.all fun x=>x == Value.type T)=true:=by
    simp only[List.all_toArray,List.all_map,Yn];intro _ _;exact beq_self_eq_true _
   dsimp only;rw[hall,Ae rfl];exact Ac q
theorem xE (r:RH s.heap u d) (h:d≠.non) (ht:vi d≠"tuple") (q:Q none s):wpAny M A (firstOfTuple' u) Q E s:=by
 refine Aa (AI (r.ty h) ?_);rw[Ae (by rw[bne_iff_ne];intro e;injection e with e;exact ht e)]
 exact Ac q
theorem vj {its:List Value} (t:s.heap.IsTuple a its.toArray) (e:its=u::us) (q:Q (some u) s):wpAny M A (firstOfTuple' (.ref a)) Q E s:=by
 obtain⟨o,h1,h2,n,h3⟩:=t;refine Aa (AI (T:="tuple") ⟨o,h1,h2⟩ ?_);rw[Af (by rw[bne_iff_ne];intro z;exact z rfl)]
 refine Aa (AD h1 h3 ?_);subst e;exact Ac q
inductive Kd:List D->SortKind->Prop where
 | sc {ds:List D} {T:String}:T≠"tuple"->(∀d∈ds,d≠.non/\vi d=T)->Kd ds oneType'
 | tp {ds:List D} {T:String} (h:∀d∈ds,∃x xs,d=.tup (x::xs)/\x≠.non/\vi x=T) (hT:T≠"list":=by decide):Kd ds (tuples' (T != "tuple"))
theorem Ir {us:List Value} {ds:List D} (hne:us≠[]) (hl:us.length=ds.length) (r:∀(i:Nat) u d,us[i]?=some u->ds[i]?=some d->RH s.heap u d) (hk:Kd ds κ) (q:Q κ s) :
  wpAny M A (keyKind' us.toArray) Q E s:=by
 rw[keyKind'_eq];cases hk with
 | @sc T hT h =>
  refine Aa (t9 (g:=fun _=>none) (fun v hv Q q=>?_) ?_)
  ·obtain⟨i,hi,rfl⟩:=Yi.mp hv;have hd:=h ds[i] (Yj _);exact xE (r i _ _ (Za hi) (Za (by lia))) hd.1 (by rw[hd.2];exact hT) q
  ·cases us with
   | nil=>exact absurd rfl hne
   | cons u us =>
    rw[Af (by simp),Af (by simp)]
    refine Aa (xD (T:=T) hne hl (fun i u d e1 e2=>⟨r i u d e1 e2,h d (Xb e2)⟩) ?_);exact Ac q
 | @tp T h hT =>
  have hx:∀(i:Nat) (hi:i<us.length),∃u0 x xs,(∀Q:Option Value->Shared->Prop,Q (some u0) s->wpAny M A (firstOfTuple' us[i]) Q E s)/\ds[i]?=some (.tup (x::xs))/\RH s.heap u0 x/\x≠.non/\vi x=T:=fun i hi=>by
   have hd:i<ds.length:=by lia
   obtain⟨x,xs,e,h1,h2⟩:=h ds[i] (Yj _);have rr:=r i us[i] ds[i] (Za hi) (Za hd);rw[e]at rr;generalize us[i]=v at rr;cases rr with
   | @tup a its _ t hl f =>
    cases its with
    | nil=>simp at hl
    | cons u0 ur=>exact⟨u0,x,xs,fun Q q=>vj t rfl q,by rw[Za hd,e],f 0 u0 x rfl rfl,h1,h2⟩
  have hf:∃fs:List Value,fs.length=us.length/\(∀Q:Array (Option Value)->Shared->Prop,Q (fs.map some).toArray s->wpAny M A (us.toArray.mapM firstOfTuple') Q E s)/\∀(i:Nat) u,fs[i]?=some u->∃x,RH s.heap u x/\x≠.non/\vi x=T:=by
   have:∀l:List Value,(∀v∈l,∃u0 x,(∀Q:Option Value->Shared->Prop,Q (some u0) s->wpAny M A (firstOfTuple' v) Q E s)/\RH s.heap u0 x/\x≠.non/\vi x=T) ->
     ∃fs:List Value,fs.length=l.length/\(∀Q:List (Option Value)->Shared->Prop,Q (fs.map some) s->wpAny M A (l.mapM firstOfTuple') Q E s)/\∀(i:Nat) u,fs[i]?=some u->∃x,RH s.heap u x/\x≠.non/\vi x=T:=fun l=>by
    induction l with
    | nil=>exact fun _=>⟨[],rfl,fun Q q=>by rw[List.mapM_nil];exact Ac q,fun i u e=>by simp at e⟩
    | cons v l ih =>
     intro hv;obtain⟨fs,f1,f2,f3⟩:=ih fun u hu=>hv u (Yc _ hu);obtain⟨u0,x,g1,g2⟩:=hv v Wd;refine⟨u0::fs,by simp[f1],fun Q q=>?_,fun i u e=>?_⟩
     ·rw[List.mapM_cons];exact Aa (g1 _ (Aa (f2 _ (Ac q))))
     ·cases i with
      | zero =>
       have:u0=u:=by simpa using e
       subst this;exact⟨x,g2⟩
      | succ i=>exact f3 i u (by simpa using e)
   obtain⟨fs,f1,f2,f3⟩:=this us fun v hv=>by
    obtain⟨i,hi,rfl⟩:=Yi.mp hv;obtain⟨u0,x,xs,a1,_,a2⟩:=hx i hi;exact⟨u0,x,a1,a2⟩
   refine⟨fs,f1,fun Q q=>?_,f3⟩;rw[List.mapM_toArray,map_eq_pure_bind];exact Aa (f2 _ (Ac q))
  obtain⟨fs,f1,f2,f3⟩:=hf;refine Aa (f2 _ ?_);rw[Ae (by simp)]
  refine Aa (AF ?_);have e1:(fs.map some).toArray.filterMap id=fs.toArray:=by simp
  rw[e1];have hne':fs≠[]:=fun z=>by
   rw[z]at f1;exact hne (Ym f1.symm)
  obtain⟨xs,hxs,hxx⟩:∃xs:List D,fs.length=xs.length/\∀(i:Nat) u d,fs[i]?=some u->xs[i]?=some d->RH s.heap u d/\d≠.non/\vi d=T:=by
   have:∀l:List Value,(∀(i:Nat) u,l[i]?=some u->∃x,RH s.heap u x/\x≠.non/\vi x=T)->∃xs:List D,l.length=xs.length/\∀(i:Nat) u d,l[i]?=some u->xs[i]?=some d->RH s.heap u d/\d≠.non/\vi d=T:=fun l=>by
    induction l with
    | nil=>exact fun _=>⟨[],rfl,fun i u d e=>by simp at e⟩
    | cons v l ih =>
     intro hv;obtain⟨xs,x1,x2⟩:=ih fun i u e=>hv (i+1) u (by simpa using e)
     obtain⟨x,hx⟩:=hv 0 v rfl;refine⟨x::xs,by simp[x1],fun i u d e1 e2=>?_⟩
     cases i with
     | zero =>
      have a1:v=u:=by simpa using e1
      have a2:x=d:=by simpa using e2
      subst a1 a2;exact hx
     | succ i=>exact x2 i u d (by simpa using e1) (by simpa using e2)
   exact this fs f3
  refine Aa (xD (T:=T) hne' hxs hxx ?_);have e2:(Option.any (fun x=>x != Value.type "tuple") (some (Value.type T)))=(T != "tuple"):=by
   show(Value.type T != Value.type "tuple")=_;rw[Zf,bne_iff_ne,bne_iff_ne];constructor
   ·exact fun h e=>h (by rw[e])
   ·exact fun h e=>h (by injection e)
  rw[e2];exact Ac q
end
end VF
namespace VF
open PySem L2 PyProof.Rows TS
section
variable {prog:Program} {w:World} {A:Around} {E:Value->Shared->Prop} {s:Shared}
theorem RH.kept {h h':Heap} (k:∀b o,h.get? b=some o->h'.get? b=some o) (r:RH h u d):RH h' u d:=by
 induction r with
 | non=>exact .non
 | int i t=>exact .int i t
 | str x t=>exact .str x t
 | tup t hl _ ih=>obtain⟨o,h1,h2⟩:=t;exact .tup ⟨o,k _ o h1,h2⟩ hl ih
 | lst t hl _ ih=>obtain⟨o,h1,h2⟩:=t;exact .lst ⟨o,k _ o h1,h2⟩ hl ih
def dk (ds:List D) (g:Nat):D:=ds.getD g (ds.headD .non)
theorem nV (h:ds[g]?=some d):dk ds g=d:=by
 unfold dk;rw[Yd,h];rfl
theorem f7 (h:ds≠[]) (g:Nat):dk ds g∈ds:=by
 cases e:ds[g]? with
 | some d=>rw[nV e];exact Xb e
 | none =>
  cases ds with
  | nil=>exact absurd rfl h
  | cons x xs =>
   unfold dk;rw[Yd,e];simp
noncomputable def cD (ds:List D) (g h:Nat):Bool:=ltN 40 (dk ds g) (dk ds h)
theorem xF (h:Cp n d e) (ht:vi d≠"tuple"):(∃i j,d=.int i/\e=.int j)∨(∃x y,d=.str x/\e=.str y)∨∃x y,d=.lst x/\e=.lst y:=by
 cases n with
 | zero=>exact h.elim
 | succ n =>
  cases d with
  | int i =>
   cases e with
   | int j=>exact .inl ⟨i,j,rfl,rfl⟩
   | _=>exact h.elim
  | str x =>
   cases e with
   | str y=>exact .inr (.inl ⟨x,y,rfl,rfl⟩)
   | _=>exact h.elim
  | tup xs=>exact absurd rfl ht
  | lst xs =>
   cases e with
   | lst ys=>exact .inr (.inr ⟨xs,ys,rfl,rfl⟩)
   | _=>exact h.elim
  | _=>exact h.elim
theorem z0 {us vs:List Value} {ds:List D} (hl:us.length=ds.length) (r:∀(i:Nat) u d,us[i]?=some u->ds[i]?=some d->RH s.heap u d) (pl:∀d∈ds,Pl 40 d) (ca:CA 40 ds) (hk:Kd ds κ) (hu:A.units+40<cLine) :
  Cm prog w A s κ (fun g=>(us.getD g .none,vs.getD g .none)) us.length (cD ds):=by
 refine⟨fun E Q g h hg hh q=>?_,fun g=>lF _ _,fun g h i h1 h2=>?_,fun g h i h1=>?_⟩
 ·have eg:us[g]?=some us[g]:=Za hg;have eh:us[h]?=some us[h]:=Za hh;have dg:ds[g]?=some ds[g]:=Za (by lia)
  have dh:ds[h]?=some ds[h]:=Za (by lia)
  have q':Q (ltN 40 ds[g] ds[h]) s:=by unfold cD at q;rw[nV dg,nV dh]at q;exact q
  have rg:=r g _ _ eg dg;have rh:=r h _ _ eh dh;have mg:=Xb dg;have mh:=Xb dh;have cp:=ca _ mg _ mh;show wpAny (model prog w) A (keyLt' κ (us.getD g .none) (us.getD h .none)) Q E s;rw[Yd,Yd,eg,eh];show wpAny (model prog w) A (keyLt' κ us[g] us[h]) Q E s;generalize us[g]=ug at rg;generalize us[h]=uh at rh;generalize ds[g]=a at *;generalize ds[h]=b at *;cases hk with
  | @sc T hT hd =>
   rw[keyLt'_oneType];rcases xF cp (by rw[(hd a mg).2];exact hT) with⟨i,j,rfl,rfl⟩|⟨x,y,rfl,rfl⟩|⟨x,y,rfl,rfl⟩
   ·cases rg;cases rh;exact tV true prog w E Q q'
   ·cases rg;cases rh;exact tW true prog w E Q q'
   ·exact zY (n:=39) (pl _ mg) (pl _ mh) cp rg rh (by lia) true prog w E Q q'
  | @tp T hd hL =>
   obtain⟨x,xs,rfl,nx,tx⟩:=hd a mg;obtain⟨y,ys,rfl,ny,ty⟩:=hd b mh;refine xC (n:=39) (pl _ mg) (pl _ mh) cp rg rh (by lia) ⟨_,rfl⟩ (fun hb=>?_) q'
   have hT:T≠"tuple":=by rwa [bne_iff_ne]at hb
   rcases xF (cp 0 x y rfl rfl) (by rw[tx];exact hT) with⟨i,j,rfl,rfl⟩|⟨x,y,rfl,rfl⟩|⟨x,y,rfl,rfl⟩
   ·exact .inl ⟨trivial,trivial⟩
   ·exact .inr ⟨trivial,trivial⟩
   ·exact absurd tx.symm hL
 ·by_cases hne:ds=[]
  ·subst hne;have:cD [] g h=false:=lF 40 .non;rw[this]at h1;cases h1
  ·exact(mq 40).tra (ca _ (f7 hne g) _ (f7 hne h)) (ca _ (f7 hne h) _ (f7 hne i)) (ca _ (f7 hne g) _ (f7 hne i)) h1 h2
 ·by_cases hne:ds=[]
  ·subst hne;have:cD [] g i=false:=lF 40 .non;rw[this]at h1;cases h1
  ·exact ca.neg (f7 hne g) (f7 hne h) (f7 hne i) h1
def bN (vs:List Value) (γ:Array Nat):Array Value:=γ.map fun g=>vs.getD g .none
theorem nW {vs : List Value} {ds : List D} (ho : s.heap.get? a = some (seqObj "list" vs.toArray n)) (hz : vs.length ≤ sizeLine)
    (hl : vs.length = ds.length) (r : ∀ (i : Nat) u d, vs[i]? = some u → ds[i]? = some d → RH (((s.heap.update a (Obj.mapSeq fun _ => #[])).push (seqObj "tuple" vs.toArray 0)).push (seqObj "list" #[] 0)) u d)
    (pl : ∀ d ∈ ds, Pl 40 d) (ca : CA 40 ds) (hk : Kd ds κ) (hu : A.units + 40 < cLine) (h64 : vs.length < 64)
    (fin : ∀ γ : Array Nat, γ.Perm (Array.range vs.length) → Sg (cD ds) γ 0 vs.length → P (.done (.ret .none)) { s with heap := sortedHeap s.heap a vs (bN vs γ) }) :
    wpAny (model prog w) A (Builtin.«list.sort» ⟨[.ref a], []⟩) P E s := by
  rw [list_sort_plain];have small := Ai ho;refine Aa (AD ho rfl (Aa (Be ho rfl ?_)));obtain ⟨ep, hE⟩ : ∃ ep, (s.heap.update a (Obj.mapSeq fun _ => #[])).get? a = some (seqObj "list" #[] ep) := ⟨_, get?_update_seq ho (fun _ => #[])⟩;refine Aa (seqEpoch_at hE rfl (Aa (wpAny_newTuple (Aa (BF (Au ?_))))));have hE2 : (((s.heap.update a (Obj.mapSeq fun _ => #[])).push (seqObj "tuple" vs.toArray 0)).push (seqObj "list" #[] 0)).get? a = some (seqObj "list" #[] ep) :=
    Ab _ (Ab _ hE)
  generalize hH : ((s.heap.update a (Obj.mapSeq fun _ => #[])).push (seqObj "tuple" vs.toArray 0)).push (seqObj "list" #[] 0) = h6 at r hE2;show wpAny (model prog w) A _ P E { s with heap := h6 };dsimp only;have hsz : vs.toArray.size = vs.length := by simp
  have zs : ∀ γ : Array Nat, γ.Perm (Array.range vs.length) → (bN vs γ).size ≤ sizeLine + 1 := fun γ p => by
    unfold bN;rw [Array.size_map, p.size_eq, AO]; lia
  have done : ∀ γ : Array Nat, γ.Perm (Array.range vs.length) → Sg (cD ds) γ 0 vs.length → P (.done (.ret .none)) { s with heap := h6.update a (Obj.mapSeq fun _ => bN vs γ) } := fun γ p g => by
    have := fin γ p g;unfold sortedHeap at this;rw [← hH]; exact this
  have e0 : vs.toArray.zip vs.toArray = (Array.range vs.length).map fun g => (vs.getD g .none, vs.getD g .none) := by
    apply Array.ext_getElem?
    intro i;rw [Array.getElem?_map, Array.getElem?_range];by_cases hi : i < vs.length
    · rw [Ae hi]; simp [hi]
    · rw [Af hi]; simp [hi]
  by_cases gn : vs.toArray.size < 2
  · rw [Ae gn, Ae gn]
    refine Aa (Ac ?_);rw [StateT.run_pure];refine Aa (Ac ?_);dsimp only;have em : (vs.toArray.zip vs.toArray).map (fun x => x.2) = bN vs (Array.range vs.length) := by
      rw [e0, Array.map_map]; rfl
    refine Aa (seqEpoch_at hE2 rfl (Aa (Be hE2 rfl ?_ (hsz2 := ?_))))
    · simp only [bne_self_eq_false, BL, if_false]
      refine Ac ?_;rw [em];exact done _ (Array.Perm.refl _) fun i j g h z1 z2 z3 => by lia
    · rw [em]; exact zs _ (Array.Perm.refl _)
  · rw [Af gn, Af gn]
    have hne : vs ≠ [] := fun z => gn (by rw [z]; decide)
    refine Aa (Ir (s := { s with heap := h6 }) hne hl r hk ?_);have C : Cm prog w A { s with heap := h6 } κ (fun g => (vs.getD g .none, vs.getD g .none)) vs.length (cD ds) := z0 (s := { s with heap := h6 }) hl r pl ca hk hu
    refine Aa (Az (zV h64 (st := SortSt.mk' κ (vs.toArray.zip vs.toArray) #[] 7 none) C (γ := Array.range vs.length) ⟨e0, rfl, rfl, Array.Perm.refl _⟩ rfl (fun i _ z => by rw [Array.getElem?_range, Ae z])
      (Q := fun _ st' => ∃ γ, Rp κ (fun g => (vs.getD g .none, vs.getD g .none)) vs.length st' γ ∧ Sg (cD ds) γ 0 vs.length) fun st' γ' R g => ⟨γ', R, g⟩) ?_ fun _ _ e => e)
    rintro ⟨⟨⟩, st'⟩ s' ⟨rfl, γ, R, g⟩;dsimp only;have em : (arrOf st').map (fun x => x.2) = bN vs γ := by
      rw [R.arr, Array.map_map]; rfl
    refine Aa (seqEpoch_at hE2 rfl (Aa (Be hE2 rfl ?_ (hsz2 := ?_))))
    · rw [show failedOf st' = none from R.fine]
      simp only [bne_self_eq_false, BL, if_false];refine Ac ?_;show P (.done (.ret .none)) { s with heap := h6.update a (Obj.mapSeq fun _ => (arrOf st').map (fun x => x.2)) };rw [em];exact done γ R.perm g
    · show ((arrOf st').map (fun x => x.2)).size ≤ sizeLine + 1
      rw [em]; exact zs γ R.perm
end
end VF
namespace VF
open PySem L2 PyProof.Rows TS
section
variable {prog:Program} {w:World} {A:Around} {E:Value->Shared->Prop} {s:Shared}
theorem qA {l:Addr} {vs:List Value} {Q:List Value->Shared->Prop} (hl:s.heap.IsList l vs.toArray∨s.heap.IsTuple l vs.toArray) (hz:vs.length<=sizeLine)
  (q:Q vs { s with heap:=(s.heap.push (seqObj "list" #[] 0)).update s.heap.objs.size (Obj.mapSeq (·++vs.toArray)) }):wpAny (model prog w) A (collect (.ref l)) Q E s:=by
 rcases hl with hl|hl
 ·exact collect_list hl q hz
 obtain⟨o,ho,hc,m,hd⟩:=id hl;have kept:=Ab (seqObj "list" #[] 0) ho;have new:(s.heap.push (seqObj "list" #[] 0)).get? s.heap.objs.size=some (seqObj "list" #[] 0):=Ah _ rfl;unfold collect;refine Aa (wpAny_runValue (Bs entry_proto_collect' ?_));refine Aa (BF (Ac ⟨Code.quiet_builtin _ (by decide +kernel),Bs entry_list_iadd' ?_⟩))
 show wpAny _ _ (Builtin.List.listExtendWith (.ref s.heap.objs.size) (.ref l) (.ref s.heap.objs.size)) _ _ { s with heap:=s.heap.push (seqObj "list" #[] 0) };unfold Builtin.List.listExtendWith;refine Aa (AI (T:="tuple") ⟨o,kept,hc⟩ ?_);rw[Ae (by rw[show(Value.type "tuple" == Value.type "tuple")=true from rfl,Bool.or_true])]
 refine Aa (AD kept hd (Aa (AD new rfl ?_)));rw[Af (by simp)]
 have room:((#[]:Array Value)++vs.toArray).size<=sizeLine+1:=by
  rw[Array.size_append,Yb];simp;lia
 refine Aa (Be new rfl ?_ (Wh _) room);refine Ac ?_;have at':=get?_update_seq new (fun x=>x++vs.toArray);refine Aa (wpAny_load at' ?_);show wpAny _ _ (pure ((#[]:Array Value)++vs.toArray).toList) Q E _;have e:((#[]:Array Value)++vs.toArray).toList=vs:=by simp
 rw[e];exact Ac q
theorem qB {l:Addr} {vs:List Value} {ds:List D} {κ:SortKind} {Q:Value->Shared->Prop} (hl:s.heap.IsList l vs.toArray∨s.heap.IsTuple l vs.toArray) (hz:vs.length<=sizeLine)
  (hn:vs.length=ds.length) (r:∀(i:Nat) u d,vs[i]?=some u->ds[i]?=some d->RH s.heap u d) (pl:∀d∈ds,Pl 40 d) (ca:CA 40 ds) (hk:Kd ds κ) (hu:A.units+64<cLine) (h64:vs.length<64)
  (fin:∀γ:Array Nat,γ.Perm (Array.range vs.length)->Sg (cD ds) γ 0 vs.length->Q (.ref (s.heap.objs.size+1)) { s with heap:=sortedAll s.heap vs (bN vs γ) }) :
  wpAny (model prog w) A (call (.builtin "sorted") [.ref l]) Q E s:=by
 refine Cd kind_sorted plain_sorted entry_sorted (args_sorted1 _) ?_;refine Aa (m:=checkCount "sorted" 1 1 _) (Ac (Aa (qA hl hz (Aa (BF ?_)))));generalize hg:(s.heap.push (seqObj "list" #[] 0)).update s.heap.objs.size (Obj.mapSeq (·++vs.toArray))=h1;have z1:h1.objs.size=s.heap.objs.size+1:=by rw[← hg,Heap.size_update,size_push']
 have old:∀b o,s.heap.get? b=some o->h1.get? b=some o:=fun b o e=>by
  rw[← hg];exact(BD _ _ _ _ (Xf (Ai e))).trans (Ab _ e)
 have mine:(h1.push (seqObj "list" vs.toArray 0)).get? (s.heap.objs.size+1)=some (seqObj "list" vs.toArray 0):=by rw[← z1];exact Ah _ rfl
 show wpAny _ _ _ _ _ { s with heap:=h1.push (seqObj "list" vs.toArray 0) };rw[z1];refine Aa (Au (Am slot_list_sort ⟨_,mine,rfl⟩ entry_list_sort ?_ (args_list_sort _)));refine nW (s:={ s with heap:=h1.push (seqObj "list" vs.toArray 0) }) mine hz hn (fun i u d e1 e2=>(r i u d e1 e2).kept fun b o e=>?_) pl ca hk (by show A.units+1+1+40<cLine;lia) h64 fun γ p g=>?_
 ·have hb:=Ai e;refine Ab _ (Ab _ ?_);have hne:b≠s.heap.objs.size+1:=Xf (Bd hb);exact(BD _ _ _ _ hne).trans (Ab _ (old b o e))
 ·refine⟨_,rfl,Ac ⟨_,rfl,?_⟩⟩;have:=fin γ p g;unfold sortedAll at this;rw[hg]at this;exact this
end
theorem xG {ds:List D} {γ:Array Nat} (ca:CA 40 ds) (p:γ.Perm (Array.range ds.length)) (g:Sg (cD ds) γ 0 ds.length):(γ.toList.map (dk ds))=bR 40 ds:=by
 have hsz:γ.size=ds.length:=by rw[p.size_eq,AO]
 refine cq ca ?_ ?_
 ·have p1:(γ.toList.map (dk ds)).Perm ((List.range ds.length).map (dk ds)):=by
   have:=Array.perm_iff_toList_perm.mp p;rw[BM]at this;exact this.map _
  have e:(List.range ds.length).map (dk ds)=ds:=by
   refine Bl (by simp) fun i h1 h2=>?_
   rw[List.getElem_map,List.getElem_range,nV (Za h2)]
  rwa [e]at p1
 ·unfold zW;rw[Qf,List.pairwise_iff_getElem];intro i j hi hj hij;rw[Qd]at hi hj;have b:=g i j γ.toList[i] γ.toList[j] (Wh _) hij (by lia) (by rw[← Zi];exact Za _) (by rw[← Zi];exact Za _)
  rcases b with b|b
  ·exact lG _ _ _ b
  ·exact b.1
section
variable {X:Cx} {K:PySem.W.Frag} {Y:AS} {H:Hp}
def xH (K:PySem.W.Frag):List V->Hp->VK->Prop:=fun xs H Q=>∃(Y:AS) (v:V) (d:D) (ds:List D) (κ:SortKind),xs=[v]/\BA K Y H v d/\d.seq=some ds/\(∀x∈ds,Pl 40 x)/\CA 40 ds/\Kd ds κ/\ds.length<64 /\
 ∀(p:Addr) (vs:List V),H p=none->El K Y H vs (bR 40 ds)->Q (.ref p) (upd H p (.lst vs))
theorem cQ {n:Nat} (h:X.K=K) (hr:Room n X.A):CallR X (.builtin "sorted") (xH K):=by
 intro pins s σ H xs us Q I rv hh;obtain⟨Y,v,d,ds,κ,rfl,ba,hs,pl,ca,hk,h64,q⟩:=hh;obtain⟨u,rfl,ru⟩:=vals1 rv;obtain⟨a,vs,rfl,sq,el⟩:=kh ba hs;cases ru;have main:∀its:List Value,Vals vs its->(s.heap.IsList a its.toArray∨s.heap.IsTuple a its.toArray)->vs.length<=sizeLine->wpAny (model X.prog X.w) X.A (call (.builtin "sorted") [.ref a]) (EP X pins σ Q) X.xe s:=fun its r t hz=>by
  have hn:its.length=ds.length:=r.length.symm.trans el.1;have rr:∀(i:Nat) u d,its[i]?=some u->ds[i]?=some d->RH s.heap u d:=fun i u d e1 e2=>by
   obtain⟨v,e3,rv⟩:=eC r i u e1;exact(el.2 i v d e3 e2).rh (pl d (Xb e2)) I h rv
  have hz':its.length<=sizeLine:=by rw[← r.length];exact hz
  refine qB t hz' hn rr pl ca hk hr.units (by lia) fun γ p g=>?_
  rw[hn]at p g;obtain⟨e,he⟩:=sortedAll_at s.heap its (bN its γ);have hγ:∀g∈γ.toList,g<ds.length:=fun g hg=>by
   have:=(Array.perm_iff_toList_perm.mp p).mem_iff.mp hg;rw[BM]at this;exact Qb.mp this
  have eo:=xG ca p g
  let ws:List V:=γ.toList.map fun g=>vs.getD g .non
  have vw:Vals ws (bN its γ).toList:=by
   have e2:(bN its γ).toList=γ.toList.map fun g=>its.getD g .none:=by unfold bN;simp
   rw[e2];have:∀l:List Nat,(∀g∈l,g<ds.length)->Vals (l.map fun g=>vs.getD g .non) (l.map fun g=>its.getD g .none):=fun l=>by
    induction l with
    | nil=>exact fun _=>.nil
    | cons g l ih =>
     intro hl;have hg:g<ds.length:=hl g Wd;have a1:its[g]?=some its[g]:=Za (by lia)
     obtain⟨v,e3,rv⟩:=eC r g _ a1;refine .cons ?_ (ih fun x hx=>hl x (Yc _ hx));show RelV (vs.getD g .non) (its.getD g .none);rw[Yd,Yd,e3,a1];exact rv
   exact this _ hγ
  have elw:El K Y H ws (bR 40 ds):=by
   rw[← eo];refine⟨by simp[ws],fun i v d h1 h2=>?_⟩
   rw[Wb]at h1 h2;obtain⟨g1,k1,k2⟩:=Xc.mp h1;obtain⟨g2,k3,k4⟩:=Xc.mp h2;rw[k1]at k3;cases k3;have hg:g1<ds.length:=hγ g1 (Xb k1);have d1:ds[g1]?=some ds[g1]:=Za hg;obtain⟨v',e3,da⟩:=el.at d1;rw[nV d1]at k4;rw[Yd,e3]at k2;subst k4;have:v'=v:=k2;subst this;exact da
  have hlw:ws.length=ds.length:=by
   show(γ.toList.map _).length=_;rw[Ya,Qd,p.size_eq,AO]
  refine⟨.ref (s.heap.objs.size+1),upd H (s.heap.objs.size+1) (.lst ws),I.laid (t':=s.toks) (fun b o z=>sortedAll_old z) (Nat.le_succ _) ⟨by lia,(bN its γ).toList,e,vw,by simpa using he⟩,rfl,q _ ws (I.hok.fresh (Nat.le_succ _)) elw⟩
 rcases sq with sq|sq
 ·obtain⟨its,r,t,hz⟩:=I.list (h ▸ sq);exact main its r (.inl t.isList) hz
 ·obtain⟨its,r,t,hz⟩:=I.tuple (h ▸ sq);exact main its r (.inr t) hz
open Classical in
noncomputable def b7:List D->Option Rz
 | [d]=>match d.seq with
  | some ds=>if (∀x∈ds,Pl 40 x)/\CA 40 ds/\(∃κ,Kd ds κ)/\ds.length<64 then some (.lst (bR 40 ds),true) else none
  | none=>none
 | _=>none
theorem fB:RdCB K (xH K) b7:=by
 intro Y H xs ds z Q lv bs e q;cases bs with
 | nil=>cases e
 | @cons v vs d ds b1 bs =>
  cases bs with
  | cons _ _=>cases e
  | nil =>
   unfold b7 at e;dsimp only at e;split at e
   ·rename_i xs hs
    obtain⟨c,e⟩:=aC e;cases e;obtain⟨c1,c2,⟨κ,c3⟩,c4⟩:=c;exact⟨Y,v,d,xs,κ,rfl,b1,hs,c1,c2,c3,c4,fun p ws hp el=>q _ _ (aG hp _) (fU el hp)⟩
   ·cases e
end
end VF
namespace VF22
open PySem PySem.Spec PyProof.Rows L2 VF
def vk:D->Option Key
 | .int i=>some (.inl i)
 | .str x=>some (.inr x)
 | _=>none
def jC:List D->Option (List Key)
 | []=>some []
 | d::r=>(vk d).bind fun k=>(jC r).bind fun ks=>some (k::ks)
section
variable {κ:Type} [DecidableEq κ]
def bS (kvs:List (κ×D)) (k:κ):Option D:=(kvs.find? fun kv=>decide (kv.1=k)).map (·.2)
def kZ (kvs:List (κ×D)) (k:κ) (d:D):List (κ×D):=if (kvs.any fun kv=>decide (kv.1=k))=true then kvs.map (fun kv=>if kv.1=k then(kv.1,d) else kv) else kvs++[(k,d)]
def Go (R:V->D->Prop) (kvs:List (κ×V)) (ds:List (κ×D)):Prop:=kvs.map (·.1)=ds.map (·.1)/\∀(i:Nat) v d,kvs[i]?=some v->ds[i]?=some d->R v.2 d.2
theorem Go.nil:Go R ([]:List (κ×V)) []:=⟨rfl,fun i v d h _=>by simp at h⟩
theorem Go.cons (h1:p.1=q.1) (h2:R p.2 q.2) (t:Go R kvs ds):Go R (p::kvs) (q::ds):=by grind [Go]
theorem Go.un (h:Go R (p::kvs) (q::ds)):p.1=q.1/\R p.2 q.2/\Go R kvs ds:=by
 obtain⟨h1,h2⟩:=h;rw[Vd,Vd]at h1;injection h1 with a b;exact⟨a,h2 0 p q rfl rfl,b,fun i v d x y=>h2 (i+1) v d x y⟩
theorem Go.look:∀{kvs:List (κ×V)} {ds:List (κ×D)} (k:κ),Go R kvs ds->(gy kvs k=none/\bS ds k=none)∨∃v d,gy kvs k=some v/\bS ds k=some d/\R v d
 | [],[],_,_=>.inl ⟨rfl,rfl⟩
 | [],_::_,_,h=>by have:=h.1;simp at this
 | _::_,[],_,h=>by have:=h.1;simp at this
 | p::ps,q::qs,k,h=>by
  obtain⟨h1,h2,h3⟩:=h.un;by_cases e:p.1=k
  ·refine .inr ⟨p.2,q.2,gz e,?_,h2⟩;simp[bS,Xh,h1.symm.trans e]
  ·have e':¬ q.1=k:=fun z=>e (h1.trans z);rw[gA e,show bS (q::qs) k=bS qs k by simp[bS,Xh,e']]
   exact h3.look k
theorem Go.any {kvs:List (κ×V)} {ds:List (κ×D)} (h:Go R kvs ds) (k:κ):(kvs.any fun kv=>decide (kv.1=k))=ds.any fun kv=>decide (kv.1=k):=by
 have a:∀l:List (κ×V),(l.any fun kv=>decide (kv.1=k))=(l.map (·.1)).any fun x=>decide (x=k):=fun l=>by rw[List.any_map];rfl
 rw[a,h.1,List.any_map];rfl
theorem Go.repl (k:κ) (r:R y d):∀{kvs:List (κ×V)} {ds:List (κ×D)},Go R kvs ds->Go R (kvs.map fun kv=>if kv.1=k then(kv.1,y) else kv) (ds.map fun kv=>if kv.1=k then(kv.1,d) else kv)
 | [],[],_=>Go.nil
 | [],_::_,h=>by have:=h.1;simp at this
 | _::_,[],h=>by have:=h.1;simp at this
 | p::ps,q::qs,h=>by
  obtain⟨h1,h2,h3⟩:=h.un;rw[Vd,Vd];by_cases e:p.1=k
  ·rw[Ae e,Ae (h1.symm.trans e)];exact Go.cons h1 r (h3.repl k r)
  ·rw[Af e,Af fun z=>e (h1.trans z)];exact Go.cons h1 h2 (h3.repl k r)
theorem Go.snoc (k:κ) (r:R y d):∀{kvs:List (κ×V)} {ds:List (κ×D)},Go R kvs ds->Go R (kvs++[(k,y)]) (ds++[(k,d)])
 | [],[],_=>Go.cons rfl r Go.nil
 | [],_::_,h=>by have:=h.1;simp at this
 | _::_,[],h=>by have:=h.1;simp at this
 | p::ps,q::qs,h=>by
  obtain⟨h1,h2,h3⟩:=h.un;exact Go.cons h1 h2 (h3.snoc k r)
theorem Go.put (k:κ) (h:Go R kvs ds) (r:R y d):Go R (putK kvs k y) (kZ ds k d):=by
 unfold putK kZ;rw[h.any k];split
 ·exact h.repl k r
 ·exact h.snoc k r
theorem Go.len {kvs:List (κ×V)} {ds:List (κ×D)} (h:Go R kvs ds):kvs.length=ds.length:=by
 have:=congrArg List.length h.1;rwa [Ya,Ya]at this
theorem Go.map (h:Go R kvs ds) (f:∀v d,R v d->S v d):Go S kvs ds:=⟨h.1,fun i v d a b=>f _ _ (h.2 i v d a b)⟩
end
section
variable {K:PySem.W.Frag} {Y:AS} {H:Hp}
theorem Is (h:DA K Y H v d) (e:vk d=some k):v=kV k:=by
 cases d with
 | int i=>cases e;cases h;rfl
 | str x=>cases e;cases h;rfl
 | _=>cases e
theorem DM (h:BA K Y H v d) (e:vk d=some k):v=kV k:=by
 cases d with
 | int i=>cases e;exact h
 | str x=>cases e;exact h
 | _=>cases e
theorem o3:∀{ds:List D} {vs:List V} {ks:List Key},El K Y H vs ds->jC ds=some ks->vs=ks.map kV
 | [],vs,ks,h,e=>by
  cases e;obtain rfl:=h.unnil;rfl
 | d::r,vs,ks,h,e=>by
  refine bp e fun k e1 e=>?_;refine bp e fun ks' e2 e=>?_;cases e;obtain⟨v,vr,rfl,da,el⟩:=h.uncons;rw[Is da e1,o3 el e2];rfl
def qC:List D->Option (List (List Key))
 | []=>some []
 | .tup es::r=>(jC es).bind fun k=>(qC r).bind fun ks=>some (k::ks)
 | _=>none
def dX (ds:List D):Option aN:=match jC ds with
 | some ks=>some (.inl ks)
 | none=>(qC ds).bind fun ks=>if ks=[] then none else some (.inr ks)
theorem xI:∀{ds:List D} {vs:List V} {ks:List (List Key)},El K Y H vs ds->qC ds=some ks->∃bs:List Addr,vs=bs.map V.ref/\Paired (fun b k=>H b=some (.tup (List.map kV k))) bs ks/\∀b∈bs,¬ Y b/\H b≠none
 | [],vs,ks,h,e=>by
  cases e;obtain rfl:=h.unnil;exact⟨[],rfl,.nil,fun b z=>(by cases z)⟩
 | d::r,vs,ks,h,e=>by
  cases d with
  | tup es =>
   refine bp e fun k e1 e=>?_;refine bp e fun ks' e2 e=>?_;cases e;obtain⟨v,vr,rfl,da,el⟩:=h.uncons;obtain⟨bs,rfl,p,q⟩:=xI el e2;cases da with
   | @tup a us _ t l f =>
    have:=o3 (⟨l,f⟩:El K Y H us es) e1;subst this;refine⟨a::bs,rfl,.cons t.1 p,fun b hb=>?_⟩;rcases Xd.mp hb with rfl|hb
    ·exact⟨t.2,by rw[t.1];simp⟩
    ·exact q b hb
  | _=>cases e
theorem se {b:Addr} {ds:List D} {vs:List V} {k:aN} (t:H b=some (.tup vs)) (h:El K Y H vs ds) (e:dX ds=some k):TupK H b k/\∀c,V.ref c∈vs->¬ Y c/\H c≠none:=by
 unfold dX at e;split at e
 ·next ks e1 =>
  cases e;have:=o3 h e1;subst this;refine⟨t,fun c hc=>?_⟩;obtain⟨k,_,e⟩:=Wa.mp hc;cases k<;>cases e
 ·refine bp e fun ks e1 e=>?_;by_cases c:ks=[]
  ·rw[Ae c]at e;cases e
  ·rw[Af c]at e;cases e;obtain⟨bs,rfl,p,q⟩:=xI h e1;refine⟨⟨c,bs,t,p⟩,fun c hc=>?_⟩;obtain⟨b,hb,e⟩:=Wa.mp hc;cases e;exact q c hb
def JD:D->D->Option (Option D)
 | .dt kvs,.tup ds=>(dX ds).bind fun ks=>some (bS kvs ks)
 | .dk kvs,d=>(vk d).bind fun k=>some (bS kvs k)
 | _,_=>none
theorem Iu (b1:BA K Y H x d1) (b2:BA K Y H y d2) (e:JD d1 d2=some o):∃(a:Addr) (r:Option V),x=.ref a/\DGet H a y r/\((r=none/\o=none)∨∃v d,r=some v/\o=some d/\DA K Y H v d):=by
 cases d1 with
 | dt kvs =>
  cases d2 with
  | tup ds =>
   refine bp e fun ks e1 e=>?_;cases e;obtain⟨a,ep,kv,rfl,_,h1,h2,h3⟩:=b1;obtain⟨b,vs,rfl,t,el⟩:=b2;exact⟨a,_,rfl,DGet.t h1 (se t.1 el e1).1,Go.look ks ⟨h2,h3⟩⟩
  | _=>cases e
 | dk kvs =>
  refine bp e fun k e1 e=>?_;cases e;obtain⟨a,kv,rfl,h1,h2,h3⟩:=b1;have:=DM b2 e1;subst this;exact⟨a,_,rfl,DGet.k h1,Go.look k ⟨h2,h3⟩⟩
 | _=>cases e
def Ka:R2:=fun x y H Q=>∃a v,x=.ref a/\DGet H a y (some v)/\Q v H
def gr:D->D->Option Rz:=fun d1 d2=>(JD d1 d2).bind fun o=>o.bind fun d=>some (d,false)
theorem jE:RdOp K Ka gr:=by
 intro Y H x y d1 d2 z Q lv b1 b2 e q;refine bp e fun o e1 e=>?_;obtain⟨d,rfl,e⟩:=Wk.mp e;cases e;obtain⟨a,r,rfl,g,h|⟨v,d',rfl,h2,da⟩⟩:=Iu b1 b2 e1
 ·cases h.2
 ·cases h2;exact⟨a,v,rfl,g,q v H (Same.refl H) da⟩
def Iv (neg:Bool):R2:=fun y x H Q=>∃(a:Addr) (o:Option V),x=.ref a/\DGet H a y o/\Q (.bl (if neg then !o.isSome else o.isSome)) H
def z9 (neg:Bool):D->D->Option Rz:=fun d2 d1=>(JD d1 d2).bind fun o=>some (.bl (if neg then !o.isSome else o.isSome),false)
theorem xJ (neg:Bool):RdOp K (Iv neg) (z9 neg):=by
 intro Y H y x d2 d1 z Q lv b2 b1 e q;refine bp e fun o e1 e=>?_;cases e;obtain⟨a,r,rfl,g,h⟩:=Iu b1 b2 e1;refine⟨a,r,rfl,g,?_⟩;have:r.isSome=o.isSome:=by
  rcases h with⟨rfl,rfl⟩|⟨v,d,rfl,rfl,_⟩<;>rfl
 rw[this];exact q _ H (Same.refl H) (.bl _)
def DN:vV:=fun x k v H Q=>∃a,x=.ref a/\HA H a k v Q
def fD:D->D->D->Option D
 | .dt kvs,.tup ds,v=>(dX ds).bind fun ks=>if kvs.length<100000 then some (.dt (kZ kvs ks v)) else none
 | .dk kvs,d,v=>(vk d).bind fun k=>if kvs.length<100000 then some (.dk (kZ kvs k v)) else none
 | _,_,_=>none
theorem cR:wC K DN fD:=by
 intro Y H p x k v dk dv x' Q hp ho bk da e q;have lim:(100000:Nat)<=sizeLine:=by rw[Bb];decide
 cases x with
 | dt kvs =>
  cases dk with
  | tup ds =>
   refine bp e fun ks e1 e=>?_;by_cases c:kvs.length<100000
   ·rw[Ae c]at e;cases e;obtain⟨ep,kv,ka,h1,h2,h3⟩:=ho;obtain⟨b,vs,rfl,t,el⟩:=bk;obtain⟨tk,tc⟩:=se t.1 el e1;have g:Go (DA K Y H) kv kvs:=⟨h2,h3⟩;refine⟨p,rfl,.inr ⟨ep,kv,ks,b,h1,rfl,tk,by have:=g.len;lia,fun n=>q _ ?_⟩⟩
    have g':=(g.put ks da).map (S:=DA K Y (upd H p (.dT (n,uS ep.2 kv ks b) (putK kv ks v)))) fun v d h=>h.upd hp;refine⟨(n,uS ep.2 kv ks b),_,KA.go (Y:=Y) (H:=H) (fun c hc=>?_) (fun c o e n=>by rw[aB fun z=>n (by rw[z];exact hp)];exact e) (fun c z=>.inl z),aD,g'.1,g'.2⟩
    unfold uS at hc;split at hc
    ·exact ka c hc
    ·rcases Vf.mp hc with hc|hc
     ·exact ka c hc
     ·rw[Ye.mp hc];refine⟨⟨t.2,by rw[t.1];simp⟩,fun xs e2 c2 hc2=>?_⟩
      rw[t.1]at e2;cases e2;exact tc c2 hc2
   ·rw[Af c]at e;cases e
  | _=>cases e
 | dk kvs =>
  refine bp e fun kk e1 e=>?_;by_cases c:kvs.length<100000
  ·rw[Ae c]at e;cases e;obtain⟨kv,h1,h2,h3⟩:=ho;have:=DM bk e1;subst this;have g:Go (DA K Y H) kv kvs:=⟨h2,h3⟩;refine⟨p,rfl,.inl ⟨kv,kk,h1,rfl,by have:=g.len;lia,q _ ?_⟩⟩
   have g':=(g.put kk da).map (S:=DA K Y (upd H p (.dK (putK kv kk v)))) fun v d h=>h.upd hp;exact⟨_,aD,g'.1,g'.2⟩
  ·rw[Af c]at e;cases e
 | _=>cases e
def nX (d:D):FE:=fun st=>some (.f d,st)
theorem gM:cM K wc (nX (.dt [])):=by
 intro st σ H O Z Q E r st' h q;cases h;intro p hp;have hres:RES K (U O Z) H (upd H p (.dT (0,[]) [])) (.ref p) (.dt [],true):=⟨p,rfl,hp,(0,[]),[],(fun _ z=>nomatch z),aD,rfl,fun i v d a _=>by simp at a⟩
 obtain⟨E3,rv⟩:=hres.rv E (aG hp _);exact q _ _ O (Same.ext (aG hp _)) (Kp.refl _) E3 rv fun p' e=>by cases e;exact hp
end
section
variable {X:Cx}
theorem gO (hu:X.A.units+2<cLine) (ho:PE X o td) (hi:PE X i ty) (hs:ze i):PE X (.Subscript o i pos) (ED Ka td ty):=zf hu ho hi hs
theorem nY (hu:X.A.units+2<cLine):OpR X (compareOp .NotIn) (Iv true):=by
 intro pins s σ H y x v u Q I ry rx h;obtain⟨a,o,rfl,g,q⟩:=h;cases rx;exact zd hu I g ry fun s' I'=>⟨.bl (!o.isSome),H,I',rfl,q⟩
theorem cS (hu:X.A.units+2<cLine):Ey X DN:=by
 intro pins s σ H o i v ov iv u Q I ro ri rv h;obtain⟨a,rfl,g⟩:=h;cases ro;exact uU hu I g ri rv fun s' H' I' q=>⟨H',I',q⟩
end
end VF22
namespace VF22
open PySem PySem.Spec PyProof.Rows L2 VF
section
variable {prog:Program} {w:World} {A:Around} {E:Value->Shared->Prop} {s:Shared}
def RawD (h:Heap) (d:Addr) (es:Array DictEntry) (ep:Nat):Prop:=∃o,h.get? d=some o/\o.ExactDict/\o.data=.dict es ep
theorem RawD.at {h h':Heap} (x:RawD h d es ep) (e:∀o,h.get? d=some o->h'.get? d=some o):RawD h' d es ep:=let ⟨o,ho,r⟩:=x;⟨o,e _ ho,r⟩
theorem RawD.typeIs (x:RawD s.heap d es ep):s.TypeIs (.ref d) "dict":=let ⟨o,ho,c,_⟩:=x;⟨o,ho,c.1⟩
theorem qD {es:Array DictEntry} (hd:(d == sysModules)=false) (hm:RawD s.heap d es ep)
  (q:Q (.ref s.heap.objs.size) { s with heap:=s.heap.push { cls:=.type "dict_keyiterator",data:=.fields #[.ref d,.int 0 0,.int es.size 0,.int ep 0] } }) :
  wpAny (model prog w) A (pyIter (.ref d)) Q E s:=by
 have ty:=hm.typeIs;obtain⟨o,ho,hc,dat⟩:=hm;refine wpAny_pyIter_slot ty F.slot_dict_iter (Am F.slot_dict_iter ty F.entry_dict_iter ?_ (F.args_dict_iter_1 _));unfold Builtin.«dict.__iter__»;refine Aa ?_;unfold Builtin.Dict.dictSlotNone;refine Aa (wpAny_notOrdered_dict ty ?_);show wpAny _ _ (pure (Value.ref d)) _ _ s;refine Ac ?_;show wpAny _ _ (Builtin.Dict.showsAll d >>= _) _ _ s;unfold Builtin.Dict.showsAll;rw[Af (by rw[hd];exact Qc)]
 refine Aa (Ac (Aa (BO ho dat (Aa (BY ho dat ?_)))));refine Aa (As (Ac ⟨_,rfl,"dict_keyiterator",_,⟨_,Ah _ rfl,rfl⟩,F.slot_dict_keyiterator_next.lookup,?_⟩));simpa[rawInt]using q
theorem qE {es:Array DictEntry} {x:DictEntry} (hit:s.heap.IsKeyIter it d i es.size ep) (hm:RawD s.heap d es ep) (hx:es[i]?=some x)
  (q:∀h',h'.IsKeyIter it d (i+1) es.size ep->Heap.SameBut it s.heap h'->Q (some x.key) { s with heap:=h' }):wpAny (model prog w) A (pyNext (.ref it)) Q E s:=by
 obtain⟨o,ho,hc,hd⟩:=id hit;obtain⟨od,hod,hcd,hdd⟩:=hm;unfold pyNext;refine Aa (AQ (An (name:=Str.ofString "__next__") hit.typeIs F.slot_dict_keyiterator_next (Am F.slot_dict_keyiterator_next hit.typeIs F.entry_dict_keyiterator_next ?_ (F.args_dict_keyiterator_next_1 _))));refine Aa (Ac (Aa (Aa ?_)));refine Aa (AA hit.typeIs (Ac (Aa (wpAny_fieldsOf ho hd ?_))));have own:Builtin.Dict_items.ownsTuple "dict_keyiterator"=false:=by decide
 simp only[own,We,if_false];show wpAny _ _ (if (Value.ref d == Value.none)=true then _ else _) _ _ s;rw[Af (show ¬ ((Value.ref d == Value.none)=true) from Qc)];refine Aa (Ac (Aa (BO hod hdd ?_)));rw[Af (by simp)];refine Aa (Ac (Aa (BY hod hdd ?_)))
 rw[Af (by simp)];refine Ac ?_
 have hlt:i<es.size:=(Array.getElem?_eq_some_iff.mp hx).1;have ex:es[i]=x:=(Array.getElem?_eq_some_iff.mp hx).2;simp only[show ¬ ((i:Int)<0) from by lia,if_false,Xl,hx]
 refine Aa (Aa (AA hit.typeIs (Ac (Aa (wpAny_isOneOf_keyiter hit.typeIs ?_)))));show wpAny _ _ (setField (.ref it) 1 (rawInt ((i:Int)+1)) >>= _) _ _ s;refine Aa (Bw ho hd (by simp) ?_)
 have hit':(s.heap.update it (Obj.mapFields (·.setIfInBounds 1 (rawInt ((i:Int)+1))))).IsKeyIter it d (i+1) es.size ep:=⟨_,Bt _ ho (Obj.isFreed_of_fields (A4 hd _)),(Obj.cls_mapFields ..).trans hc,by rw[A4 hd];simp[rawInt]⟩
 refine Aa (Au (Aa (wpAny_isOneOf_keyiter (s:={ s with heap:=s.heap.update it (Obj.mapFields (·.setIfInBounds 1 (rawInt ((i:Int)+1)))) }) hit'.typeIs ?_)));show wpAny _ _ (pure x.key) _ _ _;exact Ac (Ac ⟨_,rfl,Ac (q _ hit' (AX ..))⟩)
theorem ua {es:Array DictEntry} (hh:A.handled=none) (hit:s.heap.IsKeyIter it d i es.size ep) (hm:RawD s.heap d es ep) (hx:es.size<=i)
  (q:∀h',Heap.ExtBut it s.heap h'->Q none { s with heap:=h' }):wpAny (model prog w) A (pyNext (.ref it)) Q E s:=by
 obtain⟨o,ho,hc,hd⟩:=id hit;obtain⟨od,hod,hcd,hdd⟩:=hm;unfold pyNext;refine Aa (AQ (An (name:=Str.ofString "__next__") hit.typeIs F.slot_dict_keyiterator_next (Am F.slot_dict_keyiterator_next hit.typeIs F.entry_dict_keyiterator_next ?_ (F.args_dict_keyiterator_next_1 _))));refine Aa (Ac (Aa (Aa ?_)));refine Aa (AA hit.typeIs (Ac (Aa (wpAny_fieldsOf ho hd ?_))));have own:Builtin.Dict_items.ownsTuple "dict_keyiterator"=false:=by decide
 simp only[own,We,if_false];show wpAny _ _ (if (Value.ref d == Value.none)=true then _ else _) _ _ s;rw[Af (show ¬ ((Value.ref d == Value.none)=true) from Qc)];refine Aa (Ac (Aa (BO hod hdd ?_)));rw[Af (by simp)];refine Aa (Ac (Aa (BY hod hdd ?_)))
 rw[Af (by simp)];refine Ac ?_
 simp only[show ¬ ((i:Int)<0) from by lia,if_false,Xl,Array.getElem?_eq_none hx]
 refine Aa (Aa (AA hit.typeIs (Ac ?_)));show wpAny _ _ (setField (.ref it) 0 .none >>= _) _ _ s;refine Aa (Bw ho hd (by simp) ?_)
 show wpAny _ _ (newExc (.type "StopIteration") [] >>= _) _ _ _;refine Aa ?_;simp only[newExc,newTuple];refine Aa (As ?_ (by size_fits))
 refine Aa (m:=firstArgMember _ _) (wpAny_of_eq (a:=Value.none) (by first|rfl|(simp only[firstArgMember];rfl)) (As ?_ (by size_fits)))
 simp only[raiseNew];refine Aa (wpAny_handled ?_);rw[show A.in1.handled=none from hh];refine Aa (Ac (wpAny_throw ?_));refine Aa (AK (T:="StopIteration") (b:=true) ⟨_,Ah _ rfl,rfl⟩ B6 (Ac (q _ ?_)));exact((AX ..).extBut.push _).push _
theorem vm (hh:A.handled=none) (I d:Addr) (hne:d≠I) (es:Array DictEntry) (ep:Nat) :
  Walks prog w A I [I,d] [I] es.size (fun i v=>(es[i]?).map (·.key)=some v) (fun i h=>h.IsKeyIter I d i es.size ep/\RawD h d es ep) where
 sub:=fun b hb=>by simp at hb;simp[hb]
 frame:=fun _ _ _ st hk=>⟨st.1.at fun o e=>hk I (by simp) o e,st.2.at fun o e=>hk d (by simp) o e⟩
 item:=fun i s Q E hi st hQ=>by
  have hx:es[i]?=some es[i]:=Qj hi;refine qE st.1 st.2 hx fun h' hit' hs'=>hQ _ h' s.toks (by rw[hx];rfl) ⟨hit',st.2.at fun o e=>hs'.extBut d o hne e⟩ fun b o hb e=>hs'.extBut b o (fun z=>hb (by simp[z])) e
 done:=fun s Q E st hQ=>ua hh st.1 st.2 (Xa _) fun h' he'=>hQ h' s.toks fun b o hb e=>he' b o (fun z=>hb (by simp[z])) e
 self:=fun _ _ _ _ st hQ=>wpAny_pyIter_keyiter st.1 hQ
end
end VF22
namespace VF22
open PySem PySem.Spec PyProof.Rows L2 VF
def Kb (a:Addr) (ep:Nat×List Addr) (kvs:List (aN×V)):It :=
 ⟨fun i H=>H a=some (.dT ep kvs)/\i<kvs.length,fun i H x H'=>H'=H/\∃k v b,kvs[i]?=some (k,v)/\x=.ref b/\ep.2[i]?=some b/\TupK H b k,fun i H=>H a=some (.dT ep kvs)/\kvs.length<=i⟩
section
variable {P:Program} {w:World} {H:Hp} {h:Heap} {a:Addr} {ep:Nat×List Addr} {kvs:List (aN×V)}
theorem o4 (ok:HOk P w H h) (e:H a=some (.dT ep kvs)):kvs.length<=sizeLine/\(a == sysModules)=false/\∃(xs:List (aN×Addr×Value)) (es:Array DictEntry),KT H kvs xs/\xs.map (·.2.1)=ep.2/\es.toList=xs.map (entryOfKey (iy P w))/\RawD h a es ep.1/\es.size=kvs.length:=by
 obtain⟨z,y,xs,r,ra,o,es,h1,h2,h3,h4,h5⟩:=(show ObjOk P w H h a (.dT ep kvs) from ok a _ e);refine⟨z,y,xs,es,r,ra,h4,⟨o,h1,h2,h3⟩,?_⟩;have:=congrArg List.length h4;rw[Ya,Qd]at this;rw[this,← Paired.length r]
theorem xK {xs:List (aN×Addr×Value)} {es:Array DictEntry} (r:KT H kvs xs) (ra:xs.map (·.2.1)=ep.2) (he:es.toList=xs.map (entryOfKey (iy P w))) {i:Nat} {x:DictEntry} (hx:es[i]?=some x) :
  ∃k v b,kvs[i]?=some (k,v)/\ep.2[i]?=some b/\x.key=.ref b/\TupK H b k:=by
 rw[← Zi,he,Wb]at hx;obtain⟨q,e1,e2⟩:=Xc.mp hx;have hb:ep.2[i]?=some q.2.1:=by rw[← ra,Wb,e1];rfl
 have hl:=Paired.length r;have hi:i<kvs.length:=by rw[hl];exact(Vb.mp e1).1
 have go:∀{l:List (aN×V)} {m:List (aN×Addr×Value)},KT H l m->∀{j:Nat} {p:aN×V} {q:aN×Addr×Value},l[j]?=some p->m[j]?=some q->TupK H q.2.1 p.1:=fun {l m} t=>by
  induction t with
  | nil=>intro j p q h1;simp at h1
  | cons hq t ih =>
   intro j p q h1 h2;cases j with
   | zero =>
    cases h1;cases h2;exact hq.2.1
   | succ j=>exact ih (by simpa using h1) (by simpa using h2)
 have ek:kvs[i]?=some (kvs[i].1,kvs[i].2):=Za hi;refine⟨kvs[i].1,kvs[i].2,q.2.1,ek,hb,by rw[← e2];rfl,go r ek e1⟩
end
section
variable {X:Cx} {K:PySem.W.Frag} {O O' Z:AS} {H H':Hp} {tg:Expr}
theorem vn (a it:Addr) (ep:Nat×List Addr) (kvs:List (aN×V)):Turn P w K tg (Kb a ep kvs) [it] it (fun i h=>h.IsKeyIter it a i kvs.length ep.1) where
 mem:=by simp
 obj:=fun i h st b hb=>by
  have e:b=it:=by simpa using hb
  subst e;obtain⟨o,e,c,d⟩:=st;exact⟨o,e,fun v z=>by rw[d]at z;cases z⟩
 keep:=fun i h h' st k=>st.at fun o e=>k it (by simp) o e
 item:=by
  intro X hP hw hK hc i pins s σ H E I hf st hg;subst hP hw hK;obtain⟨ha,hi⟩:=hg;obtain⟨_,_,xs,es,r,ra,he,rw',hz⟩:=o4 I.hok ha;obtain⟨f0,f1,f2,f3,f4,f5⟩:=hf it (by simp)
  have hx:es[i]?=some (es[i]'(by lia)):=Qj (by lia)
  obtain⟨k,v,b,g1,g2,g3,g4⟩:=xK r ra he hx;refine qE (by rw[hz];exact st) rw' hx fun h' st' sb=>?_
  rw[hz]at st';have I1:L2.Inv X pins σ H { s with heap:=h' }:=I.turned (t':=s.toks) (fun b o hb e=>(sb.2 b hb).trans e) f0 f1 f3 f4 f5;obtain⟨o,e,c,d⟩:=id st';exact⟨_,rfl,lP (s:={ s with heap:=h' }) e c d (by decide) ⟨.ref b,H,I1,g3,⟨rfl,k,v,b,g1,rfl,g2,g4⟩,st',fun b hb=>(hf b hb).1⟩⟩
 done:=by
  intro X hP hw hK hc i pins s σ H E I hf st hg;subst hP hw hK;obtain⟨ha,hi⟩:=hg;obtain⟨_,_,xs,es,r,ra,he,rw',hz⟩:=o4 I.hok ha;obtain⟨f0,f1,f2,f3,f4,f5⟩:=hf it (by simp)
  exact ua (I.ok.hd hc) (by rw[hz];exact st) rw' (by lia) fun h' eb=>⟨rfl,I.turned (t':=s.toks) (fun b o hb e=>eb b o hb e) f0 f1 f3 f4 f5⟩
 self:=fun _ _ _ _ _ st h=>wpAny_pyIter_keyiter st h
def Iw (tl:TE):TI:=fun σ H R=>tl σ H fun x H1=>∃a ep kvs,x=.ref a/\H1 a=some (.dT ep kvs)/\R (Kb a ep kvs) H1
theorem ub (hl:PE X l tl):PI X tg l (Iw tl):=by
 intro pins s σ H R I h;refine bM (hl pins s σ H _ I h) fun v s1 zz9=>?_;obtain⟨x,H1,I1,r1,q1⟩:=zz9;obtain⟨a,ep,kvs,rfl,ha,q⟩:=q1;cases r1;obtain⟨_,hd,xs,es,r,ra,he,rw',hz⟩:=o4 I1.hok ha;refine qD hd rw' ?_;rw[hz];refine⟨s1.heap.objs.size,[s1.heap.objs.size],_,_,H1,rfl,I1.kept (t':=s1.toks) fun b o e=>Ab _ e,vn a _ ep kvs,⟨_,Ah _ rfl,rfl,rfl⟩,fun b hb=>?_,q⟩;have e:b=s1.heap.objs.size:=by simpa using hb
 subst e;exact I1.fpOk (Xa _) (I1.hok.fresh (Xa _))
def o5:Key->D
 | .inl i=>.int i
 | .inr x=>.str x
theorem Gq (k:Key):DA K Y H (kV k) (o5 k):=by
 cases k with
 | inl i=>exact .int i
 | inr x=>exact .str x
theorem o6:∀ks:List Key,El K Y H (ks.map kV) (ks.map o5)
 | []=>El.nil
 | k::r=>El.cons (Gq k) (o6 r)
def fE:aN->D
 | .inl ks=>.tup (ks.map o5)
 | .inr kss=>.tup (kss.map fun ks=>.tup (ks.map o5))
theorem nZ {k:List Key} (h:H b=some (.tup (k.map kV))) (n:¬ Y b):DA K Y H (.ref b) (.tup (k.map o5)):=.tup ⟨h,n⟩ (o6 (K:=K) (H:=H) (Y:=Y) k).1 (o6 k).2
theorem mr {k:aN} (h:TupK H b k) (n:¬ Y b) (m:∀xs,H b=some (.tup xs)->∀c,V.ref c∈xs->¬ Y c):DA K Y H (.ref b) (fE k):=by
 cases k with
 | inl k=>exact nZ h n
 | inr k =>
  obtain⟨hk,bs,e,r⟩:=h;have mm:=m _ e;clear hk;have el:El K Y H (bs.map V.ref) (k.map fun ks=>.tup (ks.map o5)):=by
   clear e m;induction r with
   | nil=>exact El.nil
   | cons z _ ih=>exact El.cons (nZ z (mm _ (Wd ..))) (ih fun c hc=>mm c (Yc _ hc))
  exact .tup ⟨e,n⟩ el.1 el.2
def ip:D->Option (List D)
 | .dt kvs=>some (kvs.map fun kv=>fE kv.1)
 | _=>none
def Ix (fe:FE):FI:=fun st=>(fe st).bind fun x=>(esc x.1 x.2).bind fun y=>(ip y.1).bind fun ds=>some (ds,y.2)
theorem uc (h:cM K te fe):RdI K (Iw te) (Ix fe):=by
 intro st σ H O Z R E items st' e q;refine bT e fun r st1 e1 e=>?_;refine bT e fun d st2 e2 e=>?_;refine bp e fun ds e3 e=>?_;cases e;refine h st σ H O Z _ E r st1 e1 fun v H1 O1 x1 k1 E1 rv w1=>?_;obtain⟨O2,x2,k2,E2,da⟩:=rv.esc E1 e2;cases d with
 | dt ds' =>
  cases e3;cases da with
  | @dt a ep kvs _ h0 ka h1 h2 h3 =>
   have hl:kvs.length=ds'.length:=by have:=congrArg List.length h2;rwa [Ya,Ya]at this
   refine⟨a,ep,kvs,rfl,h1,q _ H1 O2 (x1.trans x2) (k1.trans k2) E2 fun H' O' ex _=>?_⟩;have g1:H' a=some (.dT ep kvs):=ex.kp a _ h1 fun z=>h0 (.inl z);refine⟨fun i hi=>⟨g1,by rw[Ya]at hi;lia⟩,fun i d hd=>?_⟩
   rw[Wb]at hd;obtain⟨kd,f1,f2⟩:=Xc.mp hd;have hi:i<kvs.length:=by rw[hl];exact(Vb.mp f1).1
   refine⟨⟨g1,hi⟩,fun x H'' hx=>?_⟩;obtain⟨rfl,k,v,b,f3,rfl,f5,f4⟩:=hx;have ek:k=kd.1:=by
    have:=congrArg (fun l=>l[i]?) h2;simp only[Wb,f1,f3,Option.map_some]at this;exact Option.some.inj this
   subst ek f2;obtain⟨⟨n1,n2⟩,n3⟩:=ka b (Xb f5);have off:∀b,¬ U O2 Z b->H1 b≠none->¬ U O' Z b:=fun b n1 n2 z=>by
    rcases z with z|z
    ·rcases ex.nw b z with y|y
     ·exact n1 (.inl y)
     ·exact n2 y
    ·exact n1 (.inr z)
   refine⟨Same.refl _,mr f4 (off b n1 n2) fun xs e c hc=>?_⟩;have e':H1 b=some (.tup xs):=by
    cases eb:H1 b with
    | none=>exact absurd eb n2
    | some o =>
     have:=ex.kp b o eb fun z=>n1 (.inl z);rw[this]at e;exact e
   obtain⟨g1,g2⟩:=n3 xs e' c hc;exact off c g1 g2
 | _=>cases e3
end
end VF22
namespace VF22
open PySem PySem.Spec PyProof.Rows L2 VF TS
section
variable {prog:Program} {w:World} {A:Around} {E:Value->Shared->Prop} {s:Shared}
theorem RawD.lt {h:Heap} (x:RawD h d es ep):d<h.objs.size:=let ⟨_,ho,_⟩:=x;Ai ho
theorem Cs {es:Array DictEntry} (lo:(d == sysModules)=false):PySem.W.KdlSrc prog w "dict" d d es.size (fun i v=>(es[i]?).map (·.key)=some v) (fun h=>RawD h d es ep) where
 type:=fun _ m=>m.typeIs
 there:=fun _ m=>⟨m.lt,m.lt⟩
 keep:=fun _ _ m k=>m.at fun o e=>k d (.inl rfl) o e
 notList:=by decide
 notTuple:=by decide
 hint:=fun _ _ _ _ m q=>PySem.W.kdl_hint_dict m.typeIs q
 iter:=fun _ _ hh m=>⟨_,_,(fun _ _ q=>qD lo m q),vm hh _ d (Xf m.lt) es ep,⟨⟨_,Ah _ rfl,rfl,rfl⟩,m.at fun o e=>Ab _ e⟩⟩
theorem qF {es:Array DictEntry} (hh:A.handled=none) (lo:(d == sysModules)=false) (hm:RawD s.heap d es ep) (hz:es.size<=sizeLine)
  (q:∀h' tk,(∀b o,s.heap.get? b=some o->h'.get? b=some o)->Q (es.toList.map (·.key)) { s with heap:=h',toks:=tk }):wpAny (model prog w) A (collect (.ref d)) Q E s:=by
 refine PySem.W.kdu_collect (Cs lo) hh hm hz fun h' tk acc' kp hi=>?_;have e:acc'.toList=es.toList.map (·.key):=by
  refine Bl (by rw[Qd,hi.1,Ya,Qd]) fun i h1 h2=>?_
  have a:(es[i]?).map (·.key)=some acc'[i]:=hi.2 i acc'[i] (Qj (by simpa using h1))
  rw[Qj (by rw[Ya,Qd]at h2;exact h2)]at a
  have a':=Option.some.inj a;rw[Array.getElem_toList,List.getElem_map,Array.getElem_toList];exact a'.symm
 rw[e];exact q h' tk kp
theorem vo {vs:List Value} {ds:List D} (hh:A.handled=none)
  (coll:∀(A:Around) (E:Value->Shared->Prop) (Q:List Value->Shared->Prop),A.handled=none->(∀h' tk,(∀b o,s.heap.get? b=some o->h'.get? b=some o)->Q vs { s with heap:=h',toks:=tk })->wpAny (model prog w) A (collect x) Q E s) (hz:vs.length<=sizeLine)
  (hn:vs.length=ds.length) (r:∀(i:Nat) u d,vs[i]?=some u->ds[i]?=some d->RH s.heap u d) (pl:∀d∈ds,Pl 40 d) (ca:CA 40 ds) (hk:Kd ds κ) (hu:A.units+64<cLine) (h64:vs.length<64)
  (fin:∀(γ:Array Nat) (h':Heap) (a:Addr) (n tk:Nat),γ.Perm (Array.range vs.length)->Sg (cD ds) γ 0 vs.length->(∀b o,s.heap.get? b=some o->h'.get? b=some o)->(∀b o,s.heap.get? b=some o->b≠a)->h'.get? a=some (seqObj "list" (bN vs γ) n)->Q (.ref a) { s with heap:=h',toks:=tk }) :
  wpAny (model prog w) A (call (.builtin "sorted") [x]) Q E s:=by
 refine Cd kind_sorted plain_sorted entry_sorted (args_sorted1 _) ?_;refine Aa (m:=checkCount "sorted" 1 1 _) (Ac (Aa (coll _ _ _ hh fun h1 tk kp=>Aa (BF ?_))));have mine:(h1.push (seqObj "list" vs.toArray 0)).get? h1.objs.size=some (seqObj "list" vs.toArray 0):=Ah _ rfl;show wpAny _ _ _ _ _ { s with heap:=h1.push (seqObj "list" vs.toArray 0),toks:=tk };refine Aa (Au (Am slot_list_sort ⟨_,mine,rfl⟩ entry_list_sort ?_ (args_list_sort _)));have old2:∀b o,s.heap.get? b=some o->b≠h1.objs.size:=fun b o e=>Xf (Ai (kp b o e));refine nW (s:={ s with heap:=h1.push (seqObj "list" vs.toArray 0),toks:=tk }) mine hz hn (fun i u d e1 e2=>(r i u d e1 e2).kept fun b o e=>?_) pl ca hk (by show A.units+1+1+40<cLine;lia) h64 fun γ p g=>?_
 ·exact Ab _ (Ab _ ((BD _ _ _ _ (old2 b o e)).trans (Ab _ (kp b o e))))
 ·obtain⟨n,hn'⟩:=sortedHeap_at (n:=0) (vs:=vs) (out:=bN vs γ) mine;refine⟨_,rfl,Ac ⟨_,rfl,fin γ _ _ n tk p g (fun b o e=>?_) old2 hn'⟩⟩;have hb:b<(h1.push (seqObj "list" vs.toArray 0)).objs.size:=by rw[size_push'];exact Bd (Ai (kp b o e))
  rw[sortedHeap_old (old2 b o e) hb];exact Ab _ (kp b o e)
end
section
variable {X:Cx} {K:PySem.W.Frag} {Y:AS} {H:Hp}
def xL:List V->Hp->VK->Prop:=fun xs H Q=>∃(a:Addr) (ep:Nat×List Addr) (kvs:List (aN×V)) (κ:SortKind),xs=[.ref a]/\H a=some (.dT ep kvs)/\(∀x∈kvs.map (fun kv=>fE kv.1),Pl 40 x)/\CA 40 (kvs.map fun kv=>fE kv.1)/\Kd (kvs.map fun kv=>fE kv.1) κ/\(kvs.map fun kv=>fE kv.1).length<64 /\
 ∀(p:Addr) (bs:List Addr),H p=none->(∀b∈bs,b∈ep.2)->(∃ks:List aN,ks.map (fun k=>fE k)=bR 40 (kvs.map fun kv=>fE kv.1)/\bs.length=ks.length/\∀(i:Nat) b k,bs[i]?=some b->ks[i]?=some k->TupK H b k)->Q (.ref p) (upd H p (.lst (bs.map V.ref)))
theorem mt (h:X.K=K) (hc:X.calm=true) (hr:Room n X.A):CallR X (.builtin "sorted") xL:=by
 intro pins s σ H xs us Q I rv hh;obtain⟨a,ep,kvs,κ,rfl,ha,pl,ca,hk,h64,q⟩:=hh;obtain⟨u,rfl,ru⟩:=vals1 rv;cases ru;obtain⟨hz,lo,xs,es,rk,ra,he,rw',esz⟩:=o4 I.hok ha;have key:∀(i:Nat) (x:DictEntry),es[i]?=some x->∃k v b,kvs[i]?=some (k,v)/\ep.2[i]?=some b/\x.key=.ref b/\TupK H b k:=fun i x hx=>xK rk ra he hx;have ln:(es.toList.map (·.key)).length=(kvs.map fun kv=>fE kv.1).length:=by rw[Ya,Ya,Qd,esz]
 have at_:∀(i:Nat) u,(es.toList.map (·.key))[i]?=some u->∃k v b,kvs[i]?=some (k,v)/\ep.2[i]?=some b/\u=.ref b/\TupK H b k:=fun i u e=>by
  rw[Wb]at e;obtain⟨x,e1,e2⟩:=Xc.mp e;obtain⟨k,v,b,g1,g2,g3,g4⟩:=key i x (by rw[← Zi];exact e1)
  exact⟨k,v,b,g1,g2,by rw[← e2];exact g3,g4⟩
 refine bw (vo (vs:=es.toList.map (·.key)) (ds:=kvs.map fun kv=>fE kv.1) (κ:=κ) (I.ok.hd hc) (fun A E Q hA q=>qF hA lo rw' (by rw[esz];exact hz) q) (by rw[Ya,Qd,esz];exact hz) ln (fun i u d e1 e2=>?_) pl ca hk hr.units (ln ▸ h64) fun γ h' p n tk pm g kp ge hat hle=>?_)
 ·obtain⟨k,v,b,g1,g2,rfl,g4⟩:=at_ i u e1;have e2':=e2;rw[Wb,g1]at e2;cases e2;have da:DA K (fun _=>False) H (.ref b) (fE k):=mr g4 (fun z=>z) fun _ _ _ _ z=>z;exact da.rh (pl _ (Xb e2')) I h rfl
 ·rw[ln]at pm g;have hpn:H p=none:=by
   cases e:H p with
   | none=>rfl
   | some o =>
    obtain⟨ob,e'⟩:=(I.hok p o e).there;exact absurd rfl (ge p ob e')
  have eo:=xG ca pm g;have hγ:∀g∈γ.toList,g<kvs.length:=fun g hg=>by
   have:=(Array.perm_iff_toList_perm.mp pm).mem_iff.mp hg;rw[BM,Ya]at this;exact Qb.mp this
  have las:ep.2.length=kvs.length:=by rw[← ra,Ya,← Paired.length rk]
  have e2:(bN (es.toList.map (·.key)) γ).toList=γ.toList.map fun g=>(es.toList.map (·.key)).getD g .none:=by unfold bN;simp
  have vw:Vals ((γ.toList.map fun g=>ep.2.getD g 0).map V.ref) (bN (es.toList.map (·.key)) γ).toList:=by
   rw[e2,Xe];have:∀l:List Nat,(∀g∈l,g<kvs.length)->Vals (l.map (V.ref ∘ fun g=>ep.2.getD g 0)) (l.map fun g=>(es.toList.map (·.key)).getD g .none):=fun l=>by
    induction l with
    | nil=>exact fun _=>.nil
    | cons g l ih =>
     intro hl;have hg:g<kvs.length:=hl g Wd;have a1:(es.toList.map (·.key))[g]?=some ((es.toList.map (·.key))[g]'(by rw[ln,Ya];exact hg)):=Za _
     obtain⟨k,v,b,g1,g2,g3,g4⟩:=at_ g _ a1;refine .cons ?_ (ih fun x hx=>hl x (Yc _ hx));show(es.toList.map (·.key)).getD g .none=Value.ref (ep.2.getD g 0);rw[Yd,Yd,a1,g2,Option.getD_some,g3];rfl
   exact this _ hγ
  refine⟨.ref p,upd H p (.lst ((γ.toList.map fun g=>ep.2.getD g 0).map V.ref)),I.laid2 kp ge hpn ⟨?_,(bN (es.toList.map (·.key)) γ).toList,n,vw,by simpa using hat⟩ (I.tkl' hle),rfl,q p _ hpn (fun b hb=>?_) ⟨γ.toList.map fun g=>(kvs.map (·.1)).getD g (.inl []),?_,by simp,fun i b k h1 h2=>?_⟩⟩
  ·rw[Ya,Ya,Qd,pm.size_eq,AO,Ya];exact hz
  ·obtain⟨g,hg,rfl⟩:=Wa.mp hb;have hg':=hγ g hg;rw[Yd,Za (by lia)]
   exact Yj _
  ·rw[← eo,Xe];refine Wf fun g hg=>?_;have hg':=hγ g hg;show fE ((kvs.map (·.1)).getD g (.inl []))=_;rw[nV (d:=fE kvs[g].1) (by rw[Wb,Za hg'];rfl),Yd,Wb,Za hg'];rfl
  ·rw[Wb]at h1 h2;obtain⟨g1,k1,k2⟩:=Xc.mp h1;obtain⟨g2,k3,k4⟩:=Xc.mp h2;rw[k1]at k3;cases k3;have hg':=hγ g1 (Xb k1);have a1:(es.toList.map (·.key))[g1]?=some ((es.toList.map (·.key))[g1]'(by rw[ln,Ya];exact hg')):=Za _
   obtain⟨k',v,b',f1,f2,f3,f4⟩:=at_ g1 _ a1;rw[Yd,f2]at k2;rw[Yd,Wb,f1]at k4;subst k2 k4;exact f4
open Classical in
noncomputable def kr:List D->Option Rz
 | [d]=>match ip d with
  | some ds=>if (∀x∈ds,Pl 40 x)/\CA 40 ds/\(∃κ,Kd ds κ)/\ds.length<64 then some (.lst (bR 40 ds),true) else none
  | none=>none
 | _=>none
theorem qG:RdCB K xL kr:=by
 intro Y H xs ds z Q lv bs e q;cases bs with
 | nil=>cases e
 | @cons v vs d ds b1 bs =>
  cases bs with
  | cons _ _=>cases e
  | nil =>
   cases d with
   | dt kd =>
    unfold kr at e;dsimp only[ip]at e;obtain⟨a,ep,kvs,rfl,ka,h1,h2,h3⟩:=b1;have ek:(kd.map fun kv=>fE kv.1)=kvs.map fun kv=>fE kv.1:=by
     have:∀{α:Type} (l:List (aN×α)),(l.map fun kv=>fE kv.1)=(l.map (·.1)).map fun k=>fE k:=fun l=>by rw[Xe];rfl
     rw[this,this,h2]
    rw[ek]at e;obtain⟨c,e⟩:=aC e;cases e;obtain⟨c1,c2,⟨κ,c3⟩,c4⟩:=c;refine⟨a,ep,kvs,κ,rfl,h1,c1,c2,c3,c4,fun p bs hp hb ⟨ks,k1,k2,k3⟩=>q _ _ (aG hp _) (fU ?_ hp)⟩;rw[← k1];refine⟨by rw[Ya,Ya,k2],fun i v d e1 e2=>?_⟩
    rw[Wb]at e1 e2;obtain⟨b,f1,rfl⟩:=Xc.mp e1;obtain⟨k,f2,rfl⟩:=Xc.mp e2;exact mr (k3 i b k f1 f2) (ka b (hb b (Xb f1))).1.1 fun xs e c hc=>((ka b (hb b (Xb f1))).2 xs e c hc).1
   | _=>cases e
end
end VF22
namespace VF22
open PySem PySem.Spec PyProof.Rows L2 VF
section
variable {X:Cx} {K:PySem.W.Frag}
def vp (lo:Int) (n:Nat):List V:=(List.range n).map fun i=>V.int (lo+(i:Nat))
theorem vq {acc:Array Value} {lo:Int} {n:Nat} (hi:ItemsOf (fun i v=>∃t,v=Value.int (lo+(i:Nat)*1) t) acc n):Vals (vp lo n) acc.toList:=by
 obtain⟨h1,h2⟩:=hi;have gen:∀(m k:Nat) (l:List Value),l.length=m->(∀(j:Nat) v,l[j]?=some v->∃t,v=Value.int (lo+((k+j:Nat):Int)) t)->Vals ((List.range m).map fun i=>V.int (lo+((k+i:Nat):Int))) l:=by
  intro m;induction m with
  | zero =>
   intro k l hl _;cases l with
   | nil=>exact .nil
   | cons _ _=>cases hl
  | succ m ih =>
   intro k l hl hv;cases l with
   | nil=>cases hl
   | cons v l =>
    rw[Cg,Vd,Xe];refine .cons ?_ ?_
    ·obtain⟨t,e⟩:=hv 0 v rfl;exact⟨t,e⟩
    ·have:=ih (k+1) l (by simpa using hl) fun j u e=>by
      obtain⟨t,e'⟩:=hv (j+1) u (by simpa using e)
      exact⟨t,by rw[e',show k+1+j=k+(j+1) by lia]⟩
     refine(congrArg (fun z=>Vals z l) (Wf fun i _=>?_)).mp this;show V.int (lo+((k+1+i:Nat):Int))=V.int (lo+((k+(i+1):Nat):Int));rw[show k+1+i=k+(i+1) by lia]
 have:=gen n 0 acc.toList (by rw[Qd];exact h1) fun j v e=>by
  obtain⟨t,e'⟩:=h2 j v (by rw[← Zi];exact e)
  exact⟨t,by rw[e',Int.mul_one,AY]⟩
 refine(congrArg (fun z=>Vals z acc.toList) (Wf fun i _=>?_)).mp this;rw[AY]
end
end VF22
namespace VF22
open PySem PySem.Spec PyProof.Rows L2 VF
section
variable {X:Cx} {K:PySem.W.Frag}
abbrev RB (lo hi:Int):Prop:=-(2 ^ 30)<=lo/\lo<2 ^ 30/\-(2 ^ 30)<=hi/\hi<2 ^ 30/\(hi-lo).toNat<=1000000
def xM (ta:TA):TE:=fun σ H Q=>ta σ H fun vs H1=>∃j:Int,vs=[.int j]/\(-(2 ^ 30)<=j/\j<2 ^ 30)/\∀p,H1 p=none->Q (.ref p) (upd H1 p (.rng 0 j))
def xN (ta:TA):TE:=fun σ H Q=>ta σ H fun vs H1=>∃i j:Int,vs=[.int i,.int j]/\(-(2 ^ 30)<=i/\i<2 ^ 30/\-(2 ^ 30)<=j/\j<2 ^ 30)/\∀p,H1 p=none->Q (.ref p) (upd H1 p (.rng i j))
theorem qH {s:Shared} {lo hi:Int} {t u v:Tok} {tk:Nat} {Q:VK} (I:L2.Inv X pins σ H s) (q:∀p,H p=none->Q (.ref p) (upd H p (.rng lo hi))) (ht:0<tk) :
  EP X pins σ Q (.ref s.heap.objs.size) { s with heap:=s.heap.push { cls:=.type "range",data:=.fields #[.int lo t,.int hi u,.int 1 v] },toks:=tk } :=
 ⟨.ref _,_,I.laid (o:=.rng lo hi) (t':=tk) (fun b o e=>Ab _ e) (Xa _) ⟨t,u,v,Ah _ rfl⟩,rfl,q _ (I.hok.fresh (Xa _))⟩
theorem qI (hg:Gl X "range") (hm:X.mg "range"=none) (ha:PA X [a] ta) (hs:starEach [a] X.env=[(false,eval a X.env)]:=by rfl):PE X (.Call (.Name "range" p) [a] [] pos) (xM ta):=by
 intro pins s σ H Q I h;refine Call_ (fI I hg hm boot_range (Aq (bM (ha pos pins s σ H _ I h) fun us s1 ⟨vs,H1,I1,r1,q1⟩=>?_) hs rfl));obtain⟨j,rfl,⟨h1,h2⟩,q⟩:=q1;cases r1 with
 | cons r rr =>
  cases rr;obtain⟨t,rfl⟩:=r;exact bw (call_range_1 fun hle=>qH I1 q (I1.tkl' hle))
theorem xO (hg:Gl X "range") (hm:X.mg "range"=none) (ha:PA X [a,b] ta) (hs:starEach [a,b] X.env=[(false,eval a X.env),(false,eval b X.env)]:=by rfl) (hs2:starEach [b] X.env=[(false,eval b X.env)]:=by rfl):PE X (.Call (.Name "range" p) [a,b] [] pos) (xN ta):=by
 intro pins s σ H Q I h;refine Call_ (fI I hg hm boot_range (Aq (bM (ha pos pins s σ H _ I h) fun us s1 ⟨vs,H1,I1,r1,q1⟩=>?_) (by rw[hs,hs2]) (by rw[hs2];rfl)))
 obtain⟨i,j,rfl,⟨h1,h2,h3,h4⟩,q⟩:=q1;cases r1 with
 | cons r rr =>
  cases rr with
  | cons r' rr =>
   cases rr;obtain⟨t,rfl⟩:=r;obtain⟨t',rfl⟩:=r';exact bw (call_range_2 fun hle=>qH I1 q (I1.tkl' hle))
def o7:List V->Hp->VK->Prop:=fun xs H Q=>∃(p:Addr) (lo hi:Int),xs=[.ref p]/\H p=some (.rng lo hi)/\RB lo hi/\∀l,H l=none->Q (.ref l) (upd H l (.lst (vp lo (hi-lo).toNat)))
theorem jd (hc:X.calm=true):CallR X (.type "list") o7:=by
 intro pins s σ H xs us Q I rv h;obtain⟨p,lo,hi,rfl,hp,b,q⟩:=h;obtain⟨w,rfl,ru⟩:=vals1 rv;cases ru;obtain⟨t,u,v,ho⟩:=(show ObjOk X.prog X.w H s.heap p (.rng lo hi) from I.hok p _ hp);have hn:Builtin.Range.rangeSize lo hi 1=(((hi-lo).toNat:Nat):Int):=by rw[rangeSize_one];split<;>lia
 refine bw (call_list_range (I.ok.hd hc) (show IsRange s.heap p lo hi 1 t u v from ho) (small_one (by lia) (by lia) (by lia) (by lia)) hn (by lia) fun h' tk' acc' c' kp hS hi' hle=>?_)
 refine⟨.ref _,upd H _ (.lst (vp lo (hi-lo).toNat)),I.laid kp (Xa _) ⟨?_,acc'.toList,c',vq hi',by simpa using hS⟩ (I.tkl' hle),rfl,q _ (I.hok.fresh (Xa _))⟩
 unfold vp;rw[Ya,Wc];exact gn b.2.2.2.2
theorem Gr (lo:Int) (n:Nat):El K Y H (vp lo n) (rng lo n):=by
 unfold vp rng;refine⟨by simp,fun i v d h1 h2=>?_⟩
 rw[Wb]at h1 h2;obtain⟨x,e1,rfl⟩:=Xc.mp h1;rw[e1]at h2;cases h2;exact .int _
theorem Gs (bs:BAs K Y H vs ds) (e3:rV ds=some j):vs=[.int j]:=by
 have ed:ds=[.int j]:=by
  unfold rV at e3;split at e3
  ·cases e3;rfl
  ·cases e3
 subst ed;cases bs with
 | cons b1 b2 =>
  cases b2;obtain rfl:=(show _=V.int j from b1);rfl
theorem Gu (bs:BAs K Y H vs ds) (e3:zw ds=some (i,j)):vs=[.int i,.int j]:=by
 have ed:ds=[.int i,.int j]:=by
  unfold zw at e3;split at e3
  ·cases e3;rfl
  ·cases e3
 subst ed;cases bs with
 | cons b1 b2 =>
  cases b2 with
  | cons b2 b3 =>
   cases b3;obtain rfl:=(show _=V.int i from b1);obtain rfl:=(show _=V.int j from b2);rfl
def fLR1 (fa:FA):FE:=fun st=>(fa st).bind fun x=>(bW x.2 x.1).bind fun ds=>(rV ds).bind fun j=>if RB 0 j then some (.f (.lst (rng 0 (j-0).toNat)),x.2) else none
def fLR2 (fa:FA):FE:=fun st=>(fa st).bind fun x=>(bW x.2 x.1).bind fun ds=>(zw ds).bind fun p=>if RB p.1 p.2 then some (.f (.lst (rng p.1 (p.2-p.1).toNat)),x.2) else none
theorem DO {st:En} {lo hi:Int} {Q:VK} {r:Rs} {st':En} (E:ER K st' σ H1 O1 Z) (x1:Ext O H O1 H1) (k1:Kp st st') (b:RB lo hi) (he:r=.f (.lst (rng lo (hi-lo).toNat)))
  (q:∀v H' O',Ext O H O' H'->Kp st st'->ER K st' σ H' O' Z->RVal K Z st' σ H' O' v r->Fsh H v r->Q v H'):∀p,H1 p=none->o7 [.ref p] (upd H1 p (.rng lo hi)) Q:=fun p hp=>by
 subst he;refine⟨p,lo,hi,rfl,aD,b,fun l hl=>?_⟩;have s1:=aG hp (HO.rng lo hi);have E1:=E.same s1;obtain⟨E2,rv⟩:=E1.new hl (Gr lo (hi-lo).toNat);have x2:Ext O1 H1 O1 (upd H1 p (.rng lo hi)):=Same.ext s1;exact q _ _ O1 ((x1.trans x2).trans (Same.ext (aG hl _))) k1 E2 rv fun p' e=>by cases e;exact(x1.trans x2).dead hl
theorem xP (h:rQ K ta fa):cM K (Hy o7 (cr (xM ta) jY)) (fLR1 fa):=by
 intro st σ H O Z Q E r st' e q;refine bT e fun rs st1 e1 e=>?_;refine bp e fun ds e2 e=>?_;refine bp e fun j e3 e=>?_;obtain⟨c,e⟩:=aC e;cases e;refine h st σ H O Z _ E rs _ e1 fun vs H1 O1 x1 k1 E1 rvs=>?_;have hv:=Gs (rvs.bas E1 e2) e3;exact⟨j,hv,⟨c.2.2.1,c.2.2.2.1⟩,DO E1 x1 k1 c rfl q⟩
theorem Gv (h:rQ K ta fa):cM K (Hy o7 (cr (xN ta) jY)) (fLR2 fa):=by
 intro st σ H O Z Q E r st' e q;refine bT e fun rs st1 e1 e=>?_;refine bp e fun ds e2 e=>?_;refine bT e fun i j e3 e=>?_;obtain⟨c,e⟩:=aC e;cases e;refine h st σ H O Z _ E rs _ e1 fun vs H1 O1 x1 k1 E1 rvs=>?_;have hv:=Gu (rvs.bas E1 e2) e3;exact⟨i,j,hv,⟨c.1,c.2.1,c.2.2.1,c.2.2.2.1⟩,DO E1 x1 k1 c rfl q⟩
end
section
variable {prog:Program} {w:World} {A:Around} {E:Value->Shared->Prop} {s:Shared}
theorem Ct {xs ys:Array Value} (ho:s.heap.get? l=some { cls:=.type "list",data:=.seq xs n }) (hm:s.heap.get? m=some { cls:=.type "list",data:=.seq ys k }) (hne:l≠m)
  (hs:s.heap.IsSliceOf sl .none .none .none) (hz:xs.size+ys.size<=sizeLine)
  (q':∀f:Array Value->Array Value,f xs=ys->Q () { s with heap:=s.heap.update l (Obj.mapSeq f) }):wpAny (model prog w) A (setItem (.ref l) (.ref sl) (.ref m)) Q E s:=by
 have hl:s.heap.IsList l xs:=PySem.IsL.isList (n:=n) ho;obtain⟨os,hos,hcs,hds⟩:=id hs;have ts:s.TypeIs (.ref sl) "slice":=⟨os,hos,hcs⟩;have tm:s.TypeIs (.ref m) "list":=⟨_,hm,rfl⟩;unfold setItem
 try with_reducible refine Au ?_
 first|refine Aa (Ac ?_)|skip
 refine Aa (wpAny_sequenceKey hl.typeIs (by decide) (Aa (An (name:=Str.ofString "__setitem__") hl.typeIs slot_list_setitem (Am slot_list_setitem hl.typeIs entry_list_setitem ?_ (args_list_setitem _ _ _)))))
 show wpAny _ _ (Builtin.List.listSubscript? (.ref sl) >>= _) _ _ s;refine Aa ?_;unfold Builtin.List.listSubscript?;refine Aa (AT ts slice_no_index ?_);simp only[Option.isNone_none,if_true];refine Ac ?_;show wpAny _ _ (typeOf (.ref sl) >>= _) _ _ s;refine Aa (AI ts ?_);rw[Af (by decide),listSliceParts_eq]
 refine Aa (Aa (Ap hos hds (x:=.none) rfl (Aa (B4 .none ?_))));rw[Af (show ¬ ((rawPart none == rawInt 0)=true) from Qc)];refine Aa (Ap hos hds (x:=.none) rfl (Aa (B4 .none (Aa (Ap hos hds (x:=.none) rfl (Aa (B4 .none (Ac ?_))))))));have hsr:Builtin.List.listSameRef (.ref l) (.ref m)=false:=by simp[Builtin.List.listSameRef,hne]
 simp only[hsr,We,if_false];refine Aa ?_;unfold Builtin.List.listAllItems;refine Aa (AI tm ?_);rw[Ae (by rw[show(Value.type "list" == Value.type "list")=true from rfl];rfl)]
 refine AD hm rfl (Aa (AD ho rfl ?_));refine Aa (wpAny_of_eq (sliceIndices_raw none none none xs.size (by simp)) ?_)
 show wpAny _ _ (if ((1:Int) == 1)=true then _ else _) _ _ s;rw[Ae (show((1:Int) == 1)=true from rfl)];refine Aa (AF ?_);rw[Af (by unfold Builtin.List.listTooLong;rw[decide_eq_true_eq];lia)]
 have ef:xs.extract 0 (sliceBounds none none none xs.size).1.toNat++ys++xs.extract (max (sliceBounds none none none xs.size).1 (sliceBounds none none none xs.size).2.1).toNat xs.size=ys:=by
  show xs.extract 0 (0:Int).toNat++ys++xs.extract (max (0:Int) (xs.size:Int)).toNat xs.size=ys;have:(max (0:Int) (xs.size:Int)).toNat=xs.size:=by lia
  rw[this];simp
 refine Aa (Be ho rfl ?_ (by lia) ?_)
 ·refine Aa (BX ?_);exact Aa (Ac (Ac ⟨.none,rfl,Ac (q' _ ef)⟩))
 ·exact Ze (Nat.le_of_eq (congrArg Array.size ef)) (by lia)
end
end VF22
namespace VF22
open PySem PySem.Spec PyProof.Rows L2 VF
section
variable {X:Cx} {K:PySem.W.Frag}
def Iy (to:TE):TG:=fun v σ H Q=>to σ H fun o H1=>∃(p m:Addr) (xs ys:List V),o=.ref p/\v=.ref m/\p≠m/\H1 p=some (.lst xs)/\H1 m=some (.lst ys)/\xs.length+ys.length<=1000000/\Q σ (upd H1 p (.lst ys))
theorem Gx (ho:PE X o to):PG X (.Subscript o (.Slice none none none p2) pos) (Iy to):=by
 intro pins s σ H v u Q I r h
 have ha:assign (.Subscript o (.Slice none none none p2) pos) X.env u=(do
   let ov ← holding [u] (eval o X.env)
   let iv ← holding [u,ov] (eval (.Slice none none none p2) X.env)
   standAt pos
   holding [u,ov,iv] (setItem ov iv u)
   release [iv,u,ov] []):=rfl
 rw[ha];refine Aa (Au (bM (ho pins s σ H _ I h) fun ov s1 ⟨x,H1,I1,r1,q1⟩=>?_));obtain⟨p,m,xs,ys,rfl,rfl,hne,hp,hm,hz,q⟩:=q1;cases r1;cases r;refine Aa (Au (wpAny_Slice ?_));rw[evalPart_none];refine Ac (Ac (Ac ?_));refine Aa (wpAny_standAt (Aa (Au ?_)));have I2:L2.Inv X pins σ H1 { s1 with heap:=s1.heap.push { cls:=.type "slice",data:=.fields #[.none,.none,.none] } }:=I1.kept (t':=s1.toks) fun b ob q=>Ab _ q;obtain⟨its,n,rx,hox,hzx⟩:=I2.lst hp;obtain⟨jts,k,ry,hoy,hzy⟩:=I2.lst hm;have hs:=gn (n:=xs.length+ys.length) hz;have lx:=rx.length;have ly:=ry.length;refine Ct hox hoy hne (Heap.IsSliceOf.new ..) (by rw[Yb,Yb];lia) fun f ef=>wpAny_release ⟨σ,_,I2.lstUpd (its':=jts) (n':=if jts.toArray.size == its.toArray.size then n else n+1) hp hox ?_ ry hzy s1.toks,q⟩
 show Obj.mapSeq f _=_;simp[Obj.mapSeq,ef]
def slcD:D->D->Option D
 | .lst xs,.lst ys=>if xs.length+ys.length<=1000000 then some (.lst ys) else none
 | _,_=>none
def sSlc (fe:FE) (i:Nat):FS:=fun st=>(fe st).bind fun x=>(esc x.1 x.2).bind fun y=>(y.2[i]?).bind fun s=>(s.ow).bind fun z=>(slcD z y.1).bind fun z'=>some (.nx (y.2.set i (s.put z')))
theorem Gy (he:cM K te fe):m6 K (uL te (Iy (jm i))) (sSlc fe i):=by
 intro st σ H O Z Dn E o e q;refine bT e fun r st1 e1 e=>?_;refine bT e fun dv st2 e2 e=>?_;refine bp e fun s e3 e=>?_;refine bp e fun x e4 e=>?_;refine bp e fun x' e5 e=>?_;cases e;refine he st σ H O Z _ E r st1 e1 fun v H1 O1 x1 k1 E1 rv w1=>?_;obtain⟨O2,x2,k2,E2,da⟩:=rv.esc E1 e2;obtain⟨p,g1,g2,g3⟩:=E2.own i s x e3 e4;refine⟨.ref p,g1,?_⟩;cases x with
 | lst xs =>
  cases dv with
  | lst ys =>
   obtain⟨c,e5⟩:=aC e5;cases e5;obtain⟨ws,h1,h2⟩:=g3;cases da with
   | @lst m us _ n0 n1 n2 n3 =>
    have hne:p≠m:=fun z=>n0 (.inl (by rw[← z];exact g2))
    refine⟨p,m,ws,us,rfl,rfl,hne,h1,n1,by rw[h2.1,n2];exact c,?_⟩
    obtain⟨E4,x4,k4⟩:=E2.write (o:=.lst us) e3 e4 g1 (y:=.lst ys) ⟨us,aD,(El.upd (K:=K) (Y:=U O2 Z) ⟨n2,n3⟩ (.inl g2))⟩;exact q σ _ O2 ((x1.trans x2).trans x4) ((k1.trans k2).trans k4).kq E4
  | _=>cases e5
 | _=>cases dv<;>cases e5
end
end VF22
namespace VF22
open PySem PySem.Spec PyProof.Rows L2 VF
def Kc (K:PySem.W.Frag) (a:Addr) (xs:List V):It:=⟨fun i H=>eY K H a xs/\i<xs.length,fun i H v H'=>H'=H/\xs.reverse[i]?=some v,fun i _=>xs.length<=i⟩
theorem Cu {P:Program} {w:World} {K:PySem.W.Frag} {tg:Expr} (a it:Addr) (xs:List V):Turn P w K tg (Kc K a xs) [it] it (fun i h=>h.IsRevIter it a ((xs.length:Int)-1-(i:Nat))/\i<=xs.length) where
 mem:=by simp
 obj:=fun i h st b hb=>by
  have e:b=it:=by simpa using hb
  subst e;obtain⟨⟨o,e,c,d⟩,_⟩:=st;exact⟨o,e,fun v z=>by rw[d]at z;cases z⟩
 keep:=fun i h h' st k=>⟨st.1.at fun o e=>k it (by simp) o e,st.2⟩
 item:=by
  intro X hP hw hK hc i pins s σ H E I hf st hg;subst hP hw hK;obtain⟨f0,f1,f2,f3,f4,f5⟩:=hf it (by simp)
  obtain⟨hq,hi⟩:=hg;obtain⟨its,rv,p,hz⟩:=I.list hq;have hl:=rv.length;have e1:((xs.length:Int)-1-(i:Nat))=((xs.length-1-i:Nat):Int):=by lia
  have st:=st.1;rw[e1]at st;have hx:xs.reverse[i]?=some (xs[xs.length-1-i]'(by lia)):=by rw[List.getElem?_reverse hi,Za (by lia)]
  obtain⟨u,hu,ru⟩:=rv.get (Za (show xs.length-1-i<xs.length by lia))
  refine wpAny_pyNext_rev_item st p.isList (x:=u) (by simpa using hu) fun h' st' sb=>?_
  have I1:L2.Inv X pins σ H { s with heap:=h' }:=I.turned (t':=s.toks) (fun b o hb e=>sb.extBut b o hb e) f0 f1 f3 f4 f5;obtain⟨o,e,c,d⟩:=id st';have e2:(((xs.length-1-i:Nat):Int)-1)=((xs.length:Int)-1-((i+1:Nat):Int)):=by lia
  rw[e2]at st';exact⟨u,rfl,lP (s:={ s with heap:=h' }) e c d (by decide) ⟨_,H,I1,ru,⟨rfl,hx⟩,⟨st',hi⟩,fun b hb=>(hf b hb).1⟩⟩
 done:=by
  intro X hP hw hK hc i pins s σ H E I hf st hg;subst hP hw hK;obtain⟨f0,f1,f2,f3,f4,f5⟩:=hf it (by simp)
  have hg':xs.length<=i:=hg;obtain⟨st,hi⟩:=st;have e1:((xs.length:Int)-1-(i:Nat))=-1:=by lia
  rw[e1]at st;exact wpAny_pyNext_rev_end (I.ok.hd hc) st fun h' eb=>⟨rfl,I.turned (t':=s.toks) (fun b o hb e=>eb b o hb e) f0 f1 f3 f4 f5⟩
 self:=fun _ _ _ _ _ st h=>wpAny_pyIter_revIter st.1 h
section
variable {X:Cx} {K:PySem.W.Frag}
def DP (K:PySem.W.Frag) (ta:TA):TI:=fun σ H R=>ta σ H fun vs H1=>∃a xs,vs=[.ref a]/\eY K H1 a xs/\R (Kc K a xs) H1
theorem Cv {tg a:Expr} {te:TE} {p pos:Pos} (h:X.K=K) (hg:Gl X "reversed") (hs:starEach [a] X.env=[(false,eval a X.env)]) (hm:X.mg "reversed"=none) (ha:PE X a te):PI X tg (.Call (.Name "reversed" p) [a] [] pos) (DP K (cr te jY)):=by
 subst h;intro pins s σ H R I h;refine Call_ (fI I hg hm VF.boot_reversed (Aq (bM (jo ha ae hs pos pins s σ H _ I h) fun us s1 ⟨vs,H1,I1,r1,q1⟩=>?_) hs rfl));obtain⟨b,xs,e,hq,q⟩:=q1;subst e;cases r1 with
 | cons r rr =>
  cases rr;cases r;obtain⟨its,rv,pt,hz⟩:=I1.list hq;have hl:=rv.length;refine call_reversed_list pt.isList ?_;have I2:L2.Inv X pins σ H1 { s1 with heap:=s1.heap.push (revObj b ((its.toArray.size:Int)-1)) }:=I1.kept (t':=s1.toks) fun c o e=>Ab _ e;have st:(s1.heap.push (revObj b ((its.toArray.size:Int)-1))).IsRevIter s1.heap.objs.size b ((xs.length:Int)-1-((0:Nat):Int)):=by
   refine⟨_,Ah _ rfl,rfl,?_⟩;show Data.fields #[.ref b,rawInt ((its.toArray.size:Int)-1)]=_;rw[Yb,← hl];simp
  refine wpAny_pyIter_revIter (s:={ s1 with heap:=s1.heap.push (revObj b ((its.toArray.size:Int)-1)) }) st ⟨s1.heap.objs.size,[s1.heap.objs.size],_,_,H1,rfl,I2,Cu b _ xs,⟨st,Wh _⟩,fun c hc=>?_,q⟩;have e:c=s1.heap.objs.size:=by simpa using hc
  subst e;exact I1.fpOk (Xa _) (I1.hok.fresh (Xa _))
def lstD:D->Option (List D)
 | .lst ds=>some ds
 | _=>none
def fIRvL (fe:FE):FI:=fun st=>(fe st).bind fun x=>(esc x.1 x.2).bind fun y=>(lstD y.1).bind fun ds=>some (ds.reverse,y.2)
theorem Cw (h:cM K te fe):RdI K (DP K (cr te jY)) (fIRvL fe):=by
 intro st σ H O Z R E items st' e q;refine bT e fun r st1 e1 e=>?_;refine bT e fun d st2 e2 e=>?_;refine bp e fun ds e3 e=>?_;cases e;refine h st σ H O Z _ E r st1 e1 fun v H1 O1 x1 k1 E1 rv w1=>?_;obtain⟨O2,x2,k2,E2,da⟩:=rv.esc E1 e2;cases d with
 | lst ds' =>
  cases e3;cases da with
  | @lst a vs _ h0 h1 h2 h3 =>
   refine⟨a,vs,rfl,.inl (.inl h1),q _ H1 O2 (x1.trans x2) (k1.trans k2) E2 fun H' O' ex _=>?_⟩;have g1:H' a=some (.lst vs):=ex.kp a _ h1 fun z=>h0 (.inl z);have el':El K (U O' Z) H' vs ds:=El.ext ⟨h2,h3⟩ ex;refine⟨fun i hi=>?_,fun i d hd=>?_⟩
   ·show vs.length<=i;rw[AW]at hi;lia
   ·have hi:i<vs.length:=by
     have:=(Vb.mp hd).1;rw[AW]at this;lia
    refine⟨⟨.inl (.inl g1),hi⟩,fun x H'' hx=>?_⟩;obtain⟨rfl,hx⟩:=hx;exact⟨Same.refl _,el'.rev.2 i x d hx hd⟩
 | _=>cases e3
theorem xQ (h:X.K=K) (hl:PE X l tl):PI X tg l (lQ K tl):=by subst h;exact sL hl
end
end VF22
namespace VF22
open PySem PySem.Spec PyProof.Rows L2 VF
section
variable {X:Cx} {K:PySem.W.Frag}
@[irreducible] def DQ (X:Cx) (es:List Expr) (t:TA):Prop:=PA X es t
theorem o8:DQ X [] jY:=by unfold DQ;exact ae
theorem iB (ha:PE X e te) (hr:DQ X es t) (h:rN e=true):DQ X (e::es) (cr te t):=by
 unfold DQ at *;exact ao ha hr h
theorem Cy (h:DQ X es t):PE X (.List es pos) (v7 t):=by
 unfold DQ at h;exact cw h
@[irreducible] def DR (X:Cx) (e:Expr) (t:TE):Prop:=PE X e t
theorem o9 (h:DQ X es t):DR X (.List es pos) (v7 t):=by
 unfold DR;exact Cy h
theorem sh (hr:IxR X r) (ha:DR X a ta) (hb:PE X b tb) (hs:sW b):DR X (.Subscript a b pos) (ED r ta tb):=by
 unfold DR at *;exact bO hr ha hb hs
end
end VF22
namespace VF22
open PySem PySem.Spec PyProof.Rows L2 VF
section
variable {t:Bool} {P:Program} {w:World} {A:Around} {E:Value->Shared->Prop} {s:Shared}
abbrev eE (t:Bool) (h:Heap) (l:Addr):Heap:=(zA t h l).push { cls:=.type "enumerate",data:=.fields #[.none,.bool false,.ref h.objs.size,rawInt 0,.none,.none] }
theorem vt (t:Bool) (l:Addr) (xs:Array Value):Meets (Builtin.«enumerate.__new__» ⟨[.type "enumerate",.ref l],[]⟩) (fun _ R s=>So t s.heap l xs/\R (.ok (.ret (.ref (zA t s.heap l).objs.size))) { s with heap:=eE t s.heap l }) :=
 .of_wp fun prog w A R s h=>by
  obtain⟨hp,g,d,tk,os⟩:=s;obtain⟨v1,q⟩:=h;have hsub:=sub_enumerate;have L1:So t (Shared.heap ⟨hp,g,d,tk,os⟩) l xs:=v1;obtain⟨⟨c0,d0,dt0,sl0⟩,ho,hc0,n0,hd0⟩:=id v1;replace hc0:c0=.type (J0 t):=hc0;replace hd0:dt0=.seq xs n0:=hd0;subst hc0 hd0;cases t with
  | false =>
   wp_walk using Ax ho
   refine wpAny_stack_any fun z=>Ac ?_;split
   ·rename_i u _ _ _ _ _
    cases (u == Value.type "enumerate")<;>(wp_walk using Ax ho,ik L1;exact⟨_,rfl,q⟩)
   ·wp_walk using Ax ho,ik L1
    exact⟨_,rfl,q⟩
  | true =>
   wp_walk using Ax ho
   refine wpAny_stack_any fun z=>Ac ?_;split
   ·rename_i u _ _ _ _ _
    cases (u == Value.type "enumerate")<;>(wp_walk using Ax ho,ik L1;exact⟨_,rfl,q⟩)
   ·wp_walk using Ax ho,ik L1
    exact⟨_,rfl,q⟩
theorem vv (v1:So t s.heap l xs)
  (q:∀g,IsEnum g (s.heap.objs.size+1) s.heap.objs.size 0 .none->Io t g s.heap.objs.size l 0->(∀c o,s.heap.get? c=some o->g.get? c=some o)->Q (.ref (s.heap.objs.size+1)) { s with heap:=g }) :
  wpAny (model P w) A (call (.type "enumerate") [.ref l]) Q E s:=by
 refine callType_new F.called_enumerate (by decide) (F.typeCall_enumerate_1 _) (F.newCall_enumerate_1 _) (fun o=>F.args_object_init_2 o _) F.entry_enumerate_new (vt t l xs) ⟨v1,?_⟩
 have m1:(zA t s.heap l).objs.size=s.heap.objs.size+1:=AJ ..;have g2:(eE t s.heap l).get? (zA t s.heap l).objs.size=some _:=Ah _ rfl;have g1:(eE t s.heap l).get? s.heap.objs.size=some (zI t l):=Ab _ (Ah _ rfl);show _/\_;rw[m1]at g2;rw[m1];exact⟨⟨_,g2,rfl⟩,q _ g2 ⟨_,g1,rfl,rfl⟩ fun c o e=>Ab _ (Ab _ e)⟩
theorem Iz (a:Io t h it l i) (b:So t h l xs):l≠it:=by grind [Io,So]
theorem Gz (hh:A.handled=none) (he:IsEnum s.heap e it k old) (a:Io t s.heap it l i) (b:So t s.heap l xs) (hx:xs[i]?=none)
  (q:∀g,Heap.ExtBut it s.heap g->Q none { s with heap:=g }):wpAny (model P w) A (pyNext (.ref e)) Q E s:=by
 have ty:s.TypeIs (.ref e) "enumerate":=⟨_,he,rfl⟩;unfold pyNext;refine Aa (AQ (An (name:=Str.ofString "__next__") ty F.slot_enumerate_next (Am F.slot_enumerate_next ty F.entry_enumerate_next ?_ (F.args_enumerate_next_1 _))));show wpAny _ _ (field (.ref e) 2 >>= _) _ _ _;refine Aa (Ap he rfl (x:=.ref it) rfl (Aa (oU (A:=A.in1) hh a b hx fun g y ex hy=>?_)));obtain⟨o,ho,hc⟩:=hy;exact Aa (AK (T:="StopIteration") (b:=true) ⟨o,ho,hc⟩ B6 (Ac (q _ ex)))
theorem Km {xs:Array Value} (hh:A.handled=none) (ne:l≠it):Draws P w A it [it,l] xs.size (fun i x=>xs[i]?=some x) (fun i h=>Io t h it l i/\So t h l xs) where
 live:=fun i h st=>by
  obtain⟨⟨o,ho,_⟩,_⟩:=st;exact⟨o,ho⟩
 frame:=fun i h h' st k=>⟨st.1.by fun o q=>k it (by simp) o q,st.2.by fun o q=>k l (by simp) o q⟩
 item:=fun i s Q E hi st hQ=>tQ st.1 st.2 (x:=xs[i]) (by simp[hi]) fun h1 i1 sb=>hQ _ h1 s.toks (by simp[hi]) ⟨i1,st.2.by fun o q=>(sb.2 l ne).trans q⟩ sb
 done:=fun s Q E st hE=>oU hh st.1 st.2 (by simp) hE
end
section
variable {X:Cx} {K:PySem.W.Frag} {t:Bool} {pins:List (Addr×Obj)} {σ:L2.St} {H:Hp} {s:Shared} {h':Heap}
def Ke (K : PySem.W.Frag) (t : Bool) (l : Addr) : It :=
  ⟨fun i H => ∃ xs x, Sq K t H l xs ∧ xs[i]? = some x,
   fun i H v H' => ∃ p x, v = .ref p ∧ H p = none ∧ H' = upd H p (.tup [.int (i : Int), x]) ∧ ∀ xs, Sq K t H l xs → xs[i]? = some x,
   fun i H => ∃ xs, Sq K t H l xs ∧ xs.length ≤ i⟩
def Es (t:Bool) (e it l:Addr) (i:Nat) (h:Heap):Prop:=(∃old,IsEnum h e it (i:Int) old)/\Io t h it l i
theorem vx {x1} (ne:e≠it):Turn P w K (.Tuple es x1 ps) (Ke K t l) [e,it] e (Es t e it l) where
 mem:=by simp
 obj:=fun i h st b hb=>by
  obtain⟨⟨old,a1⟩,⟨o2,a2,_,d2⟩⟩:=st;have:b=e∨b=it:=by simpa using hb
  rcases this with rfl|rfl
  ·exact⟨_,a1,fun v m=>by simp at m⟩
  ·exact⟨_,a2,fun v m=>by rw[d2]at m;cases m⟩
 keep:=fun i h h' st k=>by
  obtain⟨⟨old,a1⟩,a2⟩:=st;exact⟨⟨old,k e (by simp) _ a1⟩,a2.by fun o q=>k it (by simp) o q⟩
 item:=by
  intro X hP hw hK hc i pins s σ H E I hf st hg;subst hP hw hK;obtain⟨xs,x,q1,e1⟩:=hg;obtain⟨⟨old,a1⟩,a2⟩:=st;obtain⟨its,rv,p⟩:=q1.so I;obtain⟨u,hu,ru⟩:=rv.get e1;have hn:H s.heap.objs.size=none:=I.hok.fresh (Xa _);have lt:∀b∈[e,it],b≠s.heap.objs.size:=fun b hb=>Xf <| by
   have:b=e∨b=it:=by simpa using hb
   obtain⟨o2,b2,_⟩:=id a2;rcases this with rfl|rfl
   ·exact Ai a1
   ·exact Ai b2
  have nl:=Iz a2 p;have nel:e≠l:=fun z=>by
   obtain⟨o,ho,hd,_⟩:=p;rw[← z,a1]at ho;cases ho;cases t<;>(injection hd with y;exact absurd y (by decide))
  have hi:i<its.toArray.size:=by
   have:=(Vb.mp hu).1;simpa using this
  refine wpAny_pyNext_enum_itemD (Km (A:=X.A.in1) (I.ok.hd hc) nl) a1 ⟨a2,p⟩ hi ne (by simp;exact⟨ne,nel⟩) fun u' g tk hu' z1 st1 pT _ kp=>?_
  have eu:u'=u:=by
   have e1:its.toArray[i]?=some u:=by simpa using hu
   rw[e1]at hu';exact(Option.some.inj hu').symm
  subst eu;refine⟨_,rfl,wpAny_letOwnedTupleGo_enum (s:={ s with heap:=g,toks:=tk+1 }) z1 fun g2 z2 sb=>?_⟩;replace sb:Heap.SameBut e g g2:=sb;have kk:∀c o,c≠e->c≠it->s.heap.get? c=some o->g2.get? c=some o:=fun c o c1 c2 q=>sb.extBut _ _ c1 (kp c o c1 c2 q);have pT2:g2.get? s.heap.objs.size=some { cls:=.type "tuple",data:=.seq #[.int (i:Int) tk,u'] }:=sb.extBut _ _ (Ne.symm (lt e (by simp))) pT
  have I1:L2.Inv X pins σ (upd H s.heap.objs.size (.tup [.int (i:Int),x])) { s with heap:=s.heap.push { cls:=.type "tuple",data:=.seq #[.int (i:Int) tk,u'] },toks:=tk+1 } :=
   I.laid (fun b o e=>Ab _ e) (Xa _) ⟨show 2<=sizeLine by decide,[.int (i:Int) tk,u'],.cons ⟨_,rfl⟩ (.cons ru .nil),⟨_,Ah _ rfl,rfl,_,rfl⟩⟩
  have ff:∀b∈[e,it],jX X pins (upd H s.heap.objs.size (.tup [.int (i:Int),x])) b:=fun b hb=>by
   obtain⟨f0,f1,f2,f3,f4,f5⟩:=hf b hb;exact⟨by rw[aB (lt b hb)];exact f0,f1,f2,f3,f4,f5⟩
  have I2:L2.Inv X pins σ (upd H s.heap.objs.size (.tup [.int (i:Int),x])) { s with heap:=g2,toks:=tk+1 }:=by
   refine lE (s:={ s with heap:=s.heap.push { cls:=.type "tuple",data:=.seq #[.int (i:Int) tk,u'] },toks:=tk+1 }) (t':=tk+1) I1 ff fun c o hc q=>?_;have hc':¬ (c=e∨c=it):=fun m=>hc (by simpa using m)
   rcases Heap.get?_push_cases q with⟨rfl,rfl⟩|q
   ·exact pT2
   ·exact kk c o (fun m=>hc' (.inl m)) (fun m=>hc' (.inr m)) q
  refine⟨.ref s.heap.objs.size,_,I2,rfl,⟨_,x,rfl,hn,rfl,fun zs hz=>by rw[hz.inj I q1];exact e1⟩,?_,fun b hb=>(ff b hb).1⟩
  exact⟨⟨_,by rw[Int.natCast_add];exact z2⟩,st1.1.by fun o q=>sb.extBut _ o (Ne.symm ne) q⟩
 done:=by
  intro X hP hw hK hc i pins s σ H E I hf st hg;subst hP hw hK;obtain⟨xs,q1,hl⟩:=hg;obtain⟨⟨old,a1⟩,a2⟩:=st;obtain⟨its,rv,p⟩:=q1.so I;have l1:=rv.length;refine Gz (I.ok.hd hc) a1 a2 p (by simp;lia) fun g kp=>⟨rfl,lE (t':=s.toks) I hf fun c o hc q=>?_⟩
  have hc':¬ (c=e∨c=it):=fun m=>hc (by simpa using m)
  exact kp c o (fun m=>hc' (.inr m)) q
 self:=fun _ _ _ _ _ st h=>by
  obtain⟨⟨old,a1⟩,_⟩:=st;exact wpAny_pyIter_enum a1 h
def DS (K:PySem.W.Frag) (ta:TA):TI:=fun σ H R=>ta σ H fun vs H1=>∃t l xs,vs=[.ref l]/\Sq K t H1 l xs/\R (Ke K t l) H1
theorem vy:bootBuiltins "enumerate"=some (.type "enumerate"):=by decide +kernel
theorem ud {x1} (h:X.K=K) (hg:Gl X "enumerate") (hm:X.mg "enumerate"=none) (ha:PE X a te) (hs:starEach [a] X.env=[(false,eval a X.env)]:=by rfl) :
  PI X (.Tuple es x1 ps) (.Call (.Name "enumerate" p) [a] [] pos) (DS K (cr te jY)):=by
 subst h;intro pins s σ H R I h;have ha':PA X [a] (cr te jY):=jo ha ae (hs.trans rfl);refine Call_ (fI I hg hm vy (Aq (bM (ha' pos pins s σ H _ I h) fun us s1 ⟨vs,H1,I1,r1,q1⟩=>?_) (hs.trans rfl) rfl));obtain⟨t,l,xs,e,w1,q⟩:=q1;subst e;cases r1 with
 | cons r rr =>
  cases rr;cases r;obtain⟨its,rv,p⟩:=w1.so I1;refine vv p fun g z n1 kp=>?_;refine wpAny_pyIter_enum (s:={ s1 with heap:=g }) z ⟨_,[s1.heap.objs.size+1,s1.heap.objs.size],_,_,H1,rfl,I1.kept (t':=s1.toks) kp,vx (Nat.succ_ne_self _),⟨⟨_,z⟩,n1⟩,fun b hb=>?_,q⟩;have hb':b=s1.heap.objs.size+1∨b=s1.heap.objs.size:=by simpa using hb
  have le:s1.heap.objs.size<=b:=by
   rcases hb' with m|m<;>(rw[m];first|exact Zj _ _|exact Xa _)
  exact I1.fpOk le (I1.hok.fresh le)
def Cz:List D->Option (List D)
 | [a]=>Hg a
 | _=>none
def yY (ds:List D):List D:=ds.mapIdx fun i d=>.tup [.int (i:Int),d]
def xR (fa:FA):FI:=fun st=>(fa st).bind fun x=>(cm x.1 x.2).bind fun y=>(Cz y.1).bind fun w=>some (yY w,y.2)
theorem ue (h:rQ K ta fa):RdI K (DS K ta) (xR fa):=by
 intro st σ H O Z R E items st' e q;refine bT e fun rs st1 e1 e=>?_;refine bT e fun ds st2 e2 e=>?_;refine bp e fun as e3 e=>?_;cases e;refine h st σ H O Z _ E rs st1 e1 fun vs H1 O1 x1 k1 E1 rvs=>?_;obtain⟨O2,x2,k2,E2,el⟩:=rvs.esc E1 e2;have key:∃d,ds=[d]/\Hg d=some as:=by
  replace e3:Cz ds=some as:=e3
  unfold Cz at e3;split at e3
  ·exact⟨_,rfl,e3⟩
  ·cases e3
 obtain⟨d,rfl,hd⟩:=key;obtain⟨v1,r,rfl,da1,el⟩:=el.uncons;obtain rfl:=el.unnil;obtain⟨t,l,xs,rfl,k3⟩:=xy da1 hd;refine⟨t,l,xs,rfl,(k3 H1 O2 (Ext.refl _ _)).1,q _ H1 O2 (x1.trans x2) (k1.trans k2) E2 fun H' O' ex liv=>?_⟩;obtain⟨s1,el1⟩:=k3 H' O' ex;have n1:=el1.1;refine⟨fun i hi=>⟨xs,s1,?_⟩,fun i d hd=>?_⟩
 ·replace hi:(yY as).length<=i:=hi
  unfold yY at hi;rw[List.length_mapIdx]at hi;lia
 ·replace hd:(yY as)[i]?=some d:=hd
  unfold yY at hd;rw[By]at hd;obtain⟨a,ha,rfl⟩:=Xc.mp hd;obtain⟨x,hx,dx⟩:=el1.at ha;refine⟨⟨xs,x,s1,hx⟩,?_⟩;rintro v H'' ⟨p,x',rfl,hn,rfl,f1⟩;have ex':=f1 xs s1;rw[hx]at ex';cases ex';have sm:=aG hn (.tup [.int (i:Int),x]);exact⟨sm,.tup ⟨aD,fun z=>(liv p z).1 hn⟩ rfl ((El.cons (.int _) (El.one dx)).same sm).2⟩
theorem DT {fa:FA} {st s1 s2:En} {rs:List Rs} {d:D} {ds:List D} (h1:fa st=some (rs,s1)) (h2:cm rs s1=some ([d],s2)) (h3:Hg d=some ds):xR fa st=some (yY ds,s2):=by
 simp only[xR,h1,h2,Qa,Cz,h3]
end
end VF22
namespace VF
open PySem PySem.Spec PyProof.Rows L2
theorem pb {N P:List Str} {sc:Scope} (h:N.Nodup/\(∀x∈P,sc.names.lookup x=some .local∨sc.names.lookup x=some .cell)/\∀y∈sc.names,y.2≠.free) (a:sc.kind=.function:=by rfl) (b:sc.isCoroutine=false:=by rfl) (c:sc.isGenerator=false:=by rfl) (d:N.take P.length=P:=by rfl):FnScope N P sc:=⟨a,b,c,h.1,d,h.2.1,h.2.2⟩
structure FH (K:PySem.W.Frag) (x:Str) (st:Stmt):Prop where
 ex:∃f fd,Fun K x x st f fd/\PySem.W.nsIn K mainGlobals x=some (some (.ref f))
theorem fh {K:PySem.W.Frag} {x:Str} {st:Stmt} {f:Addr} {oc:Value} {od an:Option Addr} {osl:Array (Option Value)} {kV doc pm cdv ct:Value} (a:PySem.W.nsIn K mainGlobals x=some (some (.ref f)))
  (l:K.lookup f=some ⟨oc,od,.func (PySem.W.fnOf x x (ib st) (eB st) (ay st) .none kV doc pm an cdv ct),osl⟩) (c:PySem.W.codeIn K cdv x=true) (k:PySem.W.keepIn K (.ref f)=true):FH K x st:=⟨f,_,Ff l c k,a⟩
def Bn (x:Str) (st:Stmt) (ps:List Str):Prop:=∀(kV doc pm:Value) (an:Option Addr) (cdv ct:Value) (us:List Value),us.length=ps.length->bindArgs (PySem.W.fnOf x x (ib st) (eB st) (ay st) .none kV doc pm an cdv ct) ⟨us,[]⟩=pure (ps.zip us)
theorem JE {n:Nat} {P:List Value->Prop} {us:List Value} (hl:us.length=n+1) (h:∀a r,r.length=n->P (a::r)):P us:=by
 cases us with
 | nil=>cases hl
 | cons a r=>exact h a r (Nat.succ.inj hl)
theorem vN {P:List Value->Prop} (h:∀a,P [a]) (us:List Value) (hl:us.length=1):P us:=JE hl fun a r hr=>by
 rw[Ym hr];exact h a
theorem GA {P:List Value->Prop} (h:∀a b,P [a,b]) (us:List Value) (hl:us.length=2):P us:=JE hl fun a r hr=>vN (P:=fun r=>P (a::r)) (h a) r hr
theorem Kf {P:List Value->Prop} (h:∀a b c,P [a,b,c]) (us:List Value) (hl:us.length=3):P us:=JE hl fun a r hr=>GA (P:=fun r=>P (a::r)) (h a) r hr
section
variable {P:Program} {w:World} {K:PySem.W.Frag} {mg:Str->Option Value} {base h:Heap} {x:Str} {st:Stmt} {N ps:List Str} {k:Nat} {F:FS}
abbrev mv (P:Program) (w:World) (K:PySem.W.Frag) (mg:Str->Option Value) (base:Heap) (x:Str) (st:Stmt) (N:List Str) (k:Nat) (F:FS):Prop :=
 ∀{f:Addr} {cdv:Value} {A:Around} {outer:List Env} {s:Shared} {H:Hp} {E:XK},Room k (A.deeper (envOfC x (ay st) s.heap.objs.size f cdv))->∃t,PSs (rG yX P w K mg base N x (ay st) f cdv A outer s H E).nox (eB st) t/\m6 K t F
theorem Kg {f:Addr} {fd:FuncData} (F':Fun K x x st f fd) (S:FnScope N ps (ay st)) (hB:mv P w K mg base x st N k F):FnOk P w K mg base yX (k+1) f fd ps (lB K (bF F N.length ps.length)):=by
 refine F'.ok S (fun vs H Q E h=>Fu h) fun cdv A outer s H vs Q E hr h=>?_;obtain⟨t,h1,h2⟩:=hB hr;exact⟨t,h1,zy h2 h⟩
theorem FH.cal (h':FH K x st) (X:K.In h) (G:h.Ns mainGlobals mg) (S:FnScope N ps (ay st)) (hb:Bn x st ps) (hB:mv P w K mg base x st N k F):Cal P w K mg base x (k+1) ps (lB K (bF F N.length ps.length)):=by
 obtain⟨f,fd,F',a⟩:=h'.ex;exact⟨f,fd,Kg F' S hB,PySem.W.mg_of X G a,F'.kp,F'.binds hb⟩
theorem FH.calI (h':FH K x st) (X:K.In h) (G:h.Ns mainGlobals mg) (S:FnScope N ps (ay st)) (hb:Bn x st ps) (hB:mv P w K mg base x st N k F):Cal P w K mg base x (k+1) ps (qd K (dU F N.length ps.length)):=by
 obtain⟨f,fd,F',a⟩:=h'.ex;refine⟨f,fd,F'.ok S (fun vs H Q E h=>HM h) fun cdv A outer s H vs Q E hr h=>?_,PySem.W.mg_of X G a,F'.kp,F'.binds hb⟩;obtain⟨t,h1,h2⟩:=hB hr;exact⟨t,h1,vb h2 h⟩
theorem FH.law {fa:Addr} (h':FH K "law" st) (X:K.In h) (G:h.Ns mainGlobals mg) (hfa:mg "law"=some (.ref fa)) (S:FnScope N ["_law_script"] (ay st)) (hb:Bn "law" st ["_law_script"]) (lv:∀ns:List Int,bF F N.length 1 [.fl (ns.map D.int)]=some (.bl true,false))
  (hB:∀base:Heap,mv P w K mg base "law" st N k F):∃fd:FuncData,(∀(s:Shared) (v:Value),BindsTo s fd ⟨[v],[]⟩ [("_law_script",v)])/\∀base:Heap,K.In base->base.Ns mainGlobals mg->FnOk P w K mg base yX (k+1) fa fd ["_law_script"] (tO K):=by
 obtain⟨f,fd,F',a⟩:=h'.ex;have e:=hfa.symm.trans (PySem.W.mg_of X G a);cases e;refine⟨fd,fun s v=>?_,fun base _ _=>(Kg F' S (hB base)).imp fun vs H Q E h=>?_⟩
 ·obtain⟨oc,od,kV,doc,pm,an,cdv,ct,osl,rfl,lk,hcd⟩:=F'.ex;exact .of_eq (hb kV doc pm an cdv ct [v] rfl)
 ·obtain⟨a,ns,rfl,sq,_,q⟩:=h;refine⟨fun _=>False,[.fl (ns.map D.int)],(.bl true,false),El.one (.fl (vs:=ns.map V.int) ?_ (by simp) fun i v d h1 h2=>?_),fun p z=>z.elim,lv ns,fun v H' _ r=>?_⟩
  ·rcases sq with s|s
   ·exact .inl ⟨s,fun z=>z⟩
   ·exact .inr fun H'=>.inr s
  ·rw[Wb]at h1 h2;obtain⟨c,e1,rfl⟩:=Xc.mp h1;rw[e1]at h2;obtain rfl:=Option.some.inj h2;exact .int _
  ·obtain rfl:=(show v=V.bl true from DA.ba (show DA K (fun _=>False) H' v (.bl true) from r));exact q H'
end
theorem walkZ {l:PySem.W.OpenLaw} {q:Program} {loose:List Str} {XP:(Str->Option Value)->Heap->Prop} {d:DefRec} {K:Params->PySem.W.Frag} {k:Nat} {as:List Addr} {sz t:Nat} (hn:l.most=some 63) (hdf:d.params.defaults=[]) (hr:Room k callerA) (ht:0<t) (hK:∀P,as=(K P).map (·.1))
  (F:∀(w:World) (mg:Str->Option Value) (fa:Addr) (h:Heap),(K w.params).In h->h.Ns mainGlobals mg->mg d.name=some (.ref fa) ->
   ∃fd:FuncData,(∀(s:Shared) (u:Value),BindsTo s fd ⟨[u],[]⟩ [("_law_script",u)])/\∀base:Heap,(K w.params).In base->base.Ns mainGlobals mg->FnOk l.prog w (K w.params) mg base yX k fa fd ["_law_script"] (tO (K w.params))) :
  PySem.W.WalkX q loose XP (PySem.W.X.obsZ as) (PySem.W.X.valZ K sz t) l.row.toRowW d [] (fun f vs=>PySem.call f vs) :=
 L2.walk_of (n:=63) (k:=k) (x:="_law_script") (CX:=fun _=>yX) (sp:=fun w=>tO (K w.params)) hn (by decide) hdf hr ht hK F (fun _ _ a ns hl _ hS=>⟨a,ns,rfl,hS,hl,fun _=>rfl⟩) fun _ _ _ _ _ z=>z
end VF
namespace VF22
open PySem PySem.Spec PyProof.Rows L2 VF
section
variable {K:PySem.W.Frag}
variable {P:Program} {w:World} {mg:Str->Option Value} {base h:Heap} {x:Str} {st:Stmt} {N ps:List Str} {k:Nat} {F:FS} {ds:List Value} {dvs:List V}
def IA (K:PySem.W.Frag) (ta:TE):TT:=fun σ H Q=>ta σ H fun x H'=>∃k,EI K x H' k/\Q k H'
theorem CB {X:Cx} {a:Expr} (h:X.K=K) (ha:PE X a ta) (he:∀whole,isTrue a X.env whole=(do let v ← whole;standAt a.pos;holding [v] (truthy v)):=by intro _;rfl):PT X a (IA K ta):=h ▸ v6 ha he
def pe (fa:FE):FT:=fun st=>(fa st).bind fun x=>(cont x.2 x.1).bind fun d=>(d.seq).bind fun ds=>some (!ds.isEmpty,x.2)
theorem xS (ha:cM K ta fa):oD K (IA K ta) (pe fa):=by
 intro st σ H O Z Q E c st' h q;refine bT h fun r1 st1 e1 h=>bp h fun d e2 h=>bp h fun ds e3 h=>?_;cases h;refine ha st σ H O Z _ E r1 st1 e1 fun v1 H1 O1 x1 k1 E1 rv1 w1=>?_;obtain⟨a,vs,rfl,sq,el⟩:=kh (rv1.ba E1 e2) e3;have e:(!ds.isEmpty)=!vs.isEmpty:=by
  have:=el.1;cases vs<;>cases ds<;>first|rfl|cases this
 refine⟨!ds.isEmpty,?_,q H1 O1 x1 k1 E1⟩;rcases sq with sq|sq
 ·exact .inl ⟨vs,sq,e⟩
 ·exact .inr (.inl ⟨vs,sq,e⟩)
end
end VF22
namespace VF22
open PySem L2 VF
theorem xT {X:Cx} {ON:List Str} {S:Scope} {env:Env} {N:List Str} {k:Nat} {caps:List Nat} {scope:Scope} (hs:X.env.scope=relabel S env) (hN:X.N=ON) (h:wx S ON N k caps scope=true):BlkScope X N k caps scope:=by
 have B:=dO (X:={ X with N:=ON,env:={ X.env with scope:=S } }) h rfl rfl;refine⟨B.kind,B.nocell,B.loc,fun y hy hf=>?_,B.len,fun j i hj=>?_⟩
 ·have q:S.names.lookup y.1=some .cell∨S.names.lookup y.1=some .free:=B.free y hy hf;show X.env.scope.names.lookup y.1=some .cell∨X.env.scope.names.lookup y.1=some .free;rw[hs];rcases cx (env:=env) (x:=y.1) S.names with⟨_,z⟩|⟨a,b,e1,e2,e3⟩
  ·rw[z]at q;rcases q with q|q<;>cases q
  ·have e4:(relabel S env).names.lookup y.1=some b:=e2;rw[e4];rw[e1]at q;rcases e3 with e3|e3
   ·rw[e3];exact q
   ·rw[e3.2];exact .inl rfl
 ·obtain⟨x,h1,h2,h3⟩:=B.cap j i hj;exact⟨x,h1,by rw[hN];exact h2,h3⟩
end VF22
namespace VF22
open PySem PySem.Spec PyProof.Rows L2 VF
section
variable {X:Cx} {K:PySem.W.Frag}
def IB (p:Addr) (Q:VK):List (V×V)->Hp->Prop
 | [(y,v)],H2=>∃b k,H2 p=some (.dT (0,[]) [])/\y=.ref b/\TupK H2 b k/\∀n,Q (.ref p) (upd H2 p (.dT (n,[b]) [(k,v)]))
 | _,_=>False
def xU (tk tv:TE):TE:=fun σ H Q=>∀p,H p=none->tk σ (upd H p (.dT (0,[]) [])) fun y H1=>tv σ H1 fun v H2=>IB p Q [(y,v)] H2
theorem xV {k v:Expr} {tk tv:TE} {pos:Pos} (hu:X.A.units+2<cLine) (hk:PE X k tk) (hv:PE X v tv):PE X (.Dict [some k] [v] pos) (xU tk tv):=by
 intro pins s σ H Q I q;have hn:=I.hok.fresh (Xa s.heap.objs.size);have I1:=I.laid (a:=s.heap.objs.size) (o:=.dT (0,[]) []) (h':=s.heap.push { cls:=.type "dict",data:=.dict #[] }) (t':=s.toks) (fun _ _ q=>Ab _ q) (Xa _) (pZ s.heap I.big);have P:Jd X pos [some k] [v] [(tk,tv)]:=we hk hv zg;refine wpAny_Dict_any rfl rfl (by simp) (by simp) (bM (P pins _ σ _ (IB s.heap.objs.size Q) I1 (q _ hn)) fun ws s2 zz=>?_)
 obtain⟨ps,H2,I2,rel,zz⟩:=zz;cases rel with
 | nil=>exact zz.elim
 | @cons y z _ _ h t =>
  cases t with
  | cons _ _=>exact zz.elim
  | nil =>
   obtain⟨y,v⟩:=y;obtain⟨b,k,e,ey,eb,q2⟩:=zz;cases ey;obtain⟨u,r⟩:=z;cases (show u=Value.ref b from h.1);obtain⟨z,hd,xs,rel,ra0,dd⟩:=Dk I2.hok e;cases rel;have tkp:=I2.tk;unfold storeAll;rw[AU];refine Aa (Aa (wpAny_dictSet_heap (hsz:=by rw[Bb];decide) (show(iy X.prog X.w).room X.A from⟨Xm (Xm hu),Xm hu⟩) (j5 I2.hok eb) dd fun h' dd' hs=>Ac ?_))
   show wpAny _ _ (forIn ([]:List (Value×Value)) PUnit.unit _) _ _ _;rw[B9];refine Ac ?_;obtain⟨q,es,ep',hq,h2,h3,h4,_,h5⟩:=dd';refine⟨.ref s.heap.objs.size,_,?_,rfl,q2 ep'⟩;refine on I2 (by rw[e];exact True.intro) hs ⟨q,hq⟩ ⟨by rw[Bb];simp,hd,_,.cons ⟨rfl,TupK.stay (fun c ys ec=>?_) eb,h.2⟩ .nil,rfl,q,es,hq,h2,h3,h4,h5⟩
   rw[aB (Dc ec e (fun z=>nomatch z))];exact ec
def GB (i:Nat) (d:D):FE:=fun st=>match st[i]? with
 | some (.v (.tup ds))=>(dX ds).bind fun k=>some (.f (.dt [(k,d)]),st)
 | _=>none
theorem vz (i:Nat) (h:∀Y H,DA K Y H c d):cM K (xU (jm i) (tC c)) (GB i d):=by
 intro st σ H O Z Q E r st' e q;unfold GB at e;split at e
 ·rename_i ds e0
  refine bp e fun k e1 e=>?_;cases e;intro p hp;obtain⟨v,h1,da⟩:=E.val i _ e0;cases da with
  | @tup b vs _ g1 g2 g3 =>
   have el:El K (U O Z) H vs ds:=⟨g2,g3⟩;obtain⟨tk,tc⟩:=se g1.1 el e1;refine⟨_,h1,?_⟩;have s1:Same H (upd H p (.dT (0,[]) [])):=aG hp _;refine⟨b,k,aD,rfl,tk.stay (fun c xs ec=>s1 c _ ec),fun n=>?_⟩;have uu:upd (upd H p (.dT (0,[]) [])) p (.dT (n,[b]) [(k,c)])=upd H p (.dT (n,[b]) [(k,c)]):=by
    funext x;unfold upd;split<;>rfl
   rw[uu];have hres:RES K (U O Z) H (upd H p (.dT (n,[b]) [(k,c)])) (.ref p) (.dt [(k,d)],true):=by
    refine⟨p,rfl,hp,(n,[b]),[(k,c)],KA.go (Y:=U O Z) (H:=H) (fun x hx=>?_) (fun x o ex _=>aG hp _ x o ex) (fun x z=>z.elim (fun w=>.inr (w ▸ hp)) .inl),aD,rfl,fun j v' d' a1 a2=>?_⟩
    ·rw[Ye.mp hx];refine⟨⟨g1.2,by rw[g1.1];simp⟩,fun xs e2 c2 hc2=>?_⟩
     rw[g1.1]at e2;cases e2;exact tc c2 hc2
    ·cases j with
     | zero=>cases a1;cases a2;exact h _ _
     | succ j=>simp at a1
   obtain⟨E3,rv⟩:=hres.rv E (aG hp _);exact q _ _ O (Same.ext (aG hp _)) (Kp.refl _) E3 rv fun p' e=>by cases e;exact hp
 ·cases e
theorem key_is {pins:List (Addr×Obj)} {σ:L2.St} {H:Hp} {s:Shared} {b:Addr} {ks:List Key} (I:Inv X pins σ H s) (h:iz X.K H b (ks.map kV)):(tupleKind (aF X.prog X.w)).is s.heap ks b:=by
 obtain⟨its,r,ht,hz⟩:=I.tuple h;obtain⟨o,h1,h2,n,h3⟩:=ht;exact⟨o,its.toArray,n,h1,h2,h3,by simpa using jZ r⟩
abbrev KP (K:PySem.W.Frag):List (List Key×V)->List (List Key×Addr×Value)->Prop:=Paired fun p q=>p.1=q.1/\(∀H:Hp,iz K H q.2.1 (p.1.map kV))/\RelV p.2 q.2.2
theorem GC {kvs:List (List Key×V)} {xs:List (List Key×Addr×Value)} (r:KP K kvs xs) (k:List Key):RelO (gy kvs k) ((atKey xs k).map (·.2)):=by
 induction r with
 | nil=>exact True.intro
 | @cons p q ps qs h t ih =>
  obtain⟨h1,_,h2⟩:=h;by_cases e:p.1=k
  ·have b:atKey (q::qs) k=some q.2:=by simp[atKey,Xh,h1.symm.trans e]
   rw[gz e,b];exact h2
  ·have e':¬ q.1=k:=fun z=>e (h1.trans z);have b:atKey (q::qs) k=atKey qs k:=by simp[atKey,Xh,e']
   rw[gA e,b];exact ih
def CC (P:Program) (w:World) (K:PySem.W.Frag) (mg:Str->Option Value) (x:Str) (rows:List (List Key×D)):Prop :=
 ∃(C:Addr) (o:Obj) (es:Array DictEntry) (n:Nat) (xs:List (List Key×Addr×Value)) (kvs:List (List Key×V)),mg x=some (.ref C)/\(C == sysModules)=false/\K.lookup C=some o/\o.ExactDict/\o.data=.dict es n /\
  es.toList=xs.map (entryOfKey (tupleKind (aF P w)))/\(xs.map (·.1)).Nodup/\KP K kvs xs/\Go (fun v d=>∀(Y:AS) (H:Hp),DA K Y H v d) kvs rows
theorem GD {pins:List (Addr×Obj)} {σ:L2.St} {H:Hp} {s:Shared} (I:Inv X pins σ H s) {l:List (List Key×V)} {m:List (List Key×Addr×Value)} (q:KP X.K l m):∀y∈m,(tupleKind (aF X.prog X.w)).is s.heap y.1 y.2.1:=by
 induction q with
 | nil=>intro y hy;exact nomatch hy
 | @cons a b as bs hq t ih =>
  intro y hy;rcases Xd.mp hy with e|hy
  ·subst e;have:=key_is I (hq.2.1 H);rwa [hq.1]at this
  ·exact ih y hy
def JF (K:PySem.W.Frag) (rows:List (List Key×D)) (ty:TE):TE:=fun σ H Q=>ty σ H fun y H1=>∃(b:Addr) (ks:List Key) (d:D),y=.ref b/\iz K H1 b (ks.map kV)/\bS rows ks=some d/\∀v,(∀(Y:AS) (H':Hp),DA K Y H' v d)->Q v H1
theorem CD {x:Str} {i:Expr} {ty:TE} {rows:List (List Key×D)} {p pos:Pos} (hK:X.K=K) (hg:Gl X x) (hm:CC X.prog X.w K X.mg x rows) (hu:X.A.units+1<cLine) (hi:PE X i ty) (hs:ze i)
  (hd:(x == ("__debug__":Str))=false:=by decide):PE X (.Subscript (.Name x p) i pos) (JF K rows ty):=by
 subst hK;obtain⟨C,o,es,n,xs,kvs,hm,hC,k1,k2,k3,k4,k5,rel,g⟩:=hm;intro pins s σ H Q I h;have ho:PE X (.Name x p) (tC (.ref C)):=y6 hg hm rfl hd;refine sS PySem.F.slot_dict_getitem.lookup hs (bM (ho pins s σ H (fun y H1=>y=.ref C/\JF X.K rows ty σ H1 Q) I ⟨rfl,h⟩) fun u s1 ⟨y,H1,I1,rx,ey,q1⟩=>bM (hi pins s1 σ H1 _ I1 q1) fun iv s2 zz9=>?_);subst ey;obtain rfl:u=Value.ref C:=rx;obtain⟨y,H2,I2,ry,b,ks,d,ey,hb,l,q2⟩:=zz9;subst ey;cases (show iv=Value.ref b from ry);have dd:s2.heap.DictOfH (tupleKind (aF X.prog X.w)) C xs:=⟨o,es,n,I2.kIn _ _ k1,k2,k3,k4,GD I2 rel,k5⟩;refine⟨dd.typeIs,?_⟩;rcases g.look ks with⟨n1,n2⟩|⟨v,d',n1,n2,n3⟩
 ·rw[l]at n2;cases n2
 ·rw[l]at n2;cases n2;have rv:=GC rel ks;rw[n1]at rv;obtain⟨w',hw,rw'⟩:=RelO.some_of rv;obtain⟨p',hp,hp2⟩:=Xc.mp hw;refine wpAny_getItem_heap (tupleKind_room_in1 hu) (key_is I2 hb) dd hp ?_;rw[hp2];exact⟨v,H2,I2.tok _,rw',q2 v n3⟩
def Kh (rows:List (List Key×D)) (fe:FE):FE:=fun st=>(fe st).bind fun x=>(esc x.1 x.2).bind fun y=>match y.1 with
 | .tup ds=>(jC ds).bind fun ks=>(bS rows ks).bind fun d=>some (.d d,y.2)
 | _=>none
theorem IC {rows:List (List Key×D)} {te:TE} {fe:FE} (ha:cM K te fe):cM K (JF K rows te) (Kh rows fe):=by
 intro st σ H O Z Q E r st' h q;refine bT h fun r1 st1 e1 h=>?_;refine bT h fun d1 st2 e2 h=>?_;cases d1 with
 | tup ts =>
  refine bp h fun ks e4 h=>?_;refine bp h fun d e5 h=>?_;cases h;refine ha st σ H O Z _ E r1 st1 e1 fun v H1 O1 x1 k1 E1 rv _=>?_;refine bp e2 fun d2 e6 e2=>?_;refine bp e2 fun st3 e7 e2=>?_;cases e2;obtain⟨O2,x2,k2,E2,da⟩:=rv.frz E1 e7 e6;cases da with
  | tup g1 g2 g3 =>
   have kv:=o3 (ks:=ks) ⟨g2,g3⟩ e4;subst kv;exact⟨_,ks,d,rfl,g1.sq,e5,fun v hv=>q v H1 O2 (x1.trans x2) (k1.trans k2) E2 (hv _ _) True.intro⟩
 | _=>cases h
end
end VF22
namespace VF22
open PySem L2 VF
abbrev iD (l:List Int):List D:=l.map D.int
abbrev iV (l:List Int):List V:=l.map V.int
section
variable {K:PySem.W.Frag} {Y Y' O O' O1 O2 Z:AS} {H H' H1 H2:Hp} {v:V} {d:D} {vs:List V} {ds:List D} {a p:Addr} {st st' st1 st2:En} {σ σ':L2.St}
theorem n4:∀{l:List Int} {vs:List V},El K Y H vs (iD l)->vs=iV l
 | [],vs,h=>h.unnil
 | i::l,vs,h=>by
  obtain⟨v,r,rfl,hd,t⟩:=El.uncons (show El K Y H vs (.int i::iD l) from h);cases hd;rw[n4 t];rfl
theorem qJ:∀(l:List Int),El K Y H (iV l) (iD l)
 | []=>El.nil
 | i::l=>El.cons (.int i) (qJ l)
theorem GE {a b:List Int} (h:iV a=iV b):a=b:=by
 induction a generalizing b with
 | nil=>cases b with|nil=>rfl|cons=>cases h
 | cons x a ih=>cases b with
  | nil=>cases h
  | cons y b =>
   injection h with h1 h2
   injection h1 with h1
   rw[h1,ih h2]
def Nw (hl:List Int) (rs:List D):Prop:=∀x∈rs,∃l:List Int,x=.lst (iD l)/\l≠hl/\l.length<=1000
theorem ID {us:List V} {rs:List D} {hl:List Int} {pf:Addr} (hp:H p=some (.lst (iV hl))) (s:Same H H1) (hn:Nw hl rs) (el:El K (ins pf fun b=>Lv H b/\b≠p) H1 us rs) :
  ∀(k:Nat) u,us[k]?=some u->∃a l,rs[k]?=some (.lst (iD l))/\u=.ref a/\a≠pf/\H a=none/\H1 a=some (.lst (iV l))/\l.length<=1000:=by
 intro k u hu;have hk:k<rs.length:=by rw[← el.1];exact(Vb.mp hu).1
 have hr:=Za hk;obtain⟨l,e,nl,ll⟩:=hn _ (Yj hk);have da:=el.2 k u _ hu hr;rw[e]at hr da;cases da with
 | @lst a ts _ na ha hlen hx =>
  have et:ts=iV l:=n4 ⟨hlen,hx⟩;subst et;refine⟨a,l,hr,rfl,fun z=>na (.inl z),?_,ha,ll⟩;cases e2:H a with
  | none=>rfl
  | some o =>
   exfalso
   have e3:=s a o e2;rw[ha]at e3;cases e3;refine na (.inr ⟨⟨by rw[e2];simp,fun _ z=>by rw[e2]at z;cases z⟩,fun z=>?_⟩)
   rw[z,hp]at e2;injection e2 with e2;injection e2 with e2;exact nl (GE e2).symm
open Classical in
noncomputable def ku (g:List D->Option Rz) (i:Nat):FE:=fun st=>match st[i]? with
 | some (.o (.lst hs))=>match g [.lst hs] with
  | some (.lst rs,true)=>if ∃hl:List Int,hs=iD hl/\Nw hl rs then some (.f (.lst rs),st) else none
  | _=>none
 | _=>none
theorem Ki {g:List D->Option Rz} {hl:List Int} {rs:List D} {Q:VK} {E:XK} (hp:H p=some (.lst (iV hl))) (hg:g [.lst (iD hl)]=some (.lst rs,true)) (hn:Nw hl rs)
  (q:∀pf H1 us,Same H H1->H pf=none->H1 pf=some (.lst us)->us.length=rs.length->(∀(k:Nat) u,us[k]?=some u->∃a l,rs[k]?=some (.lst (iD l))/\u=.ref a/\a≠pf/\H a=none/\H1 a=some (.lst (iV l))/\l.length<=1000)->Q (.ref pf) H1):lB K g [.ref p] H Q E:=by
 refine⟨fun b=>Lv H b/\b≠p,[.lst (iD hl)],(.lst rs,true),El.one (.lst (fun z=>z.2 rfl) hp (by simp) (qJ hl).2),fun b z=>z.1,hg,fun v H1 s hres=>?_⟩
 obtain⟨pf,rfl,hf,us,h1,el⟩:=hres;exact q pf H1 us s hf h1 el.1 (ID hp s hn el)
theorem DU {us:List V} {rs:List D} {pf:Addr} (hlen:us.length=rs.length) (hi:∀(k:Nat) u,us[k]?=some u->∃a l,rs[k]?=some (.lst (iD l))/\u=.ref a/\a≠pf/\H a=none/\H1 a=some (.lst (iV l))/\l.length<=1000) (lv:∀b,Y b->Lv H b):El K (ins pf Y) H1 us rs:=by
 refine⟨hlen,fun k u d h1 h2=>?_⟩;obtain⟨a,l,e1,rfl,e3,e4,e5,_⟩:=hi k u h1;rw[h2]at e1;cases e1;exact .lst (fun z=>z.elim e3 fun z=>(lv a z).1 e4) e5 (by simp) (qJ l).2
theorem qK {g:List D->Option Rz} {i:Nat}:cM K (qb (lB K g) (cr (jm i) jY)) (ku g i):=by
 intro st σ H O Z Q E r st' e q;unfold ku at e;split at e
 ·rename_i hs eh
  split at e
  ·rename_i rs eg
   obtain⟨⟨hl,rfl,hn⟩,e1⟩:=aC e;cases e1;obtain⟨p,g1,g2,ws,g3,g4⟩:=E.own i _ _ eh rfl;obtain rfl:=n4 g4;refine⟨.ref p,g1,Ki (E:=E0) g3 eg hn fun pf H1 us s hf h1 hlen hi=>?_⟩;have hres:RES K (U O Z) H H1 (.ref pf) (.lst rs,true):=⟨pf,rfl,hf,us,h1,DU hlen hi E.liv⟩;obtain⟨E3,rv3⟩:=hres.rv E s;exact q _ H1 O (Same.ext s) (Kp.refl _) E3 rv3 hres.fsh
  ·cases e
 ·cases e
structure Qs (st:En) (i j r:Nat) (hl:List Int):Prop where
 at_i:st[i]?=some (.o (.lst (iD hl)))
 at_j:st[j]?=some .e
 at_r:st[r]?=some .e
 jr:j≠r
 oth:∀(k:Nat) s,st[k]?=some s->s=.e∨(∃d,s=.v d)∨k=i
structure Gd (O:AS) (H:Hp) (p pf:Addr) (hl:List Int) (us:List V) (Z:AS) (H':Hp) (O':AS):Prop where
 ex:Ext O H O' H'
 op:O' p
 hp:H' p=some (.lst (iV hl))
 dis:∀b,O' b->¬ Z b/\H' b≠none/\(b=pf∨V.ref b∈us->False)
 liv:∀b,U O' Z b->Lv H' b
 hf:H' pf=some (.lst us)
 inn:∀(k:Nat) u,us[k]?=some u->∃a l,u=.ref a/\a≠pf/\H a=none/\H' a=some (.lst (iV l))/\l.length<=1000
theorem DV {i j r:Nat} {hl:List Int} {pf:Addr} {us:List V} {Zx:AS} (E:ER K st σ H O Z) (q:Qs st i j r hl) (hpf:H pf=none) (hi:σ[i]?=some (some (.ref p))) (G:Ext O H O' H') (op:O' p) (hp:H' p=some (.lst (iV hl))) (dis:∀b,O' b->¬ Zx b) (liv:∀b,U O' Zx b->Lv H' b)
  (inn:∀b,V.ref b∈us->H b=none) (zx:∀b,Zx b->Z b∨b=pf∨V.ref b∈us) (hlen:σ'.length=σ.length) (hs:∀k,k≠j->k≠r->σ'[k]?=σ[k]?):ER K st σ' H' O' Zx:=by
 have nj:∀(k:Nat) d,st[k]?=some (.v d)->k≠j/\k≠r:=fun k d h=>⟨fun z=>(by subst z;rw[q.at_j]at h;cases h),fun z=>(by subst z;rw[q.at_r]at h;cases h)⟩
 have oi:∀(k:Nat) s d,st[k]?=some s->s.ow=some d->k=i:=fun k s d h1 h2=>by
  rcases q.oth k s h1 with rfl|⟨x,rfl⟩|h
  ·cases h2
  ·cases h2
  ·exact h
 refine⟨E.len.trans hlen.symm,fun k d h=>?_,fun k s d h1 h2=>?_,fun k l s t d d' b h1 h2 h3 h4 _ _=>(oi k s d h1 h2).trans (oi l t d' h3 h4).symm,dis,liv⟩
 ·obtain⟨v,g1,g2⟩:=E.val k d h;obtain⟨n1,n2⟩:=nj k d h;refine⟨v,(hs k n1 n2).trans g1,g2.go (fun b o e n=>G.kp b o e fun z=>n (.inl z)) fun b z=>?_⟩;rcases z with z|z
  ·exact(G.nw b z).elim (fun y=>.inl (.inl y)) .inr
  ·rcases zx b z with y|y|y
   ·exact .inl (.inr y)
   ·exact .inr (by rw[y];exact hpf)
   ·exact .inr (inn b y)
 ·obtain rfl:=oi k s d h1 h2;rw[q.at_i]at h1;cases h1;cases h2;have ij:k≠j:=fun z=>by subst z;have:=q.at_i;rw[q.at_j]at this;cases this
  have ir:k≠r:=fun z=>by subst z;have:=q.at_i;rw[q.at_r]at this;cases this
  exact⟨p,(hs k ij ir).trans hi,op,_,hp,qJ hl⟩
theorem si {us:List V} {b:Addr} (h:V.ref b∈us):∃k:Nat,us[k]?=some (.ref b):=by
 obtain⟨k,hk,e⟩:=Yi.mp h;exact⟨k,by rw[Za hk,e]⟩
open Classical in
noncomputable def qL (g:List D->Option Rz) (m i j r:Nat) (f1 f2:FT):FS:=fun st=>(qc st m).bind fun st=>match st[i]? with
 | some (.o (.lst hs))=>match g [.lst hs] with
  | some (.lst rs,true)=>if (∃hl:List Int,hs=iD hl/\Nw hl rs/\Qs st i j r hl)/\f1 (st.set j (.v (.lst rs)))=some (false,st.set j (.v (.lst rs)))/\(∀l:List Int,l.length<=1000->f2 (st.set r (.v (.lst (iD l))))=some (false,st.set r (.v (.lst (iD l))))) then some (.nx st) else none
  | _=>none
 | _=>none
abbrev vA (K:PySem.W.Frag) (i:Nat):L2.TS:=vU (E8 K "list" wt (jm i))
theorem uf {σ:L2.St} {H:Hp} {i:Nat} {l:Addr} {xs:List V} {D:Ends} (h1:σ[i]?=some (some (.ref l))) (h2:H l=some (.lst xs)) (q:D.nx σ (upd H l (.lst []))):vA K i D σ H :=
 ⟨.ref l,h1,by show G8 K "list" (.ref l) H;exact .inl ⟨rfl,xs,.inl (.inl h2)⟩,l,xs,rfl,rfl,h2,q⟩
theorem CF {g:List D->Option Rz} {m i j r:Nat} {c1 c2:TT} {f1 f2:FT} {t1 t2 u:L2.TS} {G:FS} (h1:oD K c1 f1) (h2:oD K c2 f2) (hu:m6 K u G) :
  m6 K (lO (uL (qb (lB K g) (cr (jm i) jY)) (kG j)) (lO (rA c1 t1 lN) (lO (y9 (lQ K (jm j)) (kG r) (lO (rA c2 t2 lN) (vA K r))) (lO (vA K j) u)))) (aL (qL g m i j r f1 f2) G):=by
 intro st0 σ H O0 Z Dn Eo o e0 q0;refine bp e0 fun o1 e1 e0=>?_;unfold qL at e1;refine bp e1 fun st ef e1=>?_;obtain⟨O,xf,E,_⟩:=Eo.frz ef;have kf:=(tD ef).1;split at e1
 ·rename_i hs eh
  split at e1
  ·rename_i rs eg
   obtain⟨⟨⟨hl,rfl,hn,qs⟩,z1,z2⟩,e2⟩:=aC e1;cases e2;obtain⟨p,g1,g2,ws,g3,g4⟩:=E.own i _ _ eh rfl;obtain rfl:=n4 g4;have ij:i≠j:=fun z=>by rw[z,qs.at_j]at eh;cases eh
   have ir:i≠r:=fun z=>by rw[z,qs.at_r]at eh;cases eh
   have lj:j<σ.length:=by rw[← E.len];exact(Vb.mp qs.at_j).1
   have lr:r<σ.length:=by rw[← E.len];exact(Vb.mp qs.at_r).1
   refine⟨.ref p,g1,Ki (E:=E0) g3 eg hn fun pf H1 us s hf hf1 hlen hi=>?_⟩;have inN:∀b,V.ref b∈us->H b=none:=fun b hb=>by
    obtain⟨k,hk⟩:=si hb;obtain⟨a,l,_,w2,_,w4,_⟩:=hi k _ hk;cases w2;exact w4
   have nO:∀b,U O Z b->H b≠none:=fun b z=>(E.liv b z).1;have E1:ER K (st.set j (.v (.lst rs))) (σ.set j (some (.ref pf))) H1 O Z:=(E.same s).asg qs.at_j (.lst (fun z=>nO _ z hf) hf1 hlen (El.less (DU hlen hi E.liv) fun b z=>.inr z).2);show lO (rA c1 t1 lN) _ Dn (σ.set j (some (.ref pf))) H1;refine h1 _ _ H1 O Z _ E1 false _ z1 fun H2 O2 x2 k2 E2=>?_;have G2:Gd O H p pf hl us Z H2 O2:=by
    obtain⟨p',a1,a2,ws,a3,a4⟩:=E2.own i (.o (.lst (iD hl))) _ (by rw[aj (Ne.symm ij)];exact eh) rfl
    rw[aj (Ne.symm ij),g1]at a1;cases a1;obtain rfl:=n4 a4;refine⟨(Same.ext s).trans x2,a2,a3,fun b z=>⟨E2.dis b z,(E2.liv b (.inl z)).1,fun y=>?_⟩,E2.liv,x2.kp pf _ hf1 fun z=>nO _ (.inl z) hf,fun k u hk=>?_⟩
    ·have dead:H b=none:=y.elim (fun y=>by rw[y];exact hf) (inN b)
     rcases x2.nw b z with w|w
     ·exact nO b (.inl w) dead
     ·rcases y with y|y
      ·rw[y,hf1]at w;cases w
      ·obtain⟨k,hk⟩:=si y;obtain⟨a,l,_,w2,_,_,w5,_⟩:=hi k _ hk;cases w2;rw[w5]at w;cases w
    ·obtain⟨a,l,_,w2,w3,w4,w5,w6⟩:=hi k u hk;exact⟨a,l,w2,w3,w4,x2.kp a _ w5 fun z=>nO _ (.inl z) w4,w6⟩
   have gj:(σ.set j (some (V.ref pf)))[j]?=some (some (.ref pf)):=Qk lj;show y9 (lQ K (jm j)) (kG r) (lO (rA c2 t2 lN) (vA K r)) { Dn with nx:=lO (vA K j) u Dn } (σ.set j (some (.ref pf))) H2;refine⟨.ref pf,gj,pf,rfl,⟨us,.inl (.inl G2.hf)⟩,fun k mm σ' H'=>mm+k=us.length+1/\(σ'.length=σ.length/\(∀k,k≠j->k≠r->σ'[k]?=σ[k]?)/\σ'[j]?=some (some (.ref pf)))/\∃O',Gd O H p pf hl us Z H' O',⟨us.length+1,rfl,⟨by simp,fun k n1 n2=>aj (Ne.symm n1),gj⟩,O2,G2⟩,?_⟩
   rintro k mm σ' H' ⟨hm,⟨s1,s2,s3⟩,O',G'⟩;have sq:eY K H' pf us:=.inl (.inl G'.hf);have ppf:p≠pf:=fun z=>by rw[z,hf]at g3;cases g3
   have wl:∀b,b=pf∨V.ref b∈us->Lv H' b:=fun b y=>by
    rcases y with y|y
    ·rw[y];exact⟨by rw[G'.hf];simp,fun _ w=>by rw[G'.hf]at w;cases w⟩
    ·obtain⟨k,hk⟩:=si y;obtain⟨a,l,w2,_,_,w5,_⟩:=G'.inn k _ hk;cases w2;exact⟨by rw[w5];simp,fun _ w=>by rw[w5]at w;cases w⟩
   by_cases hk:k<us.length
   ·have ek:=Za hk;obtain⟨a,l,ea,na,da,ha,hll⟩:=G'.inn k _ ek;rw[ea]at ek;have am:V.ref a∈us:=Xb ek;refine .inr ⟨⟨us,_,sq,ek⟩,fun σ3 H3=>(σ3.length=σ.length/\(∀k,k≠j->k≠r->σ3[k]?=σ[k]?)/\σ3[j]?=some (some (.ref pf)))/\∃O3,Gd O H p pf hl us Z H3 O3,fun σ3 H3 h3=>⟨mm-1,by lia,by lia,h3.1,h3.2⟩,fun y H'' hy=>?_⟩
    obtain⟨rfl,hy⟩:=hy;have ey:=hy us sq;rw[ek]at ey;cases ey;have nz:∀b,Z b->b≠pf/\V.ref b∉us:=fun b z=>⟨fun w=>nO b (.inr z) (by rw[w];exact hf),fun w=>nO b (.inr z) (inN b w)⟩
    have Er:=DV (Zx:=fun b=>(Z b∨b=pf∨V.ref b∈us)/\b≠a) (us:=us) E qs hf g1 G'.ex G'.op G'.hp (fun b z w=>w.1.elim (G'.dis b z).1 (G'.dis b z).2.2) (fun b z=>z.elim (fun z=>G'.liv b (.inl z)) fun z=>z.1.elim (fun z=>G'.liv b (.inr z)) (wl b)) inN (fun b z=>z.1) s1 s2;have Es:=Er.asg (d:=.lst (iD l)) (v:=.ref a) qs.at_r (.lst (fun z=>z.elim (fun z=>(G'.dis a z).2.2 (.inr am)) fun z=>z.2 rfl) ha (by simp) (qJ l).2)
    show lO (rA c2 t2 lN) (vA K r) _ (σ'.set r (some (.ref a))) H'';refine h2 _ _ H'' O' _ _ Es false _ (z2 l hll) fun H3 O3 x3 k3 E3=>?_;have keep:∀b o,H'' b=some o->b=pf∨V.ref b∈us->H3 b=some o:=fun b o w1 w2=>x3.kp b o w1 fun z=>(G'.dis b z).2.2 w2;have ha3:=keep a _ ha (.inr am);refine uf (Qk (by rw[s1];exact lr)) ha3 ⟨⟨by simp[s1],fun k n1 n2=>(aj (Ne.symm n2)).trans (s2 k n1 n2),(aj (Ne.symm qs.jr)).trans s3⟩,O3,?_⟩
    obtain⟨p',a1,a2,ws,a3,a4⟩:=E3.own i (.o (.lst (iD hl))) _ (by rw[aj (Ne.symm ir)];exact eh) rfl
    rw[aj (Ne.symm ir),s2 i ij ir,g1]at a1;cases a1;obtain rfl:=n4 a4;have pa:p≠a:=fun z=>by rw[z,da]at g3;cases g3
    have x4:=G'.ex.trans x3;have no3:∀b,O3 b->(b=pf∨V.ref b∈us->False):=fun b z w=>by
     rcases x3.nw b z with y|y
     ·exact(G'.dis b y).2.2 w
     ·exact(wl b w).1 y
    have lu:∀b,Lv H3 b->Lv (upd H3 a (.lst [])) b:=fun b z=>by
     by_cases y:b=a
     ·rw[y];exact⟨by rw[aD];simp,fun _ w=>by rw[aD]at w;cases w⟩
     ·exact⟨by rw[aB y];exact z.1,fun vs w=>z.2 vs (by rw[aB y]at w;exact w)⟩
    refine⟨⟨fun b o w1 w2=>by rw[aB (fun y=>by rw[y,da]at w1;cases w1)];exact x4.kp b o w1 w2,x4.nw,fun b w=>by rw[aB (fun y=>w (by rw[y];exact da))];exact x4.al b w,fun b w=>lu b (x4.lv b w)⟩,a2,by rw[aB pa];exact a3,fun b z=>⟨fun w=>E3.dis b z ⟨.inl w,fun y=>no3 b z (.inr (by rw[y];exact am))⟩,by rw[aB (fun y=>no3 b z (.inr (by rw[y];exact am)))];exact(E3.liv b (.inl z)).1,no3 b z⟩,fun b z=>lu b ?_,by rw[aB (Ne.symm na)];exact keep pf _ G'.hf (.inl rfl),fun k' u' hk'=>?_⟩
    ·rcases z with z|z
     ·exact E3.liv b (.inl z)
     ·exact E3.liv b (.inr ⟨.inl z,fun y=>(nz b z).2 (by rw[y];exact am)⟩)
    ·obtain⟨b,l',w2,w3,w4,w5,w6⟩:=G'.inn k' u' hk';by_cases y:b=a
     ·exact⟨b,[],w2,w3,w4,by rw[y,aD];rfl,Wh _⟩
     ·exact⟨b,l',w2,w3,w4,by rw[aB y];exact keep b _ w5 (.inr (by rw[← w2];exact Xb hk')),w6⟩
   ·refine .inl ⟨⟨us,sq,by lia⟩,?_⟩
    refine uf (D:={ Dn with nx:=u Dn }) s3 G'.hf ?_;show u Dn σ' (upd H' pf (.lst []));have lu:∀b,Lv H' b->Lv (upd H' pf (.lst [])) b:=fun b z=>by
     by_cases y:b=pf
     ·rw[y];exact⟨by rw[aD];simp,fun _ w=>by rw[aD]at w;cases w⟩
     ·exact⟨by rw[aB y];exact z.1,fun vs w=>z.2 vs (by rw[aB y]at w;exact w)⟩
    have x4:=G'.ex;have x5:Ext O H O' (upd H' pf (.lst [])):=⟨fun b o w1 w2=>by rw[aB (fun y=>by rw[y,hf]at w1;cases w1)];exact x4.kp b o w1 w2,x4.nw,fun b w=>by rw[aB (fun y=>w (by rw[y];exact hf))];exact x4.al b w,fun b w=>lu b (x4.lv b w)⟩
    have E4:ER K st σ' (upd H' pf (.lst [])) O' Z:=DV (us:=us) E qs hf g1 x5 G'.op (by rw[aB ppf];exact G'.hp) (fun b z=>(G'.dis b z).1) (fun b z=>lu b (G'.liv b z)) inN (fun b z=>.inl z) s1 s2
    refine hu st σ' _ O' Z Dn E4 o e0 (q0.trans (xf.trans x5) (kf.kq.trans ⟨rfl,fun k d h=>?_⟩));rcases qs.oth k _ h with w|⟨x,w⟩|w
    ·cases w
    ·cases w
    ·rw[w,qs.at_i]at h;cases h
  ·cases e1
 ·cases e1
end
end VF22
namespace VF22
open PySem PySem.Spec PyProof.Rows L2 VF
def CG (i j:Int):Int:=PySem.reduceHash (PySem.Builtin.Tuple.tupleHashOf [PySem.hashInt i,PySem.hashInt j])
theorem ktab_mk4 {P:Program} {w:World} {K:PySem.W.Frag} {mg:Str->Option Value} {x:Str} {C a1 a2 a3 a4:Addr} {n m1 m2 m3 m4:Nat} {i1 j1 h1 i2 j2 h2 i3 j3 h3 i4 j4 h4:Int} {s1 s2 s3 s4:Str} {t1 u1 v1 t2 u2 v2 t3 u3 v3 t4 u4 v4:Tok}
  (hm:mg x=some (.ref C)) (hl:K.lookup C=some ⟨.type "dict",none,.dict #[⟨h1,.ref a1,.str s1 t1⟩,⟨h2,.ref a2,.str s2 t2⟩,⟨h3,.ref a3,.str s3 t3⟩,⟨h4,.ref a4,.str s4 t4⟩] n,#[]⟩) (hC:(C == sysModules)=false)
  (l1:K.lookup a1=some ⟨.type "tuple",none,.seq #[.int i1 u1,.int j1 v1] m1,#[]⟩) (e1:h1=CG i1 j1) (l2:K.lookup a2=some ⟨.type "tuple",none,.seq #[.int i2 u2,.int j2 v2] m2,#[]⟩) (e2:h2=CG i2 j2) (l3:K.lookup a3=some ⟨.type "tuple",none,.seq #[.int i3 u3,.int j3 v3] m3,#[]⟩) (e3:h3=CG i3 j3) (l4:K.lookup a4=some ⟨.type "tuple",none,.seq #[.int i4 u4,.int j4 v4] m4,#[]⟩) (e4:h4=CG i4 j4) (nd:([[.inl i1,.inl j1],[.inl i2,.inl j2],[.inl i3,.inl j3],[.inl i4,.inl j4]]:List (List Key)).Nodup:=by decide):CC P w K mg x [([.inl i1,.inl j1],.str s1),([.inl i2,.inl j2],.str s2),([.inl i3,.inl j3],.str s3),([.inl i4,.inl j4],.str s4)]:=by
 have st:∀(a:Addr) (i j:Int) (u v:Tok) (m:Nat),K.lookup a=some ⟨.type "tuple",none,.seq #[.int i u,.int j v] m,#[]⟩->∀H:Hp,iz K H a (([.inl i,.inl j]:List Key).map kV):=fun a i j u v m l H =>
  .inr ⟨_,_,m,l,rfl,rfl,by show 2<=sizeLine;decide,.cons ⟨u,rfl⟩ (.cons ⟨v,rfl⟩ .nil)⟩
 refine⟨C,_,_,n,[([.inl i1,.inl j1],a1,.str s1 t1),([.inl i2,.inl j2],a2,.str s2 t2),([.inl i3,.inl j3],a3,.str s3 t3),([.inl i4,.inl j4],a4,.str s4 t4)],[([.inl i1,.inl j1],.str s1),([.inl i2,.inl j2],.str s2),([.inl i3,.inl j3],.str s3),([.inl i4,.inl j4],.str s4)],hm,hC,hl,⟨rfl,rfl,rfl⟩,rfl,?_,nd,.cons ⟨rfl,st a1 i1 j1 u1 v1 m1 l1,t1,rfl⟩ (.cons ⟨rfl,st a2 i2 j2 u2 v2 m2 l2,t2,rfl⟩ (.cons ⟨rfl,st a3 i3 j3 u3 v3 m3 l3,t3,rfl⟩ (.cons ⟨rfl,st a4 i4 j4 u4 v4 m4 l4,t4,rfl⟩ (.nil)))),Go.cons rfl (fun _ _=>.str _) (Go.cons rfl (fun _ _=>.str _) (Go.cons rfl (fun _ _=>.str _) (Go.cons rfl (fun _ _=>.str _) ( Go.nil))))⟩;subst e1 e2 e3 e4;rfl
end VF22
namespace K40
open PySem L2 VF VF22
def sj:List (List Key×D):=[([.inl 0,.inl 0],.str "ring"),([.inl 1,.inl 1],.str "odd"),([.inl 2,.inl 0],.str "ours"),([.inl 0,.inl 2],.str "theirs")]
end K40
namespace VF22
open PySem L2 VF
theorem sk {X:Cx} {e:Expr} {t:TE} (h:DR X e t):PE X e t:=by
 unfold DR at h;exact h
theorem CH {X:Cx} {i0:Int} {j0:_} {p0:Pos} {i1:Int} {j1:_} {p1:Pos} {i2:Int} {j2:_} {p2:Pos} {i3:Int} {j3:_} {p3:Pos} {pos:Pos}:DR X (.List [.Constant (.int i0) j0 p0,.Constant (.int i1) j1 p1,.Constant (.int i2) j2 p2,.Constant (.int i3) j3 p3] pos) (v7 (cr (tC (.int i0)) (cr (tC (.int i1)) (cr (tC (.int i2)) (cr (tC (.int i3)) jY))))):=o9 (iB ah (iB ah (iB ah (iB ah o8 rfl) rfl) rfl) rfl)
end VF22
namespace K40
open PySem L2 VF VF22
noncomputable section
abbrev az:FE:=aP 0
abbrev aV:FE:=aP 1
abbrev aT:FE:=aP 2
abbrev bL:FE:=aP 3
abbrev eR:FE:=aP 4
abbrev cT:FE:=aP 5
abbrev gP:FE:=aP 6
abbrev kw:FE:=aP 7
abbrev ph:FE:=aP 8
abbrev GF:FE:=aP 9
abbrev aX:FE:=fC (.int 0)
abbrev aK:FE:=fC (.int 1)
abbrev jF:FE:=fC (.int 2)
abbrev lH:FE:=fC (.int 3)
abbrev uk:FE:=fC (.int 4)
abbrev ul:FE:=fC (.int 5)
abbrev CJ:FE:=fC (.int 6)
abbrev CK:FE:=fC (.int 9)
abbrev xW:FE:=fC (.int 10)
abbrev mw:FE:=fC (.int 16)
abbrev xX:FE:=fC (.int 18)
abbrev xY:FE:=fC (.int 31)
abbrev xZ:FE:=fC (.int 40)
abbrev vB:FE:=fC (.int 127)
abbrev mx:FE:=fC (.int 7919)
abbrev qM:FE:=fC (.int 16807)
abbrev qN:FE:=fC (.int 30103)
abbrev qO:FE:=fC (.int 40692)
abbrev kJ:FE:=fC (.int 48271)
abbrev m8:FE:=fC (.int 1000003)
abbrev kx:FE:=fC (.int 2147483563)
abbrev cU:FE:=fC (.int 2147483629)
abbrev fF:FE:=fC (.int 2147483646)
abbrev ky:FE:=fC (.int 2147483647)
def my:FS :=
  (cI (b8 lD (ad (b8 b7 (ad az aq)) aq)))
def je:List D->Option Rz:=bF my 1 1
def iC:FS :=
  (iY fD aT 1 bL)
def iE:FS :=
  (gH (nP aT) (gN 3) iC)
def kK:FS :=
  (aL (bm (nX (.dt [])) 1)
  (aL (gH (nP az) (gN 2) iE)
  (cI aV)))
def eF:List D->Option Rz:=bF kK 4 1
def gQ:FT :=
  (bc (aH DF (b8 cC (ad az aq)) aK))
def gR:FE :=
  az
def jG:FS :=
  (cI (b8 cC (ad (dS 1 [] (Ix az) (gN 0) gQ gR) aq)))
def bX:List D->Option Rz:=bF jG 1 1
def gS:FE :=
  (aH gr aV az)
def gU:FE :=
  (aH gr aV az)
def dY:FS :=
  (kW (bc (aH (z9 true) ph bL)) (aL (iY fD (fC (.bl true)) 3 ph)
  (fu (fM qo cW 5 (ad ph aq)))) dC)
def dZ:FS :=
  (aL (iY fD (fC (.bl true)) 4 kw)
  (gH (nP (dS 1 [1] (nP kw) (gN 0) fO gU)) (gN 8) dY))
def cG:FS :=
  (aL (bm (Jg qo FR 5) 6)
  (gH (nP (dS 1 [2] (nP gP) (gN 0) fO gS)) (gN 7) dZ))
def jH:FS :=
  (aL (bm (GB 0 (.bl true)) 3)
  (aL (bm (nX (.dt [])) 4)
  (aL (bm (eM (ad az aq)) 5)
  (aL (vM (pe cT) cG 1000)
  (aL (bm (Kh sj (gG (ad (dQ bX (ad bL aq)) (ad (dQ bX (ad eR aq)) aq)))) 9)
  (cI (gG (ad GF (ad (b8 lD (ad (b8 kr (ad bL aq)) aq)) (ad (b8 lD (ad (b8 kr (ad eR aq)) aq)) aq))))))))))
def f8:List D->Option Rz:=bF jH 10 3
def f9:FS :=
  (iY fD (fC (.bl true)) 5 ph)
def ga:FS :=
  (kW (bc (aH (z9 true) gP cT)) (aL (bm (cJ f8 (ad gP (ad aT (ad bL aq)))) 7)
  (aL (fu (fM qo cW 4 (ad kw aq)))
  (gH (nP (aH dE kw aK)) (gN 8) f9))) dC)
def mz:FS :=
  (aL (bm (cJ eF (ad az aq)) 2)
  (aL (bm (cJ eF (ad aV aq)) 3)
  (aL (bm (eM aq) 4)
  (aL (bm (nX (.dt [])) 5)
  (aL (gH (nP az) (gN 6) ga)
  (cI (b8 b7 (ad eR aq))))))))
def jf:List D->Option Rz:=bF mz 9 2
def iF:FS :=
  (cI (gG (ad (b8 (b1 kY) (ad az aq)) (ad (Fo (bc (aH zH az aX)) aX aK) aq))))
def eS:List D->Option Rz:=bF iF 1 1
def gW:FS :=
  (cI (gG (ad (b8 (b1 kY) (ad az aq)) (ad (Fo (bc (aH zH az aX)) aK aX) aq))))
def d6:List D->Option Rz:=bF gW 1 1
def fG:FE :=
  (cJ je (ad (gG (ad (cJ d6 (ad az aq)) (ad (cJ eS (ad aV aq)) aq))) aq))
def gX:FS :=
  (cI (dS 2 [] (J2 (ad az (ad (Hd He az (nM aK) Ji) aq))) (gT 2 (rS (gN 0) (rS (gN 1) Du))) fO fG))
def bU:List D->Option Rz:=bF gX 1 1
def gt:FS :=
  (iY fD eR 3 cT)
def gu:FE :=
  (aH gr aV az)
def dq:FE :=
  (b8 b7 (ad (dS 1 [1] (nP (aH dE az aK)) (gN 0) fO gu) aq))
def iG:FS :=
  (aL (bm (cJ bU (ad az aq)) 1)
  (aL (bm (cJ bU (ad (fLR1 (ad (b8 cC (ad az aq)) aq)) aq)) 2)
  (aL (bm (nX (.dt [])) 3)
  (aL (gH (xR (ad aV aq)) (gT 2 (rS (gN 4) (rS (gN 5) Du))) gt)
  (cI (b8 b7 (ad (dS 1 [3] (nP (cJ jf (ad aV (ad aT aq)))) (gN 0) fO dq) aq)))))))
def bo:List D->Option Rz:=bF iG 6 1
def mB:FS :=
  (aL (bm (aH b9 (aH dG mx aV) m8) 2)
  (aL (kW (bc (aH FC aV (b8 cC (ad az aq)))) (bm (aH dE az aV) 2) (kW (bc (aH Hb (b8 cC (ad az aq)) aX)) (bm (aH b9 (aH dG (aH fS (aH dE az (aH fS aV (b8 cC (ad az aq)))) cU) xY) (aH dG mx aV)) 2) dC))
  (aL (bm aX 3)
  (aL (kW (bc (aH zH aT (aH Fw xW xX))) (bm aT 3) dC)
  (cI (eM (ad bL (ad (aH b9 (aH fS (aH b9 (aH dG (aH fS aT cU) kJ) (aH dG qO aV)) fF) aK) aq))))))))
def jg:List D->Option Rz:=bF mB 4 2
def mC:FS :=
  (aL (kW (bc (aH Hb (aH dE az aX) aX)) (aL (bm (aH fS (aH dE az aX) aV) 2)
  (aL (iY qp (aH zG (aH dE az aX) aV) 0 aX)
  (cI aT))) dC)
  (aL (bm (aH fS (aH dG (aH dE az aK) qM) ky) 3)
  (aL (iY qp (aH b9 (aH fS (aH b9 (aH dG bL kJ) qN) fF) aK) 0 aK)
  (cI (aH fS (aH b9 (aH dG (aH fS (aH dG bL bL) cU) kx) (aH zG (aH dE az aK) vB)) aV)))))
def bn:D->List D->Option (Rz×D):=dU mC 4 2
def iH:FS :=
  (aL (kW (bc (aH FC az aX)) (cI (aH fR az aV)) dC)
  (cI (aH b9 az aV)))
def cb:List D->Option Rz:=bF iH 2 2
def gY:FE :=
  (dQ cb (ad az (ad aV aq)))
def gZ:FE :=
  (aH fR aX (dQ cb (ad az (ad (aH fR aX aV) aq))))
def d7:FS :=
  (kW (bc (aH Hb (b8 (b1 kY) (ad cT aq)) (b8 (b1 kY) (ad bL aq)))) (fu (fM qo cW 4 (ad (dQ cb (ad cT (ad (aH dE aT (JW HR aK)) aq))) aq))) (kW (bc (aH FX cT bL)) (fu (fM qo cW 4 (ad cT aq))) (kW (bc (aH zH bL aX)) (fu (fM qo jw 4 (ad (dS 1 [3] (nP aT) (gN 0) fO gY) aq))) (fu (fM qo jw 4 (ad (dS 1 [3] (fIRvL aT) (gN 0) fO gZ) aq))))))
def jI:FS :=
  (aL (bm (aH dE az aV) 3)
  (aL (bm (eM aq) 4)
  (aL (gH (nP az) (gN 5) d7)
  (cI eR))))
def dI:List D->Option Rz:=bF jI 6 3
def eU:FS :=
  (fu (fM qo cW 5 (ad (aH dG (fM qo oM 3 (ad (pK bn 0 (ad (b8 cC (ad bL aq)) aq)) aq)) (aH dE eR (pK bn 0 (ad jF aq)))) aq)))
def kL:FS :=
  (aL (bm (aH b9 aK (pK bn 0 (ad aV aq))) 2)
  (aL (bm (fLR2 (ad aK (ad (aH b9 aT aK) aq))) 3)
  (aL (bm (eM (ad aK (ad (aH fR aK (aH dG jF (b8 (b1 qt) (ad (aH DF (pK bn 0 (ad lH aq)) aX) aq)))) aq))) 4)
  (aL (bm (eM (ad aX aq)) 5)
  (aL (gH (m5 (ad aT aq)) (gN 6) eU)
  (cI (aH b9 cT (eM (ad (aH b9 aT aK) aq)))))))))
def de:D->List D->Option (Rz×D):=dU kL 7 2
def dr:FS :=
  (aL (bm (aH fR (aH b9 aV jF) (b8 cC (ad aT aq))) 4)
  (aL (bm (pK de 0 (ad (aH dE (eM (ad jF (ad uk (ad aV aq)))) (pK bn 0 (ad lH aq))) aq)) 5)
  (aL (bm (pK bn 0 (ad (b8 cC (ad aT aq)) aq)) 6)
  (kW (bc (aH Jy (aH fR (b8 cC (ad cT aq)) aK) eR)) (bm (cJ dI (ad aT (ad gP (ad cT aq)))) 2) dC))))
def iI:FS :=
  (aL (bm (eM (ad aX (ad aK aq))) 2)
  (aL (kW (bc (aH DF (pK bn 0 (ad lH aq)) aX)) (bm (pK de 0 (ad (b8 (b2 F6) (ad aV (ad CJ aq))) aq)) 2) dC)
  (aL (gH (m5 (ad (aH b9 aK (pK bn 0 (ad ul aq))) aq)) (gN 3) dr)
  (cI aT))))
def eV:D->List D->Option (Rz×D):=dU iI 7 2
def eW:FS :=
  (aL (iY fD aT 1 (gG (ad (b8 (b1 kY) (ad (aH dE az aT) aq)) (ad (b8 (b1 qt) (ad (aH zH (aH dE az aT) aX) aq)) aq))))
  (iY fD aT 1 (gG (ad (b8 (b1 kY) (ad (aH dE az (aH b9 aT aK)) aq)) (ad (b8 (b1 qt) (ad (aH FC (aH dE az (aH b9 aT aK)) aX) aq)) aq)))))
def iJ:FT :=
  (nI (bc (aH qw (aH gr aV az) aT)) (bc (aH ix az bL)))
def iK:FE :=
  az
def cY:FS :=
  (aL (fu (fM qo cW 5 (ad kw aq)))
  (aL (bm (gG (ad (aH fR (aH b9 (aH dE gP aX) (aH dG jF (aH dE gP aK))) aK) (ad (aH fR aK (aH dE gP aK)) aq))) 6)
  (aL (bm (aH gr aV gP) 7)
  (bm (aH dE (dS 1 [1,7,6] (Ix aV) (gN 0) iJ iK) aX) 6))))
def eX:FS :=
  (kW (bc (aH fV aT eR)) (aL (bm (eM aq) 5)
  (aL (bm (gG (ad (b8 (b1 kY) (ad (aH dE az aT) aq)) (ad (b8 (b1 qt) (ad (aH zH (aH dE az aT) aX) aq)) aq))) 6)
  (aL (bm aT 7)
  (aL (vM (bc (aH fV kw cT)) cY 1000)
  (aL (fu (fM qo jw 4 (ad cT aq)))
  (fu (fM qo cW 3 (ad (b8 b7 (ad cT aq)) aq)))))))) dC)
def kM:FS :=
  (aL (bm (nX (.dt [])) 1)
  (aL (gH (m5 (ad (aH fR (b8 cC (ad az aq)) aK) aq)) (gN 2) eW)
  (aL (bm (eM aq) 3)
  (aL (bm (eM aq) 4)
  (aL (gH (m5 (ad (aH fR (b8 cC (ad az aq)) aK) aq)) (gN 2) eX)
  (cI (b8 b7 (ad bL aq))))))))
def g9:List D->Option Rz:=bF kM 8 1
def jJ:FS :=
  (iY qp (aH dE (eM (ad aT (ad (aH fR aX aT) aq))) (b8 (b1 qt) (ad (aH FC bL aX) aq))) 1 (b8 (b1 kY) (ad bL aq)))
def mD:FS :=
  (aL (bm (b8 rZ (ad az aq)) 1)
  (aL (gH (xR (ad az aq)) (gT 2 (rS (gN 2) (rS (gN 3) Du))) jJ)
  (cI aV)))
def jh:List D->Option Rz:=bF mD 4 1
def iL:FE :=
  (eM (ad az aq))
def iM:FE :=
  (tG (b8 jv (ad az (ad (fC (.ty "int")) aq))) (Ds (b8 jv (ad az (ad (fC (.ty "bool")) aq)))))
def m9:FT :=
  (rR (lY (bc (b8 jv (ad bL (ad (fC (.ty "list")) aq))))) (rR (bc (aH ix bL aT)) (bc (aH ix aV az))))
def iN:FT :=
  (rR (lY (bc (b8 jv (ad eR (ad (fC (.ty "list")) aq))))) (lY (bc (b8 FP (ad (dS 1 [] (nP eR) (gN 0) fO iM) aq)))))
def kN:FS :=
  (aL (bm (b8 rZ (ad az aq)) 1)
  (aL (bm (cJ g9 (ad az aq)) 2)
  (aL (qL bo 2 1 3 4 m9 iN)
  (aL (kW (rR (bc (aH ix (ku bo 1) aT)) (bc (aH ix (b8 cC (ad (cJ bo (ad (cJ jh (ad az aq)) aq)) aq)) (b8 cC (ad aT aq))))) (cI (fC (.bl false))) dC)
  (aL (sSlc (fLR1 (ad (b8 cC (ad az aq)) aq)) 1)
  (cI (aH qw (ku bo 1) (dS 1 [] (m5 (ad (aH fR (b8 cC (ad az aq)) aK) aq)) (gN 0) fO iL))))))))
def hJ:List D->Option Rz:=bF kN 5 1
def um:FS :=
  (aL (bm (cJ jg (ad az (ad aV aq))) 2)
  (kW (lY (bc (dQ hJ (ad (pK eV 2 (ad (aH dE (eM (ad (aH dE (eM (ad mw (ad mw (ad mw (ad xZ aq))))) (pK bn 2 (ad uk aq))) (ad CK (ad ul aq)))) aV) aq)) aq)))) (cI (fC (.bl false))) dC))
def DW:FS :=
  (aL (gH (m5 (ad lH aq)) (gN 1) um)
  (cI (fC (.bl true))))
def IE:List D->Option Rz:=bF DW 3 1
end
end K40
namespace K40
open PySem L2 VF VF22
def top (i:Nat):Stmt:=PySem.Challenge.pw_strandwright_k40_rings_of_points.main.body.getD i (.Pass ⟨0,0,0,0⟩)
abbrev mE:Stmt:=top 1
abbrev kz:Stmt:=top 4
abbrev gc:Stmt:=top 5
abbrev d8:Stmt:=top 6
abbrev mF:Stmt:=top 7
abbrev hU:Stmt:=top 9
abbrev gd:Stmt:=top 10
abbrev dJ:Stmt:=top 11
abbrev eG:Stmt:=top 12
abbrev sn:Stmt:=top 14
abbrev sr:Stmt:=top 15
abbrev kA:Stmt:=top 16
abbrev jK:Stmt:=top 17
abbrev pi:Stmt:=top 18
abbrev kB:Stmt:=top 19
abbrev lI:Stmt:=top 20
abbrev ss:Stmt:=top 21
abbrev jL:Stmt:=top 22
abbrev GG:Stmt:=top 23
theorem qP:FnScope ["ends"] ["ends"] (ay mE):=pb (by decide +kernel)
theorem sc_sjointsat:FnScope ["joints","at","joint","end"] ["joints"] (ay kz):=pb (by decide +kernel)
theorem nc:FnScope ["joints"] ["joints"] (ay gc):=pb (by decide +kernel)
theorem sc_spartround:FnScope ["first","ours_at","theirs_at","ours","theirs","todo","joint","their","our","kind"] ["first","ours_at","theirs_at"] (ay d8):=pb (by decide +kernel)
theorem sc_spartsof:FnScope ["ours","theirs","ours_at","theirs_at","parts","seen","joint","part","our"] ["ours","theirs"] (ay mF):=pb (by decide +kernel)
theorem mG:FnScope ["number"] ["number"] (ay hU):=pb (by decide +kernel)
theorem ld:FnScope ["number"] ["number"] (ay gd):=pb (by decide +kernel)
theorem lf:FnScope ["numbers"] ["numbers"] (ay dJ):=pb (by decide +kernel)
theorem sc_spointrings:FnScope ["numbers","ours","theirs","point_of","point","joint"] ["numbers"] (ay eG):=pb (by decide +kernel)
theorem sc_sLdeal:FnScope ["_law_script","_law_at","_law_cell","_law_own"] ["_law_script","_law_at"] (ay sn):=pb (by decide +kernel)
theorem sc_sLdraw:FnScope ["_law_deal_here","_law_many","_law_digit","_law_one"] ["_law_deal_here","_law_many"] (ay sr):=pb (by decide +kernel)
theorem pk:FnScope ["_law_number","_law_by"] ["_law_number","_law_by"] (ay kA):=pb (by decide +kernel)
theorem sc_sLputin:FnScope ["_law_numbers_here","_law_at","_law_block_here","_law_here","_law_found","_law_number"] ["_law_numbers_here","_law_at","_law_block_here"] (ay jK):=pb (by decide +kernel)
theorem sc_sLblock:FnScope ["_law_deal_here","_law_most","_law_many","_law_left","_law_sides","_law_found","_law_k"] ["_law_deal_here","_law_most"] (ay pi):=pb (by decide +kernel)
theorem sc_sLnumbers:FnScope ["_law_deal_here","_law_most","_law_numbers_here","_law_k","_law_room","_law_block_here","_law_at"] ["_law_deal_here","_law_most"] (ay kB):=pb (by decide +kernel)
theorem sc_sLrings:FnScope ["_law_numbers_here","_law_points","_law_k","_law_found","_law_met","_law_ring","_law_there","_law_point"] ["_law_numbers_here"] (ay lI):=pb (by decide +kernel)
theorem sc_sLback:FnScope ["_law_numbers_here","_law_found","_law_k","_law_number"] ["_law_numbers_here"] (ay ss):=pb (by decide +kernel)
theorem sc_sLright:FnScope ["_law_numbers_here","_law_handed","_law_due","_law_found","_law_ring"] ["_law_numbers_here"] (ay jL):=pb (by decide +kernel)
theorem sc_slaw:FnScope ["_law_script","_law_k","_law_deal_here"] ["_law_script"] (ay GG):=pb (by decide +kernel)
structure Md (P:Program) (w:World) (K:PySem.W.Frag) (mg:Str->Option Value):Prop where
 n_abs:mg "abs"=none
 n_all:mg "all"=none
 n_bool:mg "bool"=none
 n_enumerate:mg "enumerate"=none
 n_int:mg "int"=none
 n_isinstance:mg "isinstance"=none
 n_len:mg "len"=none
 n_list:mg "list"=none
 n_min:mg "min"=none
 n_range:mg "range"=none
 n_reversed:mg "reversed"=none
 n_sorted:mg "sorted"=none
 n_tuple:mg "tuple"=none
 n_zip:mg "zip"=none
 c_KINDS:CC P w K mg "KINDS" sj
end K40
namespace VF
open PySem L2
theorem dA {i j:Int} (h:CMul i j):dG (.int i) (.int j)=some (.int (i*j),false):=by
 have:wL (.int i) (.int j)=some (.int (i*j),false):=by
  show(if CMul i j then some (D.int (i*j),false) else none)=_;rw[Ae h]
 unfold dG ke;rw[this]
theorem su {i j:Int} (h:0<j):fS (.int i) (.int j)=some (.int (i % j),false):=by
 show(if 0<j then some (D.int (i % j),false) else none)=_;rw[Ae h]
theorem GH {i j:Int} (h:rD i j):zG (.int i) (.int j)=some (.int (i / j),false):=by
 show(if rD i j then some (D.int (i / j),false) else none)=_;rw[Ae h]
theorem x6 {ds:List D} {i:Int} {d:D} (h:lV ds i=some d):dE (.lst ds) (.int i)=some (d,false):=by
 have:wQ (.lst ds) (.int i)=some (d,false):=by
  show(lV ds i).bind (fun d=>some (d,false))=_;rw[h];rfl
 unfold dE ke;rw[this]
theorem ix_tup {ds:List D} {i:Int} {d:D} (h:lV ds i=some d):dE (.tup ds) (.int i)=some (d,false):=by
 have e1:wQ (.tup ds) (.int i)=none:=rfl;have:FK (.tup ds) (.int i)=some (d,false):=by
  show(lV ds i).bind (fun d=>some (d,false))=_;rw[h];rfl
 unfold dE ke;rw[e1,this]
theorem lh {f:FT} {st s:En} {b c:Bool} (h:f st=some (b,s)) (e:b=c):f st=some (c,s):=e ▸ h
theorem put_ev {mm:D->D->D->Option D} {fe fi:FE} {i:Nat} {st s1 s2 s3:En} {r rk:Rs} {dv dk z z':D} {t t0:Sl} {x0:D} (h1:fe st=some (r,s1)) (h2:esc r s1=some (dv,s2)) (h0:s2[i]?=some t0) (h00:t0.ow=some x0) (h3:fi s2=some (rk,s3)) (h4:cont s3 rk=some dk) (h5:s3[i]?=some t) (h6:t.ow=some z) (h7:mm z dk dv=some z') {s4:En} (h8:s3.set i (t.put z')=s4:=by rfl):iY mm fe i fi st=some (.nx s4):=by
 simp only[iY,h1,h2,h0,h00,h3,h4,h5,h6,h7,h8,Qa]
end VF
namespace VF
open PySem L2
section
variable {st s s1 s2:En} {r ry:Rs} {d1 d2:D} {fe fa:FE}
theorem x8 {i:Int} (h:fe st=some (r,s)) (h2:cont s r=some (.int i)):nM fe st=some (some i,s):=by
 simp only[nM,h,Qa,asInt,h2]
end
theorem ng {l:List D} {n:Nat} (hl:l.length<=n) {b:Bool} (hb:b=true) (hn:n<=1000000:=by decide):(b&&decide (l.length<=1000000))=true:=by rw[hb,Ag (by lia)];rfl
theorem pq {i j:Int}:DF (.int i) (.int j)=some (.bl (decide (i=j)),false):=by
 show some (D.bl (decide (V.int i=V.int j)),false)=_;by_cases h:i=j
 ·subst h;simp
 ·rw[Ad h,Ad (fun z=>h (V.int.inj z))]
theorem sv {i j:Int}:FX (.int i) (.int j)=some (.bl (!decide (i=j)),false):=by
 show some (D.bl (!decide (V.int i=V.int j)),false)=_;by_cases h:i=j
 ·subst h;simp
 ·rw[Ad h,Ad (fun z=>h (V.int.inj z))]
theorem CL {i j:Int}:qw (.int i) (.int j)=some (.bl (decide (i=j)),false):=by
 unfold qw ke;rw[pq]
theorem DX {ds:List D} {i:Int} {d:D} (h:lV ds i=some d):dE (.fl ds) (.int i)=some (d,false):=by
 have:wQ (.fl ds) (.int i)=some (d,false):=by
  show(lV ds i).bind (fun d=>some (d,false))=_;rw[h];rfl
 unfold dE ke;rw[this]
theorem gf {ds:List D} {i:Nat} {d:D} (h:ds[i]?=some d):dE (.lst ds) (.int i)=some (d,false):=x6 (ot h)
theorem jM {ds:List D} {i:Nat} {d:D} (h:ds[i]?=some d):dE (.tup ds) (.int i)=some (d,false):=ix_tup (ot h)
theorem CM {ds:List D} {d:D}:dE (.lst (ds++[d])) (.int (-1))=some (d,false):=x6 (by
 unfold lV vL;rw[Va,Vc,Af (by lia),Ae (by lia)]
 show(ds++[d])[((-1:Int)+((ds.length+1:Nat):Int)).toNat]?=_;have:((-1:Int)+((ds.length+1:Nat):Int)).toNat=ds.length:=by lia
 rw[this];simp)
theorem GI {fe:FE} {i:Nat} {st s1 s2 s3:En} {r:Rs} {dv z z':D} {t:Sl} (h1:fe st=some (r,s1)) (h2:esc r s1=some (dv,s2)) (h3:s2[i]?=some t) (h4:t.ow=some z) (h5:VF22.slcD z dv=some z') (h6:s2.set i (t.put z')=s3:=by rfl):VF22.sSlc fe i st=some (.nx s3):=by
 simp only[VF22.sSlc,h1,h2,h3,h4,h5,h6,Qa]
theorem x9 {fa:FA} {st s:En} {rs:List Rs} {j:Int} (h1:fa st=some (rs,s)) (h2:bW s rs=some [.int j]) (h3:VF22.RB 0 j):VF22.fLR1 fa st=some (.f (.lst (rng 0 (j-0).toNat)),s):=by
 simp only[VF22.fLR1,h1,h2,Qa,rV];rw[Ae h3]
theorem GJ {fa:FA} {st s:En} {rs:List Rs} {i j:Int} (h1:fa st=some (rs,s)) (h2:bW s rs=some [.int i,.int j]) (h3:VF22.RB i j):VF22.fLR2 fa st=some (.f (.lst (rng i (j-i).toNat)),s):=by
 simp only[VF22.fLR2,h1,h2,Qa,zw];rw[Ae h3]
theorem gh {fa:FA} {st s1 s2:En} {rs:List Rs} {ds:List D} (h1:fa st=some (rs,s1)) (h2:cm rs s1=some (ds,s2)) (h3:ds.length<=1000000):eM fa st=some (.f (.lst ds),s2):=by
 simp only[eM,h1,h2,Qa];rw[Ae h3]
theorem GK {fe:FE} {st s1 s2:En} {r:Rs} {ds:List D} (h1:fe st=some (r,s1)) (h2:esc r s1=some (.lst ds,s2)):VF22.fIRvL fe st=some (ds.reverse,s2):=by
 simp only[VF22.fIRvL,h1,h2,Qa,VF22.lstD]
theorem app_ev {xs:List D} {y:D} (h:xs.length<1000000):cW (.lst xs) [y]=some (.non,.lst (xs++[y])):=by
 show(if xs.length<1000000 then some (D.non,D.lst (xs++[y])) else none)=_;rw[Ae h]
end VF
namespace K40
open PySem L2 VF VF22
def Dl (m s:Int):D:=.lst [.int m,.int s]
def ji (δ:D):Prop:=∃m s,δ=Dl m s/\0<=m/\1<=s/\s<=2147483646
theorem dL {δ:D} {n:Int} (hδ:ji δ) (h0:0<n) (h1:n<=1000):∃d δ',bn δ [.int n]=some ((.int d,false),δ')/\0<=d/\d<n/\ji δ':=by
 obtain⟨m,s,rfl,hm,hs1,hs2⟩:=hδ;by_cases c1:0<m
 ·refine⟨m % n,Dl (m / n) s,?_,Yl _ (by lia),Xj _ h0,m / n,s,rfl,Int.ediv_nonneg hm (by lia),hs1,hs2⟩
  refine ii (o:=.rt (.d (.int (m % n))) [.io (Dl (m / n) s),.v (.int n),.v (.int (m % n)),.e]) rfl ?_ rfl;refine xi (km (lh (b:=decide (0<m)) (s:=[.io (Dl m s),.v (.int n),.e,.e]) rfl (Ag c1)) ?_);refine aw (s:=[.io (Dl m s),.v (.int n),.v (.int (m % n)),.e]) (cE (ar rfl rfl rfl rfl (su h0)) rfl) ?_;refine aw (s:=[.io (Dl (m / n) s),.v (.int n),.v (.int (m % n)),.e]) (put_ev (ar rfl rfl rfl rfl (GH ⟨h0,by lia⟩)) rfl rfl rfl rfl rfl rfl rfl rfl) ?_
  rfl
 ·have a1:=Yl (s*16807) (show(2147483647:Int)≠0 by decide)
  have a2:=Xj (s*16807) (show(0:Int)<2147483647 by decide)
  have b1:=Yl ((s*16807 % 2147483647)*48271+30103) (show(2147483646:Int)≠0 by decide)
  have b2:=Xj ((s*16807 % 2147483647)*48271+30103) (show(0:Int)<2147483646 by decide)
  have c1':=Yl ((s*16807 % 2147483647)*(s*16807 % 2147483647)) (show(2147483629:Int)≠0 by decide)
  have c2':=Xj ((s*16807 % 2147483647)*(s*16807 % 2147483647)) (show(0:Int)<2147483629 by decide)
  refine⟨((s*16807 % 2147483647)*(s*16807 % 2147483647) % 2147483629*2147483563+(((s*16807 % 2147483647)*48271+30103) % 2147483646+1) / 127) % n,Dl m (((s*16807 % 2147483647)*48271+30103) % 2147483646+1),?_,Yl _ (by lia),Xj _ h0,m,_,rfl,hm,by lia,by lia⟩
  generalize e1:s*16807 % 2147483647=o at *;generalize e2:(o*48271+30103) % 2147483646+1=t at *;refine ii (o:=.rt (.d (.int ((o*o % 2147483629*2147483563+t / 127) % n))) [.io (Dl m t),.v (.int n),.e,.v (.int o)]) rfl ?_ rfl;refine aw (jb (lh (b:=decide (0<m)) (s:=[.io (Dl m s),.v (.int n),.e,.e]) rfl (Ad c1)) rfl) ?_;refine aw (s:=[.io (Dl m s),.v (.int n),.e,.v (.int o)]) (cE (x:=.int o) (ar (ar rfl rfl rfl rfl (dA (.inr ⟨by decide,by decide⟩))) rfl rfl rfl (z:=(.int o,false)) (by rw[← e1];rfl)) rfl) ?_
  refine aw (s:=[.io (Dl m t),.v (.int n),.e,.v (.int o)]) (put_ev (dv:=.int t) (r:=.d (.int t)) (ar (ar (ar (ar rfl rfl rfl rfl (dA (.inr ⟨by decide,by decide⟩))) rfl rfl rfl rfl) rfl rfl rfl rfl) rfl rfl rfl (z:=(.int t,false)) (by rw[← e2];rfl)) rfl rfl rfl rfl rfl rfl rfl rfl) ?_
  exact cn (ar (ar (ar (ar (ar rfl rfl rfl rfl (dA (.inl ⟨by lia,by lia⟩))) rfl rfl rfl rfl) rfl rfl rfl (dA (.inr ⟨by decide,by decide⟩))) (ar rfl rfl rfl rfl rfl) rfl rfl rfl) rfl rfl rfl (su h0))
theorem CN (ns:List Int) {k:Int} (h0:0<=k) (h1:k<=2):∃δ,jg [.fl (ns.map D.int),.int k]=some (δ,true)/\ji δ:=by
 have key:∀c:Int,∃δ,((aL (bm (fC (.int 0)) 3) (aL (kW (bc (aH zH (aP 2) (aH Fw (fC (.int 10)) (fC (.int 18))))) (bm (aP 2) 3) dC)
  (cI (eM (ad (aP 3) (ad (aH b9 (aH fS (aH b9 (aH dG (aH fS (aP 2) (fC (.int 2147483629))) (fC (.int 48271))) (aH dG (fC (.int 40692)) (aP 1))) (fC (.int 2147483646))) (fC (.int 1))) aq))))))) [.v (.fl (ns.map D.int)),.v (.int k),.v (.int c),.e]=some (.rt (.f δ) [.v (.fl (ns.map D.int)),.v (.int k),.v (.int c),.v (.int (if (10:Int) ^ (18:Int).toNat<=c then c else 0))])/\ji δ:=fun c=>by
  have b1:=Yl (c % 2147483629*48271+40692*k) (show(2147483646:Int)≠0 by decide)
  have b2:=Xj (c % 2147483629*48271+40692*k) (show(0:Int)<2147483646 by decide)
  have fin:∀m:Int,cI (eM (ad (aP 3) (ad (aH b9 (aH fS (aH b9 (aH dG (aH fS (aP 2) (fC (.int 2147483629))) (fC (.int 48271))) (aH dG (fC (.int 40692)) (aP 1))) (fC (.int 2147483646))) (fC (.int 1))) aq))) [.v (.fl (ns.map D.int)),.v (.int k),.v (.int c),.v (.int m)]=some (.rt (.f (Dl m ((c % 2147483629*48271+40692*k) % 2147483646+1))) [.v (.fl (ns.map D.int)),.v (.int k),.v (.int c),.v (.int m)]):=fun m=>by
   refine cn (s:=[.v (.fl (ns.map D.int)),.v (.int k),.v (.int c),.v (.int m)]) ?_;have e:(aH b9 (aH fS (aH b9 (aH dG (aH fS (aP 2) (fC (.int 2147483629))) (fC (.int 48271))) (aH dG (fC (.int 40692)) (aP 1))) (fC (.int 2147483646))) (fC (.int 1))) [.v (.fl (ns.map D.int)),.v (.int k),.v (.int c),.v (.int m)]=some (.d (.int ((c % 2147483629*48271+40692*k) % 2147483646+1)),[.v (.fl (ns.map D.int)),.v (.int k),.v (.int c),.v (.int m)]) :=
    ar (ar (ar (ar (ar rfl rfl rfl rfl rfl) rfl rfl rfl (dA (.inr ⟨by decide,by decide⟩))) (ar rfl rfl rfl rfl (dA (.inl ⟨by decide,by decide⟩))) rfl rfl rfl) rfl rfl rfl rfl) rfl rfl rfl rfl
   exact gh (ap rfl (ap e rfl)) rfl (by simp)
  by_cases c3:(10:Int) ^ (18:Int).toNat<=c
  ·have p18:(0:Int)<=10 ^ (18:Int).toNat:=by decide
   refine⟨Dl c ((c % 2147483629*48271+40692*k) % 2147483646+1),?_,c,_,rfl,by lia,by lia,by lia⟩
   rw[Ae c3];refine aw (s:=[.v (.fl (ns.map D.int)),.v (.int k),.v (.int c),.v (.int 0)]) rfl ?_;refine aw (s:=[.v (.fl (ns.map D.int)),.v (.int k),.v (.int c),.v (.int c)]) (km (lh (b:=decide ((10:Int) ^ (18:Int).toNat<=c)) (s:=[.v (.fl (ns.map D.int)),.v (.int k),.v (.int c),.v (.int 0)]) rfl (Ag c3)) rfl) (fin c)
  ·refine⟨Dl 0 ((c % 2147483629*48271+40692*k) % 2147483646+1),?_,0,_,rfl,by lia,by lia,by lia⟩
   rw[Af c3];refine aw (s:=[.v (.fl (ns.map D.int)),.v (.int k),.v (.int c),.v (.int 0)]) rfl ?_;refine aw (s:=[.v (.fl (ns.map D.int)),.v (.int k),.v (.int c),.v (.int 0)]) (jb (lh (b:=decide ((10:Int) ^ (18:Int).toNat<=c)) (s:=[.v (.fl (ns.map D.int)),.v (.int k),.v (.int c),.v (.int 0)]) rfl (Ad c3)) rfl) (fin 0)
 have first:∃c:Int,(kW (bc (aH FC (aP 1) (b8 cC (ad (aP 0) aq)))) (bm (aH dE (aP 0) (aP 1)) 2) (kW (bc (aH Hb (b8 cC (ad (aP 0) aq)) (fC (.int 0)))) (bm (aH b9 (aH dG (aH fS (aH dE (aP 0) (aH fS (aP 1) (b8 cC (ad (aP 0) aq)))) (fC (.int 2147483629))) (fC (.int 31))) (aH dG (fC (.int 7919)) (aP 1))) 2) dC)) [.v (.fl (ns.map D.int)),.v (.int k),.v (.int (7919*k+1000003)),.e]=some (.nx [.v (.fl (ns.map D.int)),.v (.int k),.v (.int c),.e]):=by
  by_cases c1:k<((ns.map D.int).length:Int)
  ·obtain⟨v,hv,hm',_⟩:=wy h0 c1;obtain⟨z,_,rfl⟩:=Wa.mp hm';refine⟨z,km (lh (b:=decide (k<((ns.map D.int).length:Int))) (s:=[.v (.fl (ns.map D.int)),.v (.int k),.v (.int (7919*k+1000003)),.e]) rfl (Ag c1)) ?_⟩;exact cE (x:=.int z) (ar rfl rfl rfl rfl (z:=(.int z,false)) (DX hv)) rfl
  ·refine Exists.imp (fun c h=>jb (lh (b:=decide (k<((ns.map D.int).length:Int))) (s:=[.v (.fl (ns.map D.int)),.v (.int k),.v (.int (7919*k+1000003)),.e]) rfl (Ad c1)) h) ?_;by_cases c2:(0:Int)<((ns.map D.int).length:Int)
   ·obtain⟨v,hv,hm',_⟩:=wy (xs:=ns.map D.int) (Yl k (by lia)) (Xj k c2)
    obtain⟨z,_,rfl⟩:=Wa.mp hm';refine⟨z % 2147483629*31+7919*k,km (lh (b:=decide ((0:Int)<((ns.map D.int).length:Int))) (s:=[.v (.fl (ns.map D.int)),.v (.int k),.v (.int (7919*k+1000003)),.e]) rfl (Ag c2)) ?_⟩;exact cE (x:=.int _) (ar (ar (ar (ar rfl (ar rfl rfl rfl rfl (su c2)) rfl rfl (z:=(.int z,false)) (DX hv)) rfl rfl rfl rfl) rfl rfl rfl (dA (.inr ⟨by decide,by decide⟩))) (ar rfl rfl rfl rfl (dA (.inl ⟨by decide,by decide⟩))) rfl rfl rfl) rfl
   ·exact⟨7919*k+1000003,jb (lh (b:=decide ((0:Int)<((ns.map D.int).length:Int))) (s:=[.v (.fl (ns.map D.int)),.v (.int k),.v (.int (7919*k+1000003)),.e]) rfl (Ad c2)) rfl⟩
 obtain⟨c,ec⟩:=first
 obtain⟨δ,eδ,hδ⟩:=key c;exact⟨δ,bt rfl (aw (s:=[.v (.fl (ns.map D.int)),.v (.int k),.v (.int (7919*k+1000003)),.e]) (cE (ar (ar rfl rfl rfl rfl (dA (.inl ⟨by decide,by decide⟩))) rfl rfl rfl rfl) rfl) (aw ec eδ)) rfl,hδ⟩
theorem sw {α β:Type} {f:α->β} {l:List α} (inj:∀a b,f a=f b->a=b) (h:l.Nodup):(l.map f).Nodup:=by
 rw[List.Nodup,Qf];exact List.Pairwise.imp (fun hne e=>hne (inj _ _ e)) h
theorem ya {α β:Type} {f:α->β} {l:List α} (h:(l.map f).Nodup):l.Nodup:=by
 rw[List.Nodup,Qf]at h;exact List.Pairwise.imp (fun hne e=>hne (congrArg f e)) h
theorem pw {α β:Type} {f:α->β}:∀{l:List α},(l.map f).Nodup->∀{x y:α},x∈l->y∈l->f x=f y->x=y
 | [],_,_,_,hx,_,_=>by cases hx
 | a::l,h,x,y,hx,hy,e=>by
  rw[Vd,Vg]at h;rcases Xd.mp hx with h1|h1
  ·rcases Xd.mp hy with h2|h2
   ·rw[h1,h2]
   ·exact absurd (by rw[← h1,e];exact Bz h2) h.1
  ·rcases Xd.mp hy with h2|h2
   ·exact absurd (by rw[← h2,← e];exact Bz h1) h.1
   ·exact pw h.2 h1 h2 e
def ab (i:Int):Int:=if i<0 then -i else i
theorem yb (i:Int):0<=ab i:=by unfold ab;split<;>lia
def gx (n b:Int):Int:=if n<0 then n-b else n+b
theorem jN {n b:Int} (hb:0<=b):ab (gx n b)=ab n+b:=by
 unfold ab gx;by_cases h:n<0
 ·simp only[Ae h];split<;>lia
 ·simp only[Af h];split<;>lia
def gi (h last:Int) (blk:List Int) (n:Int):List Int :=
 if ab h<ab n then [gx n last] else if n≠h then [n] else if 0<=h then blk.map (gx · h) else blk.reverse.map fun p=>0-gx p (0-h)
def li (ns:List Int) (h last:Int) (blk:List Int):List Int:=ns.flatMap (gi h last blk)
structure Nm (c:Int) (ns:List Int):Prop where
 nd:(ns.map ab).Nodup
 le:∀n∈ns,ab n<=c
theorem yc (x:Int):ab (0-x)=ab x:=by unfold ab;split<;>split<;>lia
theorem lJ {h last c:Int} {blk:List Int} {n:Int} (B:Nm last blk) (hl:0<=last) (hn:n≠h->ab n≠ab h):((gi h last blk n).map ab).Nodup/\∀x∈gi h last blk n,(ab n<ab h/\ab x=ab n)∨(n=h/\ab h<=ab x/\ab x<=ab h+last)∨(ab h<ab n/\ab x=ab n+last):=by
 unfold gi;by_cases c1:ab h<ab n
 ·rw[Ae c1];refine⟨by simp,fun x hx=>.inr (.inr ⟨c1,?_⟩)⟩
  rw[Ye.mp hx,jN hl]
 ·rw[Af c1];by_cases c2:n≠h
  ·rw[Ae c2];refine⟨by simp,fun x hx=>.inl ⟨?_,by rw[Ye.mp hx]⟩⟩
   have:=hn c2;lia
  ·rw[Af c2];have e:n=h:=Classical.not_not.mp c2;subst e;by_cases c3:0<=n
   ·rw[Ae c3];have e:ab n=n:=by unfold ab;rw[Af (by lia)]
    have em:(blk.map (gx · n)).map ab=(blk.map ab).map (·+n):=by
     rw[Xe,Xe];exact Wf fun p _=>jN c3
    refine⟨?_,fun x hx=>.inr (.inl ⟨rfl,?_⟩)⟩
    ·rw[em];exact sw (fun a b h=>by have h':a+n=b+n:=h;lia) B.nd
    ·obtain⟨p,hp,rfl⟩:=Wa.mp hx;have:=B.le p hp;have:=yb p;rw[jN c3,e];lia
   ·rw[Af c3];have e:ab n=0-n:=by unfold ab;rw[Ae (by lia)];lia
    have em:(blk.reverse.map fun p=>0-gx p (0-n)).map ab=(blk.reverse.map ab).map (·+(0-n)):=by
     rw[Xe,Xe];exact Wf fun p _=>by
      show ab (0-gx p (0-n))=ab p+(0-n);rw[yc,jN (by lia)]
    refine⟨?_,fun x hx=>.inr (.inl ⟨rfl,?_⟩)⟩
    ·rw[em];refine sw (fun a b h=>by have h':a+(0-n)=b+(0-n):=h;lia) ?_
     rw[List.map_reverse];exact List.pairwise_reverse.mpr (List.Pairwise.imp (fun h=>Ne.symm h) B.nd)
    ·obtain⟨p,hp,rfl⟩:=Wa.mp hx;have:=B.le p (List.mem_reverse.mp hp);have:=yb p;rw[yc,jN (by lia),e];lia
theorem uo {α β:Type} {f:α->List β} {g:β->Int}:∀{l:List α},(∀x∈l,((f x).map g).Nodup)->l.Pairwise (fun x y=>∀a∈f x,∀b∈f y,g a≠g b)->((l.flatMap f).map g).Nodup
 | [],_,_=>by simp
 | x::r,h1,h2=>by
  rw[Xi,Ve];rw[List.pairwise_cons]at h2;refine Wi.mpr ⟨h1 x Wd,uo (fun y hy=>h1 y (Yc _ hy)) h2.2,fun a ha b hb=>?_⟩;obtain⟨a',ha',rfl⟩:=Wa.mp ha;obtain⟨b',hb',rfl⟩:=Wa.mp hb;obtain⟨y,hy,hb2⟩:=List.mem_flatMap.mp hb';exact h2.1 y hy a' ha' b' hb2
theorem GL {ns blk:List Int} {h last c:Int} (N:Nm c ns) (B:Nm last blk) (hl:0<=last) (hh:h∈ns):Nm (c+last) (li ns h last blk):=by
 have ne:∀n∈ns,n≠h->ab n≠ab h:=fun n hn z e=>by
  exact z (pw N.nd hn hh e)
 refine⟨uo (fun n hn=>(lJ (c:=c) B hl (ne n hn)).1) ?_,fun x hx=>?_⟩
 ·have:=N.nd;rw[List.Nodup,Qf]at this;refine Aw (fun {a b} ha hb hab x hx y hy=>?_) this;have p:=(lJ (c:=c) B hl (ne a ha)).2 x hx;have q:=(lJ (c:=c) B hl (ne b hb)).2 y hy;intro e;rcases p with⟨p1,p2⟩|⟨p1,p2,p3⟩|⟨p1,p2⟩<;>rcases q with⟨q1,q2⟩|⟨q1,q2,q3⟩|⟨q1,q2⟩<;>first|lia|(subst p1;first|(subst q1;exact hab rfl)|lia)|(subst q1;lia)
 ·obtain⟨n,hn,hx⟩:=List.mem_flatMap.mp hx;have:=N.le n hn;have:=N.le h hh;rcases(lJ (c:=c) B hl (ne n hn)).2 x hx with⟨p1,p2⟩|⟨p1,p2,p3⟩|⟨p1,p2⟩<;>lia
theorem mH {h last:Int} {blk:List Int} {n:Int}:(gi h last blk n).length=if n=h then blk.length else 1:=by
 unfold gi;by_cases c1:ab h<ab n
 ·rw[Ae c1,Af (fun z=>by rw[z]at c1;lia)];rfl
 ·rw[Af c1];by_cases c2:n≠h
  ·rw[Ae c2,Af c2];rfl
  ·rw[Af c2,Ae (Classical.not_not.mp c2)];split<;>simp
theorem qQ {ns blk:List Int} {h last:Int} (nd:ns.Nodup) (hh:h∈ns):(li ns h last blk).length+1=ns.length+blk.length:=by
 unfold li;induction ns with
 | nil=>cases hh
 | cons n r ih =>
  rw[Xi,Va,mH];rw[Vg]at nd;have all1:∀l:List Int,h∉l->(l.flatMap (gi h last blk)).length=l.length:=fun l=>by
   induction l with
   | nil=>intro _;rfl
   | cons a l ihl =>
    intro ha;rw[Xi,Va,mH,Af (fun z=>ha (by rw[z];exact Wd)),ihl (fun z=>ha (Yc _ z)),Zd];lia
  by_cases e:n=h
  ·subst e;rw[Ae rfl,all1 r nd.1,Zd];lia
  ·rw[Af e];have hr:h∈r:=by
    rcases Xd.mp hh with z|z
    ·exact absurd z.symm e
    ·exact z
   have:=ih nd.2 hr;rw[Zd];lia
abbrev IL (xs:List Int):D:=.lst (xs.map D.int)
theorem jj (n b:Int):cb [.int n,.int b]=some (.int (gx n b),false):=by
 unfold gx;by_cases c:n<0
 ·rw[Ae c];exact bt (o:=.rt (.d (.int (n-b))) [.v (.int n),.v (.int b)]) rfl (xi (km (lh (b:=decide (n<0)) (s:=[.v (.int n),.v (.int b)]) rfl (Ag c)) rfl)) rfl
 ·rw[Af c];exact bt (o:=.rt (.d (.int (n+b))) [.v (.int n),.v (.int b)]) rfl (aw (jb (lh (b:=decide (n<0)) (s:=[.v (.int n),.v (.int b)]) rfl (Ad c)) rfl) rfl) rfl
theorem d9 (i:Int):b1 kY [.int i]=some (.int (ab i),false):=rfl
theorem DY {i j:Int}:Hb (.int i) (.int j)=some (.bl (decide (j<i)),false):=rfl
theorem n5 {i:Nat} {d:D} {st st':En} {t:Sl} (h:st[i]?=some t) (hs:t.isIo=false) (h2:st.set i (.v d)=st':=by rfl):gN i d st=some st':=by
 simp only[gN,kc,h,Qa,hs,We,if_false,h2]
theorem yd {ns b0 acc:List Int} {at_ h last n:Int} (hz:acc.length+(b0.length+1)<=100000) :
  d7 [.v (IL ns),.v (.int at_),.v (IL (b0++[last])),.v (.int h),.o (IL acc),.v (.int n)]=some (.nx [.v (IL ns),.v (.int at_),.v (IL (b0++[last])),.v (.int h),.o (IL (acc++gi h last (b0++[last]) n)),.v (.int n)]):=by
 unfold gi;have hl:(acc.map D.int).length<1000000:=by rw[Ya];lia
 have lb:dE (IL (b0++[last])) (.int (-1))=some (.int last,false):=by
  rw[show IL (b0++[last])=.lst (b0.map D.int++[.int last]) by simp[IL]];exact CM
 by_cases c1:ab h<ab n
 ·rw[Ae c1];refine km (aJ (ar (aZ rfl rfl (d9 n)) (aZ rfl rfl (d9 h)) rfl rfl DY) (c:=true) (by show some (decide (ab h<ab n))=_;rw[Ag c1])) ?_
  refine cX (me rfl rfl rfl (ap (fz (ap rfl (ap (ar rfl rfl rfl rfl lb) rfl)) rfl (jj n last) rfl) rfl) rfl rfl rfl (app_ev hl) (by show [_,_,_,_,Sl.o _,_]=[_,_,_,_,Sl.o _,_];simp))
 ·rw[Af c1];refine jb (aJ (ar (aZ rfl rfl (d9 n)) (aZ rfl rfl (d9 h)) rfl rfl DY) (c:=false) (by show some (decide (ab h<ab n))=_;rw[Ad c1])) ?_
  by_cases c2:n≠h
  ·rw[Ae c2];refine km (aJ (ar rfl rfl rfl rfl sv) (c:=true) (by show some (!decide (n=h))=_;rw[Ad c2];rfl)) ?_
   exact cX (me rfl rfl rfl rfl rfl rfl rfl (app_ev hl) (by show [_,_,_,_,Sl.o _,_]=[_,_,_,_,Sl.o _,_];simp))
  ·rw[Af c2];have e:n=h:=Classical.not_not.mp c2;refine jb (aJ (ar rfl rfl rfl rfl sv) (c:=false) (by show some (!decide (n=h))=_;rw[Ag e];rfl)) ?_
   have hc:∀l:List Int,l.length=b0.length+1->(true&&decide ((l.map D.int).length<=1000000))=true:=fun l e=>by rw[Ya,Ag (by lia)];rfl
   by_cases c3:0<=h
   ·rw[Ae c3];refine km (lh (b:=decide (0<=h)) (s:=[.v (IL ns),.v (.int at_),.v (IL (b0++[last])),.v (.int h),.o (IL acc),.v (.int n)]) rfl (Ag c3)) ?_;have cl:=bK (fg:=gN 0) (fc:=fO) (fe:=gY) (k:=1) D.int (fun p=>D.int (gx p h)) [.e,.v (.int h)] (b0++[last]) fun p _=>⟨[.v (.int p),.v (.int h)],[.v (.int p),.v (.int h)],.d (.int (gx p h)),[.v (.int p),.v (.int h)],[.v (.int p),.v (.int h)],rfl,rfl,fz rfl rfl (jj p h) rfl,rfl,rfl⟩;refine cX (me rfl rfl rfl (ap (ci (jy rfl rfl) (hc _ (by simp)) cl) rfl) rfl rfl rfl (oT (by rw[Ya,Ya,Va,Vc];lia)) (by show [_,_,_,_,Sl.o _,_]=[_,_,_,_,Sl.o _,_];simp))
   ·rw[Af c3];refine jb (lh (b:=decide (0<=h)) (s:=[.v (IL ns),.v (.int at_),.v (IL (b0++[last])),.v (.int h),.o (IL acc),.v (.int n)]) rfl (Ad c3)) ?_;have cl:=bK (fg:=gN 0) (fc:=fO) (fe:=gZ) (k:=1) D.int (fun p=>D.int (0-gx p (0-h))) [.e,.v (.int h)] (b0++[last]).reverse fun p _=>⟨[.v (.int p),.v (.int h)],[.v (.int p),.v (.int h)],.d (.int (0-gx p (0-h))),[.v (.int p),.v (.int h)],[.v (.int p),.v (.int h)],rfl,rfl,ar rfl (fz rfl rfl (jj p (0-h)) rfl) rfl rfl rfl,rfl,rfl⟩;refine cX (me rfl rfl rfl (ap (ci (GK rfl rfl) (by rw[AW];exact hc (b0++[last]) (by simp)) (by rw[← List.map_reverse];exact cl)) rfl) rfl rfl rfl (oT (by rw[Ya,Ya,AW,Va,Vc];lia)) (by show [_,_,_,_,Sl.o _,_]=[_,_,_,_,Sl.o _,_];simp))
theorem ye {α β:Type} (l:List α) (g:α->List β) (n:Nat) (h:∀x∈l,(g x).length<=n):(l.flatMap g).length<=l.length*n:=by
 induction l with
 | nil=>simp
 | cons x r ih =>
  rw[Xi,Va,Zd,Nat.succ_mul];have h1:=h x Wd;have h2:=ih fun y hy=>h y (Yc _ hy);lia
theorem vC {ns b0:List Int} {i:Nat} {h last:Int} (hi:ns[i]?=some h) (hz:ns.length*(b0.length+1)<=10000):dI [IL ns,.int i,IL (b0++[last])]=some (IL (li ns h last (b0++[last])),true):=by
 have lenO:∀n,(gi h last (b0++[last]) n).length<=b0.length+1:=fun n=>by rw[mH];split<;>simp
 have n1:1<=ns.length:=by have:=(Vb.mp hi).1;lia
 have b1:b0.length+1<=10000:=by
  have:=Nat.mul_le_mul_right (b0.length+1) n1;lia
 have tot:=ye ns (fun n=>(gi h last (b0++[last]) n).map D.int) (b0.length+1) fun n _=>by rw[Ya];exact lenO n
 have st0:([]:List D).length+(ns.flatMap fun n=>(gi h last (b0++[last]) n).map D.int).length<=10000:=by rw[Zg];lia
 obtain⟨sf,e1,s5,rfl,_⟩:=qx (f:=D.int) (g:=fun n=>(gi h last (b0++[last]) n).map D.int) (B:=d7) (fg:=gN 5) (fun acc st=>∃s5,st=[.v (IL ns),.v (.int i),.v (IL (b0++[last])),.v (.int h),.o (.lst acc),s5]/\s5.isIo=false/\∃as:List Int,acc=as.map D.int) ns 10000 (by
   rintro acc n st hn hb ⟨s5,rfl,hs,as,rfl⟩;rw[Ya]at hb
   exact⟨[.v (IL ns),.v (.int i),.v (IL (b0++[last])),.v (.int h),.o (IL as),.v (.int n)],_,n5 (t:=s5) rfl hs,yd (by lia),⟨.v (.int n),by rw[← Ve],rfl,_,Ve.symm⟩⟩) ns [] [.v (IL ns),.v (.int i),.v (IL (b0++[last])),.v (.int h),.o (.lst []),.e] (fun _ h=>h) st0 ⟨.e,rfl,rfl,[],rfl⟩
 have ef:(ns.flatMap fun n=>(gi h last (b0++[last]) n).map D.int)=(li ns h last (b0++[last])).map D.int:=by
  unfold li;rw[List.map_flatMap]
 rw[List.nil_append,ef]at e1;have hd:(ns.map D.int)[i]?=some (.int h):=by rw[Wb,hi];rfl
 refine bt (o:=.rt (.s 4) [.v (IL ns),.v (.int i),.v (IL (b0++[last])),.v (.int h),.o (IL (li ns h last (b0++[last]))),s5]) rfl ?_ rfl;refine aw (s:=[.v (IL ns),.v (.int i),.v (IL (b0++[last])),.v (.int h),.e,.e]) (cE (ar rfl rfl rfl rfl (gf hd)) rfl) ?_;refine aw (s:=[.v (IL ns),.v (.int i),.v (IL (b0++[last])),.v (.int h),.o (.lst []),.e]) rfl ?_;exact aw (cF (jy rfl rfl) e1) rfl
end K40
namespace VF
open PySem L2
theorem fPut_ev {i:Nat} {s t:Sl} {st s1:En} (h:st[i]?=some t) (n:t.isIo=false) (e:st.set i s=s1:=by rfl):kc i s st=some s1:=by
 unfold kc;rw[h];show(if t.isIo=true then none else some (st.set i s))=_;rw[Af (by rw[n];decide),e]
theorem n6 {α:Type} (f:α->D):∀(xs:List α) (i:Nat),(xs.map f).eraseIdx i=(xs.eraseIdx i).map f
 | [],_=>by simp
 | x::xs,0=>by simp
 | x::xs,i+1=>by simp[n6 f xs i]
theorem yf {xs:List D} {i:Int} (h0:0<=i) (h1:i<xs.length) (h2:xs.length<=1000000) (hk:i.toNat<xs.length):oM (.lst xs) [.int i]=some (xs[i.toNat],.lst (xs.eraseIdx i.toNat)):=by
 show(if -(2 ^ 63)<=i/\i<2 ^ 63 then(seqIndex? i xs.length).bind fun k=>(xs[k]?).bind fun y=>some (y,D.lst (xs.eraseIdx k)) else none)=_;rw[Ae ⟨by lia,by lia⟩,PySem.seqIndex_of h0 h1]
 show(xs[i.toNat]?).bind (fun y=>some (y,D.lst (xs.eraseIdx i.toNat)))=_;rw[Za hk];rfl
theorem CO {α:Type} {f:α->D} {xs:List α} {i:Nat} {x:α} (h:xs[i]?=some x) (hl:xs.length<=1000):oM (.lst (xs.map f)) [.int (i:Int)]=some (f x,.lst ((xs.eraseIdx i).map f)):=by
 have hi:=(Vb.mp h).1;have:=yf (xs:=xs.map f) (i:=(i:Int)) (by lia) (by rw[Ya];lia) (by rw[Ya];lia) (by rw[Ya];lia)
 have e1:((i:Int)).toNat=i:=by lia
 have e2:(xs.map f)[((i:Int)).toNat]?=some (f x):=by rw[e1,Wb,h];rfl
 obtain⟨_,e3⟩:=Vb.mp e2;rw[this,e3,e1,n6]
theorem CP {a b:List D} (h:a.length+b.length<=1000000):b9 (.lst a) (.lst b)=some (.lst (a++b),true):=by
 have e1:wK (.lst a) (.lst b)=none:=rfl;have e2:wP (.lst a) (.lst b)=none:=rfl;have e3:zJ (.lst a) (.lst b)=some (.lst (a++b),true):=by simp only[zJ];rw[Ae h]
 unfold b9 ke;rw[e1,e2,e3]
end VF
namespace K40
open PySem L2 VF VF22
def sx (m:Nat):List Int:=(List.range m).map fun t=>((t+1:Nat):Int)
theorem GM (m:Nat):(sx m).Nodup:=sw (fun a b h=>by have h':((a+1:Nat):Int)=((b+1:Nat):Int):=h;lia) AN
theorem lK {m:Nat} {x:Int} (h:x∈sx m):1<=x/\x<=m:=by
 obtain⟨t,ht,rfl⟩:=Wa.mp h;have:=Qb.mp ht;lia
theorem CQ (m:Nat):rng 1 m=(sx m).map D.int:=by
 unfold rng sx;rw[Xe];exact Wf fun t _=>by show D.int (1+(t:Int))=D.int ((t+1:Nat):Int);congr 1;lia
theorem sy {l:List Int} {i:Nat} {x:Int} (h:l[i]?=some x):l.Perm (x::l.eraseIdx i):=by
 have hi:i<l.length:=(Vb.mp h).1;have ex:l[i]=x:=(Vb.mp h).2;rw[List.eraseIdx_eq_take_drop_succ];have:l=l.take i++x::l.drop (i+1):=by
  rw[← ex,← Vj hi,List.take_append_drop]
 exact(List.Perm.of_eq this).trans List.perm_middle
structure Blk (most:Int) (b:List Int):Prop where
 mid:∃(mid:List Int) (m:Nat),b=(0::mid)++[((m+1:Nat):Int)]/\(mid.map ab).Perm (sx m)/\1<=m/\(m:Int)<=most
theorem sA {δ:D} {most:Int} {m:Nat} {left mid:List Int} {sg k:Int} (hδ:ji δ) (hl:left≠[]) (hl2:left.length<=100) (hm:mid.length<=100) (hs:sg=1∨sg=-1) (pos:∀y∈left,0<=y) :
  ∃δ' y z left',eU [.io δ,.v (.int most),.v (.int m),.o (IL left),.o (IL [1,sg]),.o (IL (0::mid)),.v (.int k)]=some (.nx [.io δ',.v (.int most),.v (.int m),.o (IL left'),.o (IL [1,sg]),.o (IL (0::(mid++[z]))),.v (.int k)])/\ji δ'/\left.Perm (y::left')/\ab z=y:=by
 have hp:0<left.length:=List.length_pos_iff.mpr hl;obtain⟨d1,δ1,e1,d10,d11,f1⟩:=dL (n:=(left.length:Int)) hδ (by lia) (by lia)
 obtain⟨d2,δ2,e2,d20,d21,f2⟩:=dL (n:=2) f1 (by decide) (by decide)
 obtain⟨i,rfl⟩:=Xk d10;have hi:i<left.length:=by lia
 have hx:left[i]?=some left[i]:=Za hi;have hy:=pos left[i] (Yj hi);obtain⟨s,es,hs'⟩:∃s,dE (IL [1,sg]) (.int d2)=some (.int s,false)/\(s=1∨s=-1):=by
  have:d2=0∨d2=1:=by lia
  rcases this with rfl|rfl
  ·exact⟨1,rfl,.inl rfl⟩
  ·exact⟨sg,rfl,hs⟩
 refine⟨δ2,left[i],left[i]*s,left.eraseIdx i,?_,f2,sy hx,?_⟩
 ·have ln:cC [IL left]=some (.int left.length,false):=by
   show some (D.int ((left.map D.int).length:Nat),false)=_;rw[Ya]
  refine cX (me rfl rfl rfl (ap (ar (r1:=.d (.int left[i])) (me rfl rfl rfl (ap (fA rfl rfl (ap (aZ rfl rfl ln) rfl) rfl rfl rfl e1) rfl) rfl rfl rfl (CO hx (by lia))) (ar rfl (fA rfl rfl rfl rfl rfl rfl e2) rfl rfl es) rfl rfl (dA (.inr ?_))) rfl) rfl rfl rfl (app_ev ?_) ?_)
  ·rcases hs' with rfl|rfl<;>decide
  ·simp only[Ya,Zd];lia
  ·show [_,_,_,_,_,Sl.o _,_]=[_,_,_,_,_,Sl.o _,_];simp[Sl.put]
 ·rcases hs' with rfl|rfl
  ·rw[Int.mul_one];unfold ab;rw[Af (by lia)]
  ·unfold ab;split<;>lia
theorem qR {δ:D} {most:Int} (hδ:ji δ) (h0:1<=most) (h1:most<=90):∃b δ',de δ [.int most]=some ((IL b,true),δ')/\Blk most b/\ji δ':=by
 obtain⟨d1,δ1,e1,d10,d11,f1⟩:=dL (n:=most) hδ (by lia) (by lia)
 obtain⟨d2,δ2,e2,d20,d21,f2⟩:=dL (n:=3) f1 (by decide) (by decide)
 obtain⟨c,rfl⟩:=Xk d10;have hm:(1:Int)+(c:Int)=((c+1:Nat):Int):=by lia
 obtain⟨sg,esg,hsg⟩:∃sg:Int,(1:Int)-2*(if decide (d2=0)=true then 1 else 0)=sg/\(sg=1∨sg=-1):=by
  by_cases q:d2=0
  ·exact⟨-1,by simp[q],.inr rfl⟩
  ·exact⟨1,by simp[q],.inl rfl⟩
 obtain⟨sf,el,δ3,left,mid,s6,rfl,f3,pm,ln,_⟩:=bE (fg:=gN 6) (B:=eU) (fun t:Nat=>D.int (0+(t:Int))) (List.range (c+1)) (fun gone st=>∃δ' left mid s6,st=[.io δ',.v (.int most),.v (.int ((c+1:Nat):Int)),.o (IL left),.o (IL [1,sg]),.o (IL (0::mid)),s6]/\ji δ'/\(left++mid.map ab).Perm (sx (c+1))/\mid.length=gone.length/\s6.isIo=false)
  (by
   rintro gone t rest st ha ⟨δ',left,mid,s6,rfl,hf,pm,hl,h6⟩;have tl:gone.length+rest.length+1=c+1:=by
    have:=congrArg List.length ha;rw[Wc,Va,Zd]at this;lia
   have ll:left.length+mid.length=c+1:=by
    have:=pm.length_eq;rw[Va,Ya]at this;rw[this];unfold sx;rw[Ya,Wc]
   obtain⟨δ4,y,z,left',eb,f4,py,hz⟩:=sA (δ:=δ') (most:=most) (m:=c+1) (left:=left) (mid:=mid) (sg:=sg) (k:=0+(t:Int)) hf (fun z=>by rw[z,Zg]at ll;lia) (by lia) (by lia) hsg (fun y hy=>by
    have:=lK (pm.mem_iff.mp (Qm _ hy));lia)
   refine⟨_,_,n5 (t:=s6) rfl h6,eb,δ4,left',mid++[z],.v (.int (0+(t:Int))),rfl,f4,?_,by simp[hl],rfl⟩
   refine List.Perm.trans ?_ pm;rw[Ve,BK,hz,← Yk];refine List.perm_append_comm.trans ?_
   exact(List.Perm.append_right (mid.map ab) py).symm)
  (List.range (c+1)) [] [.io δ2,.v (.int most),.v (.int ((c+1:Nat):Int)),.o (IL (sx (c+1))),.o (IL [1,sg]),.o (IL [0]),.e] rfl ⟨δ2,sx (c+1),[],.e,rfl,f2,by simp,rfl,rfl⟩
 rw[Wc]at ln;have ll:left=[]:=by
  have:=pm.length_eq;rw[Va,Ya,ln]at this;unfold sx at this;rw[Ya,Wc]at this;exact Ym (by lia)
 subst ll;rw[List.nil_append]at pm;refine⟨(0::mid)++[((c+1+1:Nat):Int)],δ3,?_,⟨mid,c+1,rfl,pm,by lia,by lia⟩,f3⟩
 refine ii (o:=.rt (.f (IL ((0::mid)++[((c+1+1:Nat):Int)]))) [.io δ3,.v (.int most),.v (.int ((c+1:Nat):Int)),.o (IL []),.o (IL [1,sg]),.o (IL (0::mid)),s6]) rfl ?_ rfl;refine aw (s:=[.io δ1,.v (.int most),.v (.int ((c+1:Nat):Int)),.e,.e,.e,.e]) (cE (ar rfl (fA rfl rfl rfl rfl rfl rfl e1) rfl rfl (z:=(.int ((c+1:Nat):Int),false)) (by show some (D.int (1+(c:Int)),false)=_;rw[hm])) rfl) ?_
 refine aw (s:=[.io δ1,.v (.int most),.v (.int ((c+1:Nat):Int)),.o (IL (sx (c+1))),.e,.e,.e]) (fw (x:=IL (sx (c+1))) (s:=[.io δ1,.v (.int most),.v (.int ((c+1:Nat):Int)),.e,.e,.e,.e]) ?_ rfl) ?_
 ·have r:=GJ (fa:=ad (fC (.int 1)) (ad (aH b9 (aP 2) (fC (.int 1))) aq)) (st:=[.io δ1,.v (.int most),.v (.int ((c+1:Nat):Int)),.e,.e,.e,.e]) rfl rfl (i:=1) (j:=((c+1:Nat):Int)+1) ⟨by lia,by lia,by lia,by lia,by lia⟩
  have e:(((c+1:Nat):Int)+1-1).toNat=c+1:=by lia
  rw[e,CQ]at r;exact r
 refine aw (s:=[.io δ2,.v (.int most),.v (.int ((c+1:Nat):Int)),.o (IL (sx (c+1))),.o (IL [1,sg]),.e,.e]) (fw (x:=IL [1,sg]) (gh (ap rfl (ap (ar rfl (ar rfl (aZ (ap (ar (fA rfl rfl rfl rfl rfl rfl e2) rfl rfl rfl pq) rfl) rfl (z:=(.int (if decide (d2=0)=true then 1 else 0),false)) rfl) rfl rfl (dA (.inl ⟨by decide,by decide⟩))) rfl rfl (z:=(.int sg,false)) (by rw[← esg];rfl)) rfl)) rfl (by simp)) rfl) ?_
 refine aw (s:=[.io δ2,.v (.int most),.v (.int ((c+1:Nat):Int)),.o (IL (sx (c+1))),.o (IL [1,sg]),.o (IL [0]),.e]) rfl ?_;refine aw (cF (jx (j:=((c+1:Nat):Int)) rfl rfl ⟨by lia,by lia⟩) el) ?_
 exact cn (ar rfl rfl rfl rfl (z:=(IL ((0::mid)++[((c+1+1:Nat):Int)]),true)) (by
  have:=CP (a:=(0::mid).map D.int) (b:=[D.int (((c+1:Nat):Int)+1)]) (by simp only[Ya,Zd,Zg];lia)
  refine this.trans ?_
  rw[IL,Ve];rfl))
theorem yg {most:Int} {b:List Int} (B:Blk most b):∃b0 last,b=b0++[last]/\Nm last b/\2<=last/\last<=most+1/\(b0.length:Int)=last/\∃r,b0=0::r:=by
 obtain⟨mid,m,rfl,pm,h1,h2⟩:=B;have lm:mid.length=m:=by
  have:=pm.length_eq;rw[Ya]at this;rw[this];unfold sx;rw[Ya,Wc]
 have e:(((0::mid)++[((m+1:Nat):Int)]).map ab)=0::(mid.map ab++[((m+1:Nat):Int)]):=by
  rw[Ve,Vd,BK];have a1:ab 0=0:=rfl;have a2:ab ((m+1:Nat):Int)=((m+1:Nat):Int):=by unfold ab;rw[Af (by lia)]
  rw[a1,a2];rfl
 refine⟨0::mid,_,rfl,⟨?_,fun n hn=>?_⟩,by lia,by lia,by rw[Zd,lm],_,rfl⟩
 ·rw[e];have pn:(mid.map ab).Nodup:=pm.nodup_iff.mpr (GM m);rw[Vg];refine⟨fun z=>?_,Wi.mpr ⟨pn,by simp,fun a ha b hb=>?_⟩⟩
  ·rcases Vf.mp z with z|z
   ·have:=lK (pm.mem_iff.mp z);lia
   ·have:=Ye.mp z;lia
  ·have:=lK (pm.mem_iff.mp ha);rw[Ye.mp hb];lia
 ·have hm:ab n∈((0::mid)++[((m+1:Nat):Int)]).map ab:=Bz hn;rw[e]at hm;rcases Xd.mp hm with z|z
  ·lia
  ·rcases Vf.mp z with z|z
   ·have:=lK (pm.mem_iff.mp z);lia
   ·have:=Ye.mp z;lia
theorem hV (ns:List Int):cC [IL ns]=some (.int ns.length,false):=by
 show some (D.int ((ns.map D.int).length:Nat),false)=_;rw[Ya]
structure Ln (ns:List Int):Prop where
 nm:Nm ((ns.length:Int)-1) ns
 hd:∃r,ns=0::r
 la:∃r,ns=r++[(ns.length:Int)-1]
 two:2<=ns.length
theorem GN {b0:List Int} {last:Int} (B:Nm last (b0++[last])) (hl:2<=last) (ln:(b0.length:Int)=last) (h0:∃r,b0=0::r):Ln (b0++[last]):=by
 have e:((b0++[last]).length:Int)-1=last:=by rw[Va,Vc];lia
 refine⟨by rw[e];exact B,?_,⟨b0,by rw[e]⟩,by lia⟩
 obtain⟨r,rfl⟩:=h0;exact⟨r++[last],rfl⟩
theorem GO {ns b0:List Int} {h last:Int} (L:Ln ns) (B:Nm last (b0++[last])) (hl:2<=last) (ln:(b0.length:Int)=last) (h0:∃r,b0=0::r) (hh:h∈ns):Ln (li ns h last (b0++[last])):=by
 have hpl:=qQ (blk:=b0++[last]) (last:=last) (ya L.nm.nd) hh;have lb:(((b0++[last]).length:Nat):Int)=last+1:=by rw[Va,Vc];lia
 have e:((li ns h last (b0++[last])).length:Int)-1=(ns.length:Int)-1+last:=by lia
 have two:=L.two;refine⟨by rw[e];exact GL L.nm B (by lia) hh,?_,?_,by lia⟩
 ·obtain⟨r,er⟩:=L.hd;rw[er];unfold li;rw[Xi];unfold gi;have a0:ab 0=0:=rfl;rw[a0,Af (by have:=yb h;lia)]
  by_cases c:(0:Int)≠h
  ·rw[Ae c];exact⟨_,rfl⟩
  ·rw[Af c];have:h=0:=by lia
   subst this;rw[Ae (by decide)]
   obtain⟨r,rfl⟩:=h0;exact⟨_,rfl⟩
 ·rw[e];obtain⟨r,er⟩:=L.la;have hm:(ns.length:Int)-1∈ns:=by
   have:(ns.length:Int)-1∈r++[(ns.length:Int)-1]:=by simp
   rwa [← er]at this
  have hle:=L.nm.le h hh;generalize (ns.length:Int)-1=m at *;have m1:1<=m:=by lia
  have am:ab m=m:=by unfold ab;rw[Af (by lia)]
  rw[er];unfold li;rw[List.flatMap_append,Cj];by_cases c:ab h<ab m
  ·have:gi h last (b0++[last]) m=[m+last]:=by unfold gi;rw[Ae c];unfold gx;rw[Af (by lia)]
   rw[this];exact⟨_,rfl⟩
  ·have hm2:m=h:=pw L.nm.nd hm hh (by lia)
   subst hm2;have:gi m last (b0++[last]) m=b0.map (gx · m)++[m+last]:=by
    unfold gi;rw[Af c,Af (by simp),Ae (by lia),Ve]
    congr 1;show [gx last m]=_;unfold gx;rw[Af (by lia)];congr 1;lia
   rw[this,← Yk];exact⟨_,rfl⟩
theorem yh {δ:D} {most:Int} {ns:List Int} {k:Int} {s4 s5 s6:Sl} (hδ:ji δ) (h0:5<=most) (h1:most<=40) (N:Ln ns) (l1:(ns.length:Int)<=most+2) (i4:s4.isIo=false) (i5:s5.isIo=false) (i6:s6.isIo=false) :
  ∃δ' ns' t4 t5 t6,dr [.io δ,.v (.int most),.o (IL ns),.v (.int k),s4,s5,s6]=some (.nx [.io δ',.v (.int most),.o (IL ns'),.v (.int k),t4,t5,t6])/\ji δ'/\Ln ns'/\(ns'.length:Int)<=most+2/\t4.isIo=false/\t5.isIo=false/\t6.isIo=false:=by
 obtain⟨d1,δ1,e1,d10,d11,f1⟩:=dL (n:=3) hδ (by decide) (by decide)
 obtain⟨v,ev,v0,v1⟩:∃v,dE (.lst [.int 2,.int 4,.int most]) (.int d1)=some (.int v,false)/\1<=v/\v<=most:=by
  have:d1=0∨d1=1∨d1=2:=by lia
  rcases this with rfl|rfl|rfl
  ·exact⟨2,rfl,by lia,by lia⟩
  ·exact⟨4,rfl,by lia,by lia⟩
  ·exact⟨most,rfl,by lia,by lia⟩
 obtain⟨b,δ2,e2,B,f2⟩:=qR (most:=v) f1 v0 (by lia)
 obtain⟨b0,last,rfl,Bn,hl2,hl3,hl4,hl5⟩:=yg B;have l0:=N.two;obtain⟨d3,δ3,e3,d30,d31,f3⟩:=dL (n:=(ns.length:Int)) f2 (by lia) (by lia)
 obtain⟨i,rfl⟩:=Xk d30;have hi:i<ns.length:=by lia
 have hx:ns[i]?=some ns[i]:=Za hi;have hmem:ns[i]∈ns:=Yj hi;have main:∀st4:En,st4=[.io δ3,.v (.int most),.o (IL ns),.v (.int k),.v (.int (most+2-ns.length)),.o (IL (b0++[last])),.v (.int (i:Int))]->∃ns' t5,(kW (bc (aH Jy (aH fR (b8 cC (ad (aP 5) aq)) (fC (.int 1))) (aP 4))) (bm (cJ dI (ad (aP 2) (ad (aP 6) (ad (aP 5) aq)))) 2) dC) st4=some (.nx [.io δ3,.v (.int most),.o (IL ns'),.v (.int k),.v (.int (most+2-ns.length)),t5,.v (.int (i:Int))])/\Ln ns'/\(ns'.length:Int)<=most+2/\t5.isIo=false:=by
  rintro st4 rfl;have lb:(((b0++[last]).length:Nat):Int)=last+1:=by rw[Va,Vc];lia
  by_cases q:((b0++[last]).length:Int)-1<=most+2-ns.length
  ·have hpl:=qQ (blk:=b0++[last]) (last:=last) (ya N.nm.nd) hmem;refine⟨li ns ns[i] last (b0++[last]),.v (IL (b0++[last])),?_,GO N Bn hl2 hl4 hl5 hmem,by lia,rfl⟩
   refine km (aJ (ar (ar (aZ rfl rfl (hV _)) rfl rfl rfl rfl) rfl rfl rfl rfl) (c:=true) (by show some (decide (((b0++[last]).length:Int)-1<=most+2-ns.length))=_;rw[Ag q])) ?_
   have hz:ns.length*(b0.length+1)<=10000:=by
    have h1:ns.length<=42:=by lia
    have h2:b0.length+1<=42:=by lia
    exact Ze (Nat.mul_le_mul h1 h2) (by decide)
   exact fw (bQ rfl rfl (vC hx hz)) rfl
  ·refine⟨ns,.o (IL (b0++[last])),?_,N,l1,rfl⟩;exact jb (aJ (ar (ar (aZ rfl rfl (hV _)) rfl rfl rfl rfl) rfl rfl rfl rfl) (c:=false) (by show some (decide (((b0++[last]).length:Int)-1<=most+2-ns.length))=_;rw[Ad q])) rfl
 obtain⟨ns',t5,em,m1,m3,m4⟩:=main _ rfl;refine⟨δ3,ns',.v (.int (most+2-ns.length)),t5,.v (.int (i:Int)),?_,f3,m1,m3,rfl,m4,rfl⟩;refine aw (s:=[.io δ,.v (.int most),.o (IL ns),.v (.int k),.v (.int (most+2-ns.length)),s5,s6]) (cE (x:=.int (most+2-ns.length)) (ar (ar rfl rfl rfl rfl rfl) (aZ rfl rfl (hV ns)) rfl rfl rfl) (fPut_ev (t:=s4) rfl i4)) ?_;refine aw (s:=[.io δ2,.v (.int most),.o (IL ns),.v (.int k),.v (.int (most+2-ns.length)),.o (IL (b0++[last])),s6]) (fw (fA rfl rfl (ap (ar (gh rfl rfl (by simp)) (fA rfl rfl rfl rfl rfl rfl e1) rfl rfl ev) rfl) rfl rfl rfl e2) (fPut_ev (t:=s5) rfl i5)) ?_
 refine aw (s:=[.io δ3,.v (.int most),.o (IL ns),.v (.int k),.v (.int (most+2-ns.length)),.o (IL (b0++[last])),.v (.int (i:Int))]) (cE (x:=.int (i:Int)) (fA rfl rfl (ap (aZ rfl rfl (hV ns)) rfl) rfl rfl rfl e3) (fPut_ev (t:=s6) rfl i6)) ?_;exact em
theorem sB {δ:D} {most:Int} (hδ:ji δ) (h0:5<=most) (h1:most<=40):∃ns δ',eV δ [.int most]=some ((IL ns,true),δ')/\Ln ns/\ns.length<=42/\ji δ':=by
 obtain⟨d1,δ1,e1,d10,d11,f1⟩:=dL (n:=3) hδ (by decide) (by decide)
 obtain⟨ns0,δ2,eA,N0,l1,f2⟩:∃ns0 δ2,(kW (bc (aH DF (pK bn 0 (ad (fC (.int 3)) aq)) (fC (.int 0)))) (bm (pK de 0 (ad (b8 (b2 F6) (ad (aP 1) (ad (fC (.int 6)) aq))) aq)) 2) dC) [.io δ,.v (.int most),.o (IL [0,1]),.e,.e,.e,.e]=some (.nx [.io δ2,.v (.int most),.o (IL ns0),.e,.e,.e,.e])/\Ln ns0/\(ns0.length:Int)<=most+2/\ji δ2:=by
  by_cases q:d1=0
  ·obtain⟨mn,emn,mn0,mn1⟩:∃mn:Int,(if (6:Int)<most then 6 else most)=mn/\1<=mn/\mn<=most:=by
    by_cases z:(6:Int)<most
    ·exact⟨6,Ae z,by lia,by lia⟩
    ·exact⟨most,Af z,by lia,by lia⟩
   obtain⟨b,δ2,e2,B,f2⟩:=qR (most:=mn) f1 mn0 (by lia)
   obtain⟨b0,last,rfl,Bn,hl2,hl3,hl4,hl5⟩:=yg B;refine⟨b0++[last],δ2,?_,GN Bn hl2 hl4 hl5,by rw[Va,Vc];lia,f2⟩
   refine km (s:=[.io δ1,.v (.int most),.o (IL [0,1]),.e,.e,.e,.e]) (aJ (ar (fA rfl rfl rfl rfl rfl rfl e1) rfl rfl rfl pq) (by show some (decide (d1=0))=_;rw[Ag q])) ?_
   exact fw (fA rfl rfl (ap (aZ rfl rfl (z:=(.int mn,false)) (by rw[← emn];rfl)) rfl) rfl rfl rfl e2) rfl
  ·refine⟨[0,1],δ1,jb (s:=[.io δ1,.v (.int most),.o (IL [0,1]),.e,.e,.e,.e]) (aJ (ar (fA rfl rfl rfl rfl rfl rfl e1) rfl rfl rfl pq) (by show some (decide (d1=0))=_;rw[Ad q])) rfl,⟨⟨by decide,fun n hn=>?_⟩,⟨[1],rfl⟩,⟨[0],rfl⟩,by decide⟩,by show((2:Nat):Int)<=_;lia,f1⟩
   rcases Xd.mp hn with rfl|hn
   ·decide
   ·rw[Ye.mp hn];decide
 obtain⟨d3,δ3,e3,d30,d31,f3⟩:=dL (n:=5) f2 (by decide) (by decide)
 obtain⟨r,rfl⟩:=Xk d30;obtain⟨sf,el,δ4,ns,s3,s4,s5,s6,rfl,f4,N4,l5,_⟩:=bE (fg:=gN 3) (B:=dr) (fun t:Nat=>D.int (0+(t:Int))) (List.range (r+1)) (fun gone st=>∃δ' ns s3 s4 s5 s6,st=[.io δ',.v (.int most),.o (IL ns),s3,s4,s5,s6]/\ji δ'/\Ln ns/\(ns.length:Int)<=most+2/\s3.isIo=false/\s4.isIo=false/\s5.isIo=false/\s6.isIo=false)
  (by
   rintro gone t rest st ha ⟨δ',ns,s3,s4,s5,s6,rfl,hf,N,k1,i3,i4,i5,i6⟩;obtain⟨δ5,ns',t4,t5,t6,eb,g1,g2,g4,g5,g6,g7⟩:=yh (k:=0+(t:Int)) hf h0 h1 N k1 i4 i5 i6
   exact⟨_,_,n5 (t:=s3) rfl i3,eb,δ5,ns',.v (.int (0+(t:Int))),t4,t5,t6,rfl,g1,g2,g4,rfl,g5,g6,g7⟩)
  (List.range (r+1)) [] [.io δ3,.v (.int most),.o (IL ns0),.e,.e,.e,.e] rfl ⟨δ3,ns0,.e,.e,.e,.e,rfl,f3,N0,l1,rfl,rfl,rfl,rfl⟩
 refine⟨ns,δ4,?_,N4,by lia,f4⟩
 refine ii (o:=.rt (.s 2) [.io δ4,.v (.int most),.o (IL ns),s3,s4,s5,s6]) rfl ?_ rfl;refine aw (s:=[.io δ,.v (.int most),.o (IL [0,1]),.e,.e,.e,.e]) rfl ?_;refine aw eA ?_;have hr:(1:Int)+(r:Int)=((r+1:Nat):Int):=by lia
 refine aw (cF (ds:=(List.range (r+1)).map fun t:Nat=>D.int (0+(t:Int))) (s1:=[.io δ3,.v (.int most),.o (IL ns0),.e,.e,.e,.e]) ?_ el) rfl;have:=jx (fa:=ad (aH b9 (fC (.int 1)) (pK bn 0 (ad (fC (.int 5)) aq))) aq) (st:=[.io δ2,.v (.int most),.o (IL ns0),.e,.e,.e,.e]) (j:=((r+1:Nat):Int)) (rs:=[.d (.int ((r+1:Nat):Int))]) (s1:=[.io δ3,.v (.int most),.o (IL ns0),.e,.e,.e,.e]) (ap (ar rfl (fA rfl rfl rfl rfl rfl rfl e3) rfl rfl (z:=(.int ((r+1:Nat):Int),false)) (by rw[← hr];rfl)) rfl) rfl ⟨by lia,by lia⟩
 exact this
end K40
set_option linter.all false
namespace K40
theorem hW {α:Type} [DecidableEq α]:∀{l m:List α},l.Nodup->l ⊆ m->l.length<=m.length
 | [],_,_,_=>Wh _
 | a::l,m,nd,sub=>by
  rw[Vg]at nd;have ha:a∈m:=sub Wd;have h:=hW (m:=m.erase a) nd.2 fun x hx=>(List.mem_erase_of_ne (fun e=>nd.1 (by rw[← e];exact hx))).mpr (sub (Yc _ hx))
  rw[List.length_erase_of_mem ha]at h;have:=Ch ha;rw[Zd];lia
def tw (x:Nat):Nat:=if x % 2=0 then x+1 else x-1
theorem iO (x:Nat):tw (tw x)=x:=by unfold tw;split<;>split<;>lia
theorem yi (x:Nat):tw x≠x:=by unfold tw;split<;>lia
theorem eI (x:Nat):tw x / 2=x / 2:=by unfold tw;split<;>lia
theorem iP {x N:Nat} (h:x<2*N):tw x<2*N:=by unfold tw;split<;>lia
theorem px {x y:Nat} (h:x / 2=y / 2):x=y∨x=tw y:=by unfold tw;split<;>lia
structure Pm (N:Nat) (q q':Nat->Nat):Prop where
 lt:∀p,p<2*N->q p<2*N
 lt':∀p,p<2*N->q' p<2*N
 l:∀p,p<2*N->q' (q p)=p
 r:∀p,p<2*N->q (q' p)=p
theorem Pm.symm (h:Pm N q q'):Pm N q' q:=⟨h.lt',h.lt,h.r,h.l⟩
def ta (q q':Nat->Nat) (p:Nat):Nat:=q' (tw (q p))
section
variable {N:Nat} {q q':Nat->Nat}
theorem uq (h:Pm N q q') {p:Nat} (hp:p<2*N):ta q q' p<2*N:=h.lt' _ (iP (h.lt p hp))
theorem n8 (h:Pm N q q') {p:Nat} (hp:p<2*N):ta q q' (ta q q' p)=p:=by
 unfold ta;rw[h.r _ (iP (h.lt p hp)),iO,h.l p hp]
theorem IF (h:Pm N q q') {p:Nat} (hp:p<2*N):ta q q' p≠p:=fun e=>by
 have:=congrArg q e;unfold ta at this;rw[h.r _ (iP (h.lt p hp))]at this;exact yi _ this
inductive Cn (q q':Nat->Nat) (a:Nat):Nat->Prop
 | refl:Cn q q' a a
 | tw {b:Nat}:Cn q q' a b->Cn q q' a (tw b)
 | ta {b:Nat}:Cn q q' a b->Cn q q' a (ta q q' b)
theorem Cn.trans {a b c:Nat} (h1:Cn q q' a b) (h2:Cn q q' b c):Cn q q' a c:=by
 induction h2 with
 | refl=>exact h1
 | tw _ ih=>exact .tw ih
 | ta _ ih=>exact .ta ih
theorem Cn.lt (h:Pm N q q') {a b:Nat} (ha:a<2*N) (c:Cn q q' a b):b<2*N:=by
 induction c with
 | refl=>exact ha
 | tw _ ih=>exact iP ih
 | ta _ ih=>exact uq h ih
theorem Cn.symm (h:Pm N q q') {a b:Nat} (ha:a<2*N) (c:Cn q q' a b):Cn q q' b a:=by
 induction c with
 | refl=>exact .refl
 | @tw b c ih =>
  have:Cn q q' (K40.tw b) b:=by
   have:=Cn.tw (Cn.refl (q:=q) (q':=q') (a:=K40.tw b));rwa [iO]at this
  exact this.trans ih
 | @ta b c ih =>
  have:Cn q q' (K40.ta q q' b) b:=by
   have:=Cn.ta (Cn.refl (q:=q) (q':=q') (a:=K40.ta q q' b));rwa [n8 h (c.lt h ha)]at this
  exact this.trans ih
def Rp (q q':Nat->Nat) (k j:Nat):Prop:=Cn q q' (2*k) (2*j)
theorem pz {a b:Nat} (c:Cn q q' a b):Cn q q' a (2*(b / 2)):=by
 by_cases e:b % 2=0
 ·have:2*(b / 2)=b:=by lia
  rwa [this]
 ·have:2*(b / 2)=tw b:=by unfold tw;rw[Af e];lia
  rw[this];exact .tw c
theorem qS {a b:Nat} (c:Cn q q' a (2*(b / 2))):Cn q q' a b:=by
 by_cases e:b % 2=0
 ·have:2*(b / 2)=b:=by lia
  rwa [this]at c
 ·have:b=tw (2*(b / 2)):=by unfold tw;rw[Ae (by lia)];lia
  rw[this];exact .tw c
theorem ut (k:Nat):Rp q q' k k:=.refl
theorem pA (h:Pm N q q') {k j:Nat} (hk:k<N) (r:Rp q q' k j):Rp q q' j k:=Cn.symm h (by lia) r
theorem jO {i j k:Nat} (a:Rp q q' i j) (b:Rp q q' j k):Rp q q' i k:=Cn.trans a b
theorem IG (h:Pm N q q') {k j:Nat} (hk:k<N) (r:Rp q q' k j):j<N:=by
 have:=Cn.lt h (by lia) r;lia
def wk (q q':Nat->Nat) (p:Nat):Nat->Nat
 | 0=>p
 | n+1=>tw (ta q q' (wk q q' p n))
theorem kO (h:Pm N q q') {p:Nat} (hp:p<2*N):∀n,wk q q' p n<2*N
 | 0=>hp
 | n+1=>iP (uq h (kO h hp n))
theorem DZ {p:Nat}:∀n,Cn q q' p (wk q q' p n)
 | 0=>.refl
 | n+1=>.tw (.ta (DZ n))
def hX (q q':Nat->Nat) (p m:Nat):List Nat:=(List.range m).map fun i=>wk q q' p i / 2
theorem pts_mem {p m x:Nat}:x∈hX q q' p m↔∃i,i<m/\wk q q' p i / 2=x:=by
 unfold hX;simp[Wa,Qb]
theorem qT (p m:Nat):hX q q' p (m+1)=hX q q' p m++[wk q q' p m / 2]:=by
 unfold hX;rw[AE,Ve];rfl
theorem gk (p m:Nat):(hX q q' p m).length=m:=by unfold hX;simp
theorem yj {p m i j:Nat} (nd:(hX q q' p m).Nodup) (hi:i<m) (hj:j<m) (e:wk q q' p i / 2=wk q q' p j / 2):i=j:=by
 have h:=BW (h₀:=by rw[gk];exact hi) (h₁:=by rw[gk];exact hj) nd (xs:=hX q q' p m)
 exact h.mp (by unfold hX;simpa using e)
theorem CS (h:Pm N q q') {p m:Nat} (hp:p<2*N) (nd:(hX q q' p m).Nodup) (hm:wk q q' p m / 2∈hX q q' p m):wk q q' p m=p:=by
 obtain⟨j,hj,e⟩:=pts_mem.mp hm;obtain⟨n,rfl⟩:∃n,m=n+1:=⟨m-1,by lia⟩
 have ln:=kO (q:=q) (q':=q') h hp n;have lj:=kO (q:=q) (q':=q') h hp j;rcases px e.symm with z|z
 ·cases j with
  | zero=>exact z
  | succ i =>
   exfalso
   have z1:tw (ta q q' (wk q q' p n))=tw (ta q q' (wk q q' p i)):=z;have z2:=congrArg tw z1;rw[iO,iO]at z2;have z3:=congrArg (ta q q') z2;rw[n8 h ln,n8 h (kO h hp i)]at z3;have:=yj nd (i:=n) (j:=i) (by lia) (by lia) (by rw[z3])
   lia
 ·exfalso
  have z1:tw (ta q q' (wk q q' p n))=tw (wk q q' p j):=z;have z2:=congrArg tw z1;rw[iO,iO]at z2;have z3:ta q q' (wk q q' p j)=wk q q' p n:=by rw[← z2,n8 h ln]
  by_cases c:j=n
  ·rw[c]at z2;exact IF h ln z2
  ·have z4:wk q q' p (j+1)=tw (wk q q' p n):=by show tw (ta q q' (wk q q' p j))=_;rw[z3]
   have:=yj nd (i:=j+1) (j:=n) (by lia) (by lia) (by rw[z4,eI])
   rw[this]at z4;exact yi _ z4.symm
theorem yk (h:Pm N q q') {p m:Nat} (hp:p<2*N) (nd:(hX q q' p m).Nodup) (hm:wk q q' p m / 2∈hX q q' p m) (x:Nat):x∈hX q q' p m↔Cn q q' p (2*x):=by
 have eb:=CS h hp nd hm;have m0:0<m:=by obtain⟨j,hj,_⟩:=pts_mem.mp hm;lia
 constructor
 ·intro z;obtain⟨i,_,rfl⟩:=pts_mem.mp z;exact pz (DZ i)
 ·intro z;have key:∀b,Cn q q' p b->∃i,i<m/\(b=wk q q' p i∨b=tw (wk q q' p i)):=by
   intro b c;induction c with
   | refl=>exact⟨0,m0,.inl rfl⟩
   | tw _ ih =>
    obtain⟨i,hi,z|z⟩:=ih
    ·exact⟨i,hi,.inr (by rw[z])⟩
    ·exact⟨i,hi,.inl (by rw[z,iO])⟩
   | ta _ ih =>
    obtain⟨i,hi,z|z⟩:=ih
    ·have e:ta q q' (wk q q' p i)=tw (wk q q' p (i+1)):=by show _=tw (tw _);rw[iO]
     by_cases c:i+1<m
     ·exact⟨i+1,c,.inr (by rw[z,e])⟩
     ·have:i+1=m:=by lia
      exact⟨0,m0,.inr (by rw[z,e,this,eb];rfl)⟩
    ·cases i with
     | zero =>
      obtain⟨n,rfl⟩:∃n,m=n+1:=⟨m-1,by lia⟩
      refine⟨n,by lia,.inl ?_⟩
      have e:tw (ta q q' (wk q q' p n))=p:=eb;have e2:=congrArg tw e;rw[iO]at e2;rw[z];show ta q q' (tw p)=_;rw[← e2,n8 h (kO h hp n)]
     | succ j =>
      refine⟨j,by lia,.inl ?_⟩
      rw[z];show ta q q' (tw (tw _))=_;rw[iO,n8 h (kO h hp j)]
  obtain⟨i,hi,z|z⟩:=key _ z
  ·exact pts_mem.mpr ⟨i,hi,by rw[← z];lia⟩
  ·refine pts_mem.mpr ⟨i,hi,?_⟩;have:=congrArg (· / 2) z;simp only[eI]at this;lia
theorem kC (h:Pm N q q') {p m:Nat} (hp:p<2*N) (nd:(hX q q' p m).Nodup):m<=N:=by
 have sub:hX q q' p m ⊆ List.range N:=fun x hx=>by
  obtain⟨i,_,rfl⟩:=pts_mem.mp hx;have:=kO (q:=q) (q':=q') h hp i;exact Qb.mpr (by lia)
 have:=hW nd sub;rwa [gk,Wc]at this
open Classical
noncomputable def cls (N:Nat) (q q':Nat->Nat) (k:Nat):List Nat:=(List.range N).filter fun j=>decide (Rp q q' k j)
theorem pB (h:Pm N q q') {k j:Nat} (hk:k<N):j∈cls N q q' k↔Rp q q' k j:=by
 unfold cls;rw[Zl,Qb,decide_eq_true_iff];exact⟨fun z=>z.2,fun z=>⟨IG h hk z,z⟩⟩
theorem GP (k:Nat):(cls N q q' k).Nodup:=A8 Vk AN
theorem GQ (k:Nat):(cls N q q' k).Pairwise (·<·):=Cr Vk Qh
theorem CT (k:Nat):(cls N q q' k).length<=N:=by
 have:=List.length_filter_le (fun j=>decide (Rp q q' k j)) (List.range N);rw[Wc]at this;exact this
noncomputable def rl (N:Nat) (q q':Nat->Nat):Nat->List (List Nat)
 | 0=>[]
 | t+1=>if t∈(rl N q q' t).flatten then rl N q q' t else rl N q q' t++[cls N q q' t]
theorem kD (h:Pm N q q'):∀{t:Nat},t<=N->∀k,k∈(rl N q q' t).flatten↔∃j,j<t/\Rp q q' j k
 | 0,_,k=>by simp[rl]
 | t+1,ht,k=>by
  have ih:=kD h (t:=t) (by lia)
  unfold rl;by_cases c:t∈(rl N q q' t).flatten
  ·rw[Ae c,ih k];refine⟨fun⟨j,hj,r⟩=>⟨j,by lia,r⟩,fun⟨j,hj,r⟩=>?_⟩
   by_cases e:j=t
   ·subst e;obtain⟨i,hi,ri⟩:=(ih j).mp c;exact⟨i,hi,jO ri r⟩
   ·exact⟨j,by lia,r⟩
  ·rw[Af c,BB,Vf,ih k];show _∨k∈[cls N q q' t].flatten↔_;rw[Ci,pB h (by lia)]
   refine⟨fun z=>z.elim (fun⟨j,hj,r⟩=>⟨j,by lia,r⟩) fun r=>⟨t,by lia,r⟩,fun⟨j,hj,r⟩=>?_⟩
   by_cases e:j=t
   ·subst e;exact .inr r
   ·exact .inl ⟨j,by lia,r⟩
theorem IH (t:Nat):∀l∈rl N q q' t,∃k,k<t/\l=cls N q q' k:=by
 induction t with
 | zero=>intro l hl;cases hl
 | succ t ih =>
  intro l hl;unfold rl at hl;split at hl
  ·obtain⟨k,hk,e⟩:=ih l hl;exact⟨k,by lia,e⟩
  ·rcases Vf.mp hl with z|z
   ·obtain⟨k,hk,e⟩:=ih l z;exact⟨k,by lia,e⟩
   ·exact⟨t,by lia,Ye.mp z⟩
theorem yl (t:Nat):(rl N q q' t).length<=t:=by
 induction t with
 | zero=>exact Xa _
 | succ t ih =>
  unfold rl;split
  ·lia
  ·rw[Va];show _+1<=_;lia
noncomputable def vD (q q':Nat->Nat) (t:Nat):List Nat:=(List.range t).filter fun k=>decide (∀j,j<k->¬ Rp q q' j k)
theorem sC (h:Pm N q q'):∀{t:Nat},t<=N->(rl N q q' t).length=(vD q q' t).length
 | 0,_=>rfl
 | t+1,ht=>by
  have ih:=sC h (t:=t) (by lia)
  unfold rl;have er:vD q q' (t+1)=vD q q' t++if (∀j,j<t->¬ Rp q q' j t) then [t] else []:=by
   unfold vD;rw[AE,List.filter_append];congr 1;by_cases c:∀j,j<t->¬ Rp q q' j t
   ·rw[Ae c,Bk,Ae (Ag c)];rfl
   ·rw[Af c,Bk,Af (by simpa using c)];rfl
  rw[er,Va];by_cases c:t∈(rl N q q' t).flatten
  ·rw[Ae c];obtain⟨j,hj,r⟩:=(kD h (by lia) t).mp c
   rw[Af (fun z=>z j hj r)];exact ih
  ·rw[Af c,Ae (fun j hj r=>c ((kD h (by lia) t).mpr ⟨j,hj,r⟩)),Va,ih];rfl
theorem least {P:Nat->Prop}:∀n,P n->∃m,m<=n/\P m/\∀j,j<m->¬ P j:=by
 intro n;induction n using Nat.strongRecOn with
 | ind n ih =>
  intro hn;by_cases c:∃j,j<n/\P j
  ·obtain⟨j,hj,pj⟩:=c;obtain⟨m,h1,h2,h3⟩:=ih j hj pj;exact⟨m,by lia,h2,h3⟩
  ·exact⟨n,Xa _,hn,fun j hj pj=>c ⟨j,hj,pj⟩⟩
theorem CU (h:Pm N q q') {a b:Nat} (ha:a<2*N) (c:Cn q q' a b):Cn q' q (q a) (q b):=by
 induction c with
 | refl=>exact .refl
 | @tw b c ih =>
  have hb:=c.lt h ha;have:=Cn.ta ih;unfold K40.ta at this;rwa [h.l b hb]at this
 | @ta b c ih =>
  have hb:=c.lt h ha;unfold K40.ta;rw[h.r _ (iP (h.lt b hb))];exact .tw ih
theorem yn (h:Pm N q q'):(vD q q' N).length<=(vD q' q N).length:=by
 have ex:∀k,∃m,k<N->m<N/\Rp q' q (q (2*k) / 2) m/\∀j,j<m->¬ Rp q' q (q (2*k) / 2) j:=fun k=>by
  by_cases hk:k<N
  ·have hl:=h.lt (2*k) (by lia)
   obtain⟨m,h1,h2,h3⟩:=least (P:=fun j=>Rp q' q (q (2*k) / 2) j) _ (ut (q (2*k) / 2));exact⟨m,fun _=>⟨by lia,h2,h3⟩⟩
  ·exact⟨0,fun z=>absurd z hk⟩
 let f:=fun k=>Classical.choose (ex k)
 have hf:∀k,k<N->f k<N/\Rp q' q (q (2*k) / 2) (f k)/\∀j,j<f k->¬ Rp q' q (q (2*k) / 2) j:=fun k=>Classical.choose_spec (ex k);have rlt:∀k,k∈vD q q' N->k<N/\∀j,j<k->¬ Rp q q' j k:=fun k hk=>by
  have z:=Zl.mp hk;exact⟨Qb.mp z.1,Ao z.2⟩
 have inj:∀a∈vD q q' N,∀b∈vD q q' N,f a=f b->a=b:=fun a ha b hb e=>by
  obtain⟨la,na⟩:=rlt a ha;obtain⟨lb,nb⟩:=rlt b hb;have r1:=(hf a la).2.1;have r2:=(hf b lb).2.1;rw[← e]at r2;have hqb:=h.lt (2*b) (by lia)
  have hqa:=h.lt (2*a) (by lia)
  have r3:Rp q' q (q (2*a) / 2) (q (2*b) / 2):=jO r1 (pA h.symm (by lia) r2)
  have c1:Cn q' q (q (2*a)) (q (2*b)):=by
   have c0:Cn q' q (q (2*a)) (2*(q (2*a) / 2)):=pz .refl;exact qS (c0.trans r3)
  have c2:=CU h.symm hqa c1;rw[h.l _ (by lia),h.l _ (by lia)]at c2
  rcases Nat.lt_trichotomy a b with z|z|z
  ·exact absurd c2 (nb a z)
  ·exact z
  ·exact absurd (pA h la c2) (na b z)
 have nd:((vD q q' N).map f).Nodup:=by
  show List.Pairwise _ _;rw[Qf];have nr:(vD q q' N).Nodup:=A8 Vk AN;exact Aw (fun {a b} ha hb n e=>n (inj a ha b hb e)) nr
 have sub:(vD q q' N).map f ⊆ vD q' q N:=fun x hx=>by
  obtain⟨k,hk,rfl⟩:=Wa.mp hx;obtain⟨lk,_⟩:=rlt k hk;obtain⟨h1,h2,h3⟩:=hf k lk;refine Zl.mpr ⟨Qb.mpr h1,Ag fun j hj r=>h3 j hj ?_⟩;exact jO h2 (pA h.symm (by lia) r)
 have:=hW nd sub;rwa [Ya]at this
theorem GR (h:Pm N q q'):(rl N q q' N).length=(rl N q' q N).length:=by
 rw[sC h (Xa _),sC h.symm (Xa _)];exact Nat.le_antisymm (yn h) (yn h.symm)
end
end K40
namespace K40
open PySem L2 VF VF22
theorem put_ev {mm:D->D->D->Option D} {fe fi:FE} {i:Nat} {st s1 s2 s3:En} {r rk:Rs} {dv dk z z':D} {t t0:Sl} {x0:D} (h1:fe st=some (r,s1)) (h2:esc r s1=some (dv,s2)) (h0:s2[i]?=some t0) (h00:t0.ow=some x0) (h3:fi s2=some (rk,s3)) (h4:cont s3 rk=some dk) (h5:s3[i]?=some t) (h6:t.ow=some z) (h7:mm z dk dv=some z') {s4:En} (h8:s3.set i (t.put z')=s4:=by rfl):iY mm fe i fi st=some (.nx s4):=by
 simp only[iY,h1,h2,h0,h00,h3,h4,h5,h6,h7,h8,Qa]
theorem fPut_ev {i:Nat} {s t:Sl} {st s1:En} (h:st[i]?=some t) (n:t.isIo=false) (e:st.set i s=s1:=by rfl):kc i s st=some s1:=by
 unfold kc;rw[h];show(if t.isIo=true then none else some (st.set i s))=_;rw[Af (by rw[n];decide),e]
theorem app_ev {xs:List D} {y:D} (h:xs.length<1000000):cW (.lst xs) [y]=some (.non,.lst (xs++[y])):=by
 show(if xs.length<1000000 then some (D.non,D.lst (xs++[y])) else none)=_;rw[Ae h]
section
variable {κ:Type} [DecidableEq κ]
theorem vE {kvs:List (κ×D)} {k:κ}:(bS kvs k).isSome=true↔k∈kvs.map (·.1):=by
 unfold bS;rw[Bc,List.find?_isSome];exact⟨fun⟨x,hx,e⟩=>Wa.mpr ⟨x,hx,Ao e⟩,fun z=>let ⟨x,hx,e⟩:=Wa.mp z;⟨x,hx,Ag e⟩⟩
theorem lL {kvs:List (κ×D)} {k:κ} {d:D} (h:k∉kvs.map (·.1)):kZ kvs k d=kvs++[(k,d)]:=by
 unfold kZ;rw[Af];intro z;obtain⟨x,hx,e⟩:=List.any_eq_true.mp z;exact h (Wa.mpr ⟨x,hx,Ao e⟩)
end
structure EK (α:Type) where
 eT:α->List D
 kE:α->List Key
 key:∀e,jC (eT e)=some (kE e)
 inj:∀{a b},kE a=kE b->a=b
 pl:∀n e,Pl (n+2) (.tup (eT e))
 cp:∀n a b,Cp (n+2) (.tup (eT a)) (.tup (eT b))
section
variable {α:Type} (X:EK α)
def EK.eD (e:α):D:=.tup (X.eT e)
def EK.jD (j:List α):D:=.tup (j.map X.eD)
def EK.tE (e:α):aN:=.inl (X.kE e)
def EK.tJ (j:List α):aN:=.inr (j.map X.kE)
theorem EK.te (e:α):dX (X.eT e)=some (X.tE e):=by
 unfold dX;rw[X.key];rfl
theorem EK.nest:∀j:List α,qC (j.map X.eD)=some (j.map X.kE)
 | []=>rfl
 | e::r=>by
  show(jC (X.eT e)).bind (fun k=>(qC (r.map X.eD)).bind fun ks=>some (k::ks))=_;rw[X.key,EK.nest r];rfl
theorem EK.tj {j:List α} (h:j≠[]):dX (j.map X.eD)=some (X.tJ j):=by
 have e:jC (j.map X.eD)=none:=by
  cases j with
  | nil=>exact absurd rfl h
  | cons e r=>rfl
 unfold dX;rw[e,X.nest];show(if j.map X.kE=[] then none else some (Sum.inr (j.map X.kE)))=_;rw[Af fun z=>h (List.map_eq_nil_iff.mp z)];rfl
theorem EK.te_inj {a b:α} (h:X.tE a=X.tE b):a=b:=X.inj (Sum.inl.inj h)
theorem qU {β γ:Type} {f:β->γ} (h:∀{a b},f a=f b->a=b):∀{xs ys:List β},xs.map f=ys.map f->xs=ys
 | [],[],_=>rfl
 | [],_::_,e=>(by cases e)
 | _::_,[],e=>(by cases e)
 | x::xs,y::ys,e=>by
  rw[Vd,Vd]at e;injection e with e1 e2;rw[h e1,qU h e2]
theorem EK.tj_inj {a b:List α} (h:X.tJ a=X.tJ b):a=b:=qU X.inj (Sum.inr.inj h)
variable {X}
theorem II {kvs:List (aN×D)} {e:α} {d:D} (h:bS kvs (X.tE e)=some d):gr (.dt kvs) (X.eD e)=some (d,false):=by
 show(((dX (X.eT e)).bind fun ks=>some (bS kvs ks)).bind fun o=>o.bind fun d=>some (d,false))=_;rw[X.te];show((some (bS kvs (X.tE e))).bind fun o=>o.bind fun d=>some (d,false))=_;rw[h];rfl
theorem Jl {kvs:List (aN×D)} {j:List α} {c:Bool} (hj:j≠[]) (h:c=true↔X.tJ j∈kvs.map (·.1)):z9 true (X.jD j) (.dt kvs)=some (.bl (!c),false):=by
 show((dX (j.map X.eD)).bind fun ks=>some (bS kvs ks)).bind (fun o=>some (D.bl (if true=true then !o.isSome else o.isSome),false))=_;rw[X.tj hj];show some (D.bl (!(bS kvs (X.tJ j)).isSome),false)=_;have e:(bS kvs (X.tJ j)).isSome=c:=by
  rw[Zf,h];exact vE
 rw[e]
theorem IJ {kvs:List (aN×D)} {e:α} {d:D} (h:kvs.length<100000):fD (.dt kvs) (X.eD e) d=some (.dt (kZ kvs (X.tE e) d)):=by
 show(dX (X.eT e)).bind (fun ks=>if kvs.length<100000 then some (D.dt (kZ kvs ks d)) else none)=_;rw[X.te];show(if kvs.length<100000 then _ else _)=_;rw[Ae h]
theorem GS {kvs:List (aN×D)} {j:List α} {d:D} (hj:j≠[]) (h:kvs.length<100000):fD (.dt kvs) (X.jD j) d=some (.dt (kZ kvs (X.tJ j) d)):=by
 show(dX (j.map X.eD)).bind (fun ks=>if kvs.length<100000 then some (D.dt (kZ kvs ks d)) else none)=_;rw[X.tj hj];show(if kvs.length<100000 then _ else _)=_;rw[Ae h]
variable (X) in
def yZ (j:List α) (g:List α):List (aN×D):=g.map fun e=>(X.tE e,X.jD j)
variable (X) in
def bA (js:List (List α)):List (aN×D):=js.flatMap fun j=>yZ X j j
theorem jP:∀js:List (List α),(bA X js).map (·.1)=js.flatten.map X.tE
 | []=>rfl
 | j::r=>by
  unfold bA;rw[Xi,Ve,Wl,Ve];have:=jP r;unfold bA at this;rw[this];unfold yZ;rw[Xe];rfl
theorem CV (js:List (List α)):(bA X js).length=js.flatten.length:=by
 have:=congrArg List.length (jP (X:=X) js);rwa [Ya,Ya]at this
theorem D0 {d:D} {js:List (List α)} (h0:nP (aP 0) [.v d,.o (.dt []),.e,.e]=some (js.map X.jD,[.v d,.o (.dt []),.e,.e])) (nd:js.flatten.Nodup) (hl:js.flatten.length<10000):eF [d]=some (.dt (bA X js),true):=by
 obtain⟨sf,el,s2,s3,rfl,i2,i3⟩:=bE (fg:=gN 2) (B:=iE) X.jD js (fun g st=>∃s2 s3,st=[.v d,.o (.dt (bA X g)),s2,s3]/\s2.isIo=false/\s3.isIo=false)
  (by
   rintro g j r st ha ⟨s2,s3,rfl,i2,i3⟩;have e1:js.flatten=(g.flatten++j)++r.flatten:=by rw[ha,BB,Wl];simp
   rw[e1]at nd hl;rw[Va,Va]at hl;have nd1:=(Wi.mp nd).1;obtain⟨sf,el,t3,rfl,j3⟩:=bE (fg:=gN 3) (B:=iC) X.eD j (fun h st=>∃s3,st=[.v d,.o (.dt (bA X g++yZ X j h)),.v (X.jD j),s3]/\s3.isIo=false)
    (by
     rintro h e r' st hb ⟨s3,rfl,i3⟩;have new:X.tE e∉(bA X g++yZ X j h).map (·.1):=fun z=>by
      rw[Ve,jP]at z;have z2:X.tE e∈(g.flatten++h).map X.tE:=by
       rw[Ve];unfold yZ at z;rw[Xe]at z;exact z
      obtain⟨f,hf,ef⟩:=Wa.mp z2;rw[X.te_inj ef]at hf;rw[hb,← Yk,Wi]at nd1;exact nd1.2.2 e hf e Wd rfl
     have len:(bA X g++yZ X j h).length<100000:=by
      have hbl:=congrArg List.length hb;rw[Va,Zd]at hbl;rw[Va,CV];unfold yZ;rw[Ya];lia
     refine⟨_,_,fPut_ev (t:=s3) rfl i3,put_ev rfl rfl rfl rfl rfl rfl rfl rfl (by rw[IJ len,lL new]),.v (X.eD e),?_,rfl⟩
     show _=([.v d,.o (.dt (bA X g++yZ X j (h++[e]))),.v (X.jD j),_]:En);unfold yZ
     rw[Ve,← Yk];rfl)
    j [] [.v d,.o (.dt (bA X g)),.v (X.jD j),s3] rfl ⟨s3,by simp[yZ],i3⟩
   refine⟨_,_,fPut_ev (t:=s2) rfl i2,cF (qr rfl rfl) el,.v (X.jD j),t3,?_,rfl,j3⟩;unfold bA
   rw[List.flatMap_append,Cj])
  js [] [.v d,.o (.dt []),.e,.e] rfl ⟨.e,.e,rfl,rfl,rfl⟩
 refine bt (o:=.rt (.s 1) [.v d,.o (.dt (bA X js)),s2,s3]) rfl ?_ rfl;exact aw (s:=[.v d,.o (.dt []),.e,.e]) rfl (aw (cF h0 el) rfl)
end
end K40
namespace K40
open PySem L2 VF VF22
noncomputable section
open Classical in
theorem jQ {κ:Type} [DecidableEq κ]:∀{kvs:List (κ×D)} {k:κ} {d:D},(k,d)∈kvs->(kvs.map (·.1)).Nodup->bS kvs k=some d
 | [],_,_,h,_=>(by cases h)
 | (k',d')::r,k,d,h,nd=>by
  rw[Vd,Vg]at nd;unfold bS;rw[Xh];rcases Xd.mp h with z|z
  ·cases z;rw[Ag rfl];rfl
  ·have ne:k'≠k:=fun q=>nd.1 (q ▸ Wa.mpr ⟨_,z,rfl⟩);rw[Ad ne];exact jQ z nd.2
section
variable {α:Type} {X:EK α}
theorem CW {js:List (List α)} (nd:js.flatten.Nodup) {j:List α} {e:α} (hj:j∈js) (he:e∈j):bS (bA X js) (X.tE e)=some (X.jD j):=by
 refine jQ (List.mem_flatMap.mpr ⟨j,hj,Wa.mpr ⟨e,he,rfl⟩⟩) ?_;rw[jP];show List.Pairwise _ _;rw[Qf];exact nd.imp fun n z=>n (X.te_inj z)
variable (X) in
def gw (V:List (List α)):List (aN×D):=V.map fun j=>(X.tJ j,.bl true)
theorem vis_mem {V:List (List α)} {j:List α}:X.tJ j∈(gw X V).map (·.1)↔j∈V:=by
 unfold gw;rw[Xe];constructor
 ·intro z;obtain⟨k,hk,e⟩:=Wa.mp z;exact X.tj_inj e ▸ hk
 ·exact fun z=>Wa.mpr ⟨j,z,rfl⟩
open Classical in
def add (V:List (List α)) (j:List α):List (List α):=if j∈V then V else V++[j]
theorem uv (V:List (List α)) (j:List α):kZ (gw X V) (X.tJ j) (.bl true)=gw X (add V j):=by
 unfold add;by_cases c:j∈V
 ·rw[Ae c];unfold kZ;rw[Ae]
  ·unfold gw;rw[Xe];refine Wf fun k _=>?_;show(if X.tJ k=X.tJ j then(X.tJ k,D.bl true) else(X.tJ k,D.bl true))=_;split<;>rfl
  ·refine List.any_eq_true.mpr ⟨(X.tJ j,.bl true),Wa.mpr ⟨j,c,rfl⟩,Ag rfl⟩
 ·rw[Af c,lL fun z=>c (vis_mem.mp z)];unfold gw;rw[Ve];rfl
open Classical in
def st1 (p:List (List α)×List (List α)) (o:List α):List (List α)×List (List α):=if o∈p.1 then p else(p.1++[o],p.2++[o])
theorem uw (os:List (List α)):∀p:List (List α)×List (List α),(os.foldl st1 p).1.length<=p.1.length+os.length/\(os.foldl st1 p).2.length<=p.2.length+os.length:=by
 induction os with
 | nil=>exact fun p=>⟨Xa _,Xa _⟩
 | cons o r ih =>
  intro p;have h:=ih (st1 p o);have a:(st1 p o).1.length<=p.1.length+1/\(st1 p o).2.length<=p.2.length+1:=by
   unfold st1;split
   ·exact⟨by lia,by lia⟩
   ·simp
  rw[Yg,Zd];exact⟨by lia,by lia⟩
theorem JG {V:List (List α)} {o:List α} (no:o≠[]) (h:V.length<10000) (c:o∉V):fD (.dt (gw X V)) (X.jD o) (.bl true)=some (.dt (gw X (V++[o]))):=by
 have vl:(gw X V).length=V.length:=Ya _;rw[GS no (by lia),uv]
 unfold add;rw[Af c]
theorem IM {V:List (List α)} {o:List α} (no:o≠[]) (h:V.length<10000):fD (.dt (gw X V)) (X.jD o) (.bl true)=some (.dt (gw X (add V o))):=by
 have vl:(gw X V).length=V.length:=Ya _;rw[GS no (by lia),uv]
variable (X) in
abbrev pS (a0:Sl) (A1 A2:D) (T V Q:List (List α)) (s6 s7 s8:Sl):En:=[a0,.v A1,.v A2,.o (.dt (gw X V)),.o (.dt (gw X T)),.o (.lst (Q.map X.jD)),s6,s7,s8,.e]
theorem jk {fg:FG} {B:FS} {x:D} {r:List D} {st s1 s2:En} (h1:fg x st=some s1) (h2:B s1=some (.nx s2)):dD fg B (x::r) st=dD fg B r s2:=by
 simp only[dD,h1,h2,Qa]
variable {a0 s6 s7 s8:Sl} {A1 A2:D} {T V Q:List (List α)}
theorem Kn {o:List α} (no:o≠[]) (h1:V.length<9000) (h2:Q.length<9000):dY (pS X a0 A1 A2 T V Q s6 s7 (.v (X.jD o)))=some (.nx (pS X a0 A1 A2 T (st1 (V,Q) o).1 (st1 (V,Q) o).2 s6 s7 (.v (X.jD o)))):=by
 unfold st1;by_cases c:o∈V
 ·rw[Ae c];exact jb (aJ (ar rfl rfl rfl rfl (Jl (c:=true) no ⟨fun _=>vis_mem.mpr c,fun _=>rfl⟩)) rfl) rfl
 ·rw[Af c];refine km (aJ (ar rfl rfl rfl rfl (Jl (c:=false) no ⟨fun z=>(by cases z),fun z=>absurd (vis_mem.mp z) c⟩)) rfl) ?_
  refine aw (s:=pS X a0 A1 A2 T (V++[o]) Q s6 s7 (.v (X.jD o))) (put_ev rfl rfl rfl rfl rfl rfl rfl rfl (JG no (by lia) c)) ?_
  exact cX (me rfl rfl rfl rfl rfl rfl rfl (app_ev (by rw[Ya];lia)) (by
   show _=pS X a0 A1 A2 T (V++[o]) (Q++[o]) s6 s7 (.v (X.jD o));unfold pS
   rw[Ve (l₁:=Q)];rfl))
theorem in1 {os:List (List α)} (ne:∀o∈os,o≠[]) (h1:V.length+os.length<9000) (h2:Q.length+os.length<9000) (i8:s8.isIo=false) :
  ∃t8,dD (gN 8) dY (os.map X.jD) (pS X a0 A1 A2 T V Q s6 s7 s8)=some (.nx (pS X a0 A1 A2 T (os.foldl st1 (V,Q)).1 (os.foldl st1 (V,Q)).2 s6 s7 t8))/\t8.isIo=false:=by
 induction os generalizing V Q s8 with
 | nil=>exact⟨s8,rfl,i8⟩
 | cons o r ih =>
  rw[Zd]at h1 h2;have a:=uw [o] (V,Q);rw[Yg,Ca,Vc]at a;have b:(st1 (V,Q) o).1.length<=V.length+1/\(st1 (V,Q) o).2.length<=Q.length+1:=a;obtain⟨t8,e,j⟩:=ih (V:=(st1 (V,Q) o).1) (Q:=(st1 (V,Q) o).2) (s8:=.v (X.jD o)) (fun x hx=>ne x (Yc _ hx)) (by lia) (by lia) rfl
  refine⟨t8,?_,j⟩;rw[Vd,jk (fPut_ev (t:=s8) rfl i8) (Kn (ne o Wd) (by lia) (by lia))]
  exact e
end
end
end K40
namespace K40
open PySem L2 VF VF22
noncomputable section
section
variable {α:Type}
theorem n9:∀{js:List (List α)},js.flatten.Nodup->∀{j j':List α} {e:α},j∈js->j'∈js->e∈j->e∈j'->j=j'
 | [],_,_,_,_,h,_,_,_=>(by cases h)
 | k::r,nd,j,j',e,h1,h2,h3,h4=>by
  rw[Wl,Wi]at nd;rcases Xd.mp h1 with z|z<;>rcases Xd.mp h2 with w|w
  ·rw[z,w]
  ·exact absurd rfl (nd.2.2 e (z ▸ h3) e (Zh.mpr ⟨j',w,h4⟩))
  ·exact absurd rfl (nd.2.2 e (w ▸ h4) e (Zh.mpr ⟨j,z,h3⟩))
  ·exact n9 nd.2.1 z w h3 h4
open Classical in
def jt (js:List (List α)) (e:α):List α:=(js.find? fun j=>decide (e∈j)).getD []
open Classical in
theorem jR {js:List (List α)} {e:α} (h:e∈js.flatten):jt js e∈js/\e∈jt js e:=by
 obtain⟨j,hj,he⟩:=Zh.mp h;obtain⟨k,hk⟩:∃k,js.find? (fun j=>decide (e∈j))=some k:=Vl.mp (List.find?_isSome.mpr ⟨j,hj,Ag he⟩);have q:jt js e=k:=by unfold jt;rw[hk];rfl
 rw[q];have h2:=B3 hk;exact⟨A9 hk,Ao h2⟩
theorem D1 {js:List (List α)} (nd:js.flatten.Nodup) {j:List α} {e:α} (hj:j∈js) (he:e∈j):jt js e=j:=by
 have h:=jR (Zh.mpr ⟨j,hj,he⟩);exact n9 nd h.1 hj h.2 he
theorem CY (os:List (List α)):∀(p:List (List α)×List (List α)) (x:List α),x∈(os.foldl st1 p).1↔x∈p.1∨x∈os:=by
 induction os with
 | nil=>intro p x;simp
 | cons o r ih =>
  intro p x;rw[Yg,ih];unfold st1;by_cases c:o∈p.1
  ·rw[Ae c,Xd];exact⟨fun z=>z.elim .inl fun z=>.inr (.inr z),fun z=>z.elim .inl fun z=>z.elim (fun z=>.inl (z ▸ c)) .inr⟩
  ·rw[Af c,Xd,Vf,Ye,or_assoc]
theorem GT (os:List (List α)):∀(p:List (List α)×List (List α)),p.1.Nodup->(os.foldl st1 p).1.Nodup:=by
 induction os with
 | nil=>exact fun p h=>h
 | cons o r ih =>
  intro p h;rw[Yg];refine ih _ ?_;unfold st1;by_cases c:o∈p.1
  ·rw[Ae c];exact h
  ·rw[Af c];refine Wi.mpr ⟨h,by simp,fun a ha b hb e=>c ?_⟩
   rw[Ye.mp hb]at e;exact e ▸ ha
theorem IN (os:List (List α)):∀(p:List (List α)×List (List α)) (x:List α),x∈(os.foldl st1 p).2↔x∈p.2∨(x∈os/\x∉p.1):=by
 induction os with
 | nil=>intro p x;simp
 | cons o r ih =>
  intro p x;rw[Yg,ih];unfold st1;by_cases c:o∈p.1
  ·rw[Ae c,Xd];exact⟨fun z=>z.elim .inl fun z=>.inr ⟨.inr z.1,z.2⟩,fun z=>z.elim .inl fun z=>z.1.elim (fun w=>absurd (w ▸ c) z.2) fun w=>.inr ⟨w,z.2⟩⟩
  ·rw[Af c,Xd];show x∈p.2++[o]∨(x∈r/\x∉p.1++[o])↔_;rw[Vf,Vf,Ye];by_cases e:x=o
   ·subst e;exact⟨fun _=>.inr ⟨.inl rfl,c⟩,fun _=>.inl (.inr rfl)⟩
   ·exact⟨fun z=>z.elim (fun z=>z.elim .inl fun w=>absurd w e) fun z=>.inr ⟨.inr z.1,fun w=>z.2 (.inl w)⟩,fun z=>z.elim (fun z=>.inl (.inl z)) fun z=>.inr ⟨z.1.resolve_left e,fun w=>w.elim z.2 e⟩⟩
theorem CZ (os:List (List α)):∀(p:List (List α)×List (List α)),(os.foldl st1 p).1.length+p.2.length=(os.foldl st1 p).2.length+p.1.length:=by
 induction os with
 | nil=>intro p;exact Bo _ _
 | cons o r ih =>
  intro p;rw[Yg];have h:=ih (st1 p o);have a:(st1 p o).1.length+p.2.length=(st1 p o).2.length+p.1.length:=by
   unfold st1;split
   ·exact Bo _ _
   ·simp only[Va,Vc];lia
  lia
theorem C0 {T:List (List α)} {t x:List α}:x∈add T t↔x∈T∨x=t:=by
 unfold add;split
 ·rename_i c;exact⟨.inl,fun z=>z.elim id fun z=>z ▸ c⟩
 ·rw[Vf,Ye]
theorem GU {T:List (List α)} {t:List α} (h:T.Nodup):(add T t).Nodup:=by
 unfold add;split
 ·exact h
 ·rename_i c
  refine Wi.mpr ⟨h,by simp,fun a ha b hb e=>c ?_⟩
  rw[Ye.mp hb]at e;exact e ▸ ha
theorem ee:∀(l T:List (List α)) (x:List α),x∈l.foldl add T↔x∈T∨x∈l
 | [],T,x=>by simp
 | t::l,T,x=>by rw[Yg,ee l,C0,Xd,or_assoc]
theorem ux:∀(l T:List (List α)),T.Nodup->(l.foldl add T).Nodup
 | [],T,h=>h
 | t::l,T,h=>ux l _ (GU h)
theorem jS:∀(l T:List (List α)),(l.foldl add T).length<=T.length+l.length
 | [],T=>Xa _
 | t::l,T=>by
  have h:=jS l (add T t);have a:(add T t).length<=T.length+1:=by unfold add;split<;>simp
  rw[Yg,Zd];lia
end
section
variable {α:Type} {X:EK α} {js ts:List (List α)} {a0 s6 s7 s8:Sl} {A1 A2:D} {T V Q:List (List α)}
theorem D2 (nd:js.flatten.Nodup) {e:α} (h:e∈js.flatten):gr (.dt (bA X js)) (X.eD e)=some (X.jD (jt js e),false) :=
 II (CW nd (jR h).1 (jR h).2)
theorem JH {t:List α} (nd:js.flatten.Nodup) (h:∀e∈t,e∈js.flatten):fv (gN 0) fO gU 1 (t.map X.eD) [.e,.v (.dt (bA X js))]=some (t.map fun e=>X.jD (jt js e),[.e,.v (.dt (bA X js))]) :=
 bK X.eD (fun e=>X.jD (jt js e)) _ t fun e he=>⟨_,_,_,_,_,rfl,rfl,ar rfl rfl rfl rfl (D2 nd (h e he)),rfl,rfl⟩
theorem Ko {t:List α} (nd:js.flatten.Nodup) (ne:∀j∈js,j≠[]) (nt:t≠[]) (ht:∀e∈t,e∈js.flatten) (l0:t.length<1000) (l1:V.length+t.length<9000) (l2:Q.length+t.length<9000) (l3:T.length<9000) (i8:s8.isIo=false) :
  ∃t8,dZ (pS X a0 (.dt (bA X js)) A2 T V Q s6 (.v (X.jD t)) s8)=some (.nx (pS X a0 (.dt (bA X js)) A2 (add T t) ((t.map (jt js)).foldl st1 (V,Q)).1 ((t.map (jt js)).foldl st1 (V,Q)).2 s6 (.v (X.jD t)) t8))/\t8.isIo=false:=by
 obtain⟨t8,e,j⟩:=in1 (X:=X) (a0:=a0) (A1:=.dt (bA X js)) (A2:=A2) (T:=add T t) (V:=V) (Q:=Q) (s6:=s6) (s7:=.v (X.jD t)) (s8:=s8) (os:=t.map (jt js)) (fun o ho=>by
  obtain⟨e,he,rfl⟩:=Wa.mp ho
  exact ne _ (jR (ht e he)).1) (by rw[Ya];exact l1) (by rw[Ya];exact l2) i8
 refine⟨t8,?_,j⟩;refine aw (s:=pS X a0 (.dt (bA X js)) A2 (add T t) V Q s6 (.v (X.jD t)) s8) (put_ev rfl rfl rfl rfl rfl rfl rfl rfl (IM nt (by lia))) ?_
 refine cF (jy (ci (qr rfl rfl) (ng (n:=1000) (by rw[Ya];lia) rfl) (JH nd ht)) rfl) ?_
 rw[Xe]at e;exact e
theorem Kj (nd:js.flatten.Nodup) (ne:∀j∈js,j≠[]):∀(l:List (List α)) (T V Q:List (List α)) (s7 s8:Sl),(∀t∈l,t≠[]/\t.length<1000/\∀e∈t,e∈js.flatten)->V.length+l.flatten.length<9000->Q.length+l.flatten.length<9000->T.length+l.length<9000->s7.isIo=false->s8.isIo=false ->
  ∃t7 t8,dD (gN 7) dZ (l.map X.jD) (pS X a0 (.dt (bA X js)) A2 T V Q s6 s7 s8)=some (.nx (pS X a0 (.dt (bA X js)) A2 (l.foldl add T) ((l.flatten.map (jt js)).foldl st1 (V,Q)).1 ((l.flatten.map (jt js)).foldl st1 (V,Q)).2 s6 t7 t8))/\t7.isIo=false/\t8.isIo=false
 | [],T,V,Q,s7,s8,_,_,_,_,i7,i8=>⟨s7,s8,rfl,i7,i8⟩
 | t::l,T,V,Q,s7,s8,h,l1,l2,l3,i7,i8=>by
  rw[Wl,Va]at l1 l2;rw[Zd]at l3;obtain⟨h1,h2,h3⟩:=h t Wd;obtain⟨t8,e,j8⟩:=Ko (X:=X) (a0:=a0) (A2:=A2) (T:=T) (V:=V) (Q:=Q) (s6:=s6) nd ne h1 h3 h2 (by lia) (by lia) (by lia) i8
  have a:=uw (t.map (jt js)) (V,Q);have b:=jS [t] T;rw[Ya]at a;rw[Yg,Ca,Vc]at b;have a':((t.map (jt js)).foldl st1 (V,Q)).1.length<=V.length+t.length/\((t.map (jt js)).foldl st1 (V,Q)).2.length<=Q.length+t.length:=a;obtain⟨t7,t8',e2,j7,j8'⟩:=Kj nd ne l (add T t) ((t.map (jt js)).foldl st1 (V,Q)).1 ((t.map (jt js)).foldl st1 (V,Q)).2 (.v (X.jD t)) t8 (fun x hx=>h x (Yc _ hx)) (by lia) (by lia) (by lia) rfl j8
  refine⟨t7,t8',?_,j7,j8'⟩;rw[Vd,jk (fPut_ev (t:=s7) rfl i7) e,e2,Wl,Ve,List.foldl_append,Yg]
end
end
end K40
namespace K40
open PySem L2 VF VF22
noncomputable section
theorem GV {α:Type} {f:α->D} (l:List α) (x:α):FR (.lst ((l++[x]).map f)) []=some (f x,.lst (l.map f)):=by
 show(((l++[x]).map f)[((l++[x]).map f).length-1]?).bind (fun y=>some (y,D.lst ((l++[x]).map f).dropLast))=_;simp
section
variable {α:Type} {X:EK α} {js ts:List (List α)} {a0 s6 s7 s8:Sl} {A1 A2:D} {T V Q:List (List α)}
structure Dw (js ts:List (List α)):Prop where
 nj:js.flatten.Nodup
 nt:ts.flatten.Nodup
 ej:∀j∈js,j≠[]/\j.length<=2
 et:∀j∈ts,j≠[]/\j.length<=2
 jt:∀e,e∈js.flatten->e∈ts.flatten
 tj:∀e,e∈ts.flatten->e∈js.flatten
 fj:js.length<60
 ft:ts.length<60
def nx (js ts:List (List α)) (j:List α):List (List α):=((j.map (jt ts)).flatten).map (jt js)
inductive Rc (js ts:List (List α)) (f:List α):List α->Prop
 | refl:Rc js ts f f
 | step {j k:List α}:Rc js ts f j->k∈nx js ts j->Rc js ts f k
theorem JI {t:List α} (nd:ts.flatten.Nodup) (h:∀e∈t,e∈ts.flatten):fv (gN 0) fO gS 1 (t.map X.eD) [.e,.v (.dt (bA X ts))]=some (t.map fun e=>X.jD (jt ts e),[.e,.v (.dt (bA X ts))]) :=
 bK X.eD (fun e=>X.jD (jt ts e)) _ t fun e he=>⟨_,_,_,_,_,rfl,rfl,ar rfl rfl rfl rfl (D2 nd (h e he)),rfl,rfl⟩
theorem eJ {β:Type}:∀{l:List (List β)} {n:Nat},(∀t∈l,t.length<=n)->l.flatten.length<=l.length*n
 | [],n,_=>by simp
 | t::l,n,h=>by
  have h1:=h t Wd;have h2:=eJ (l:=l) (n:=n) fun x hx=>h x (Yc _ hx);rw[Wl,Va,Zd,Nat.succ_mul];lia
theorem mI {l:List (List α)} {j:List α} {e:α} (hj:j∈l) (he:e∈j):e∈l.flatten:=Zh.mpr ⟨j,hj,he⟩
theorem D3 (W:Dw js ts) {j k:List α} (hj:j∈js) (hk:k∈nx js ts j):k∈js:=by
 obtain⟨e,he,rfl⟩:=Wa.mp hk;obtain⟨t,ht,he⟩:=Zh.mp he;obtain⟨e',he',rfl⟩:=Wa.mp ht;exact(jR (W.tj e (mI (jR (W.jt e' (mI hj he'))).1 he))).1
theorem turn (W:Dw js ts) {j:List α} (hj:j∈js) (l1:V.length<100) (l2:Q.length<100) (l3:T.length<100) (i6:s6.isIo=false) (i7:s7.isIo=false) (i8:s8.isIo=false) :
  ∃t6 t7 t8,cG (pS X a0 (.dt (bA X js)) (.dt (bA X ts)) T V (Q++[j]) s6 s7 s8)=some (.nx (pS X a0 (.dt (bA X js)) (.dt (bA X ts)) ((j.map (jt ts)).foldl add T) ((nx js ts j).foldl st1 (V,Q)).1 ((nx js ts j).foldl st1 (V,Q)).2 t6 t7 t8))/\t6.isIo=false/\t7.isIo=false/\t8.isIo=false:=by
 have inT:∀e∈j,e∈ts.flatten:=fun e he=>W.jt e (mI hj he);have l4:=(W.ej j hj).2;have hl:((j.map (jt ts)).flatten).length<=4:=by
  have:=eJ (l:=j.map (jt ts)) (n:=2) fun t ht=>by
   obtain⟨e,he,rfl⟩:=Wa.mp ht;exact(W.et _ (jR (inT e he)).1).2
  rw[Ya]at this;lia
 obtain⟨t7,t8,e,j7,j8⟩:=Kj (X:=X) (a0:=a0) (A2:=.dt (bA X ts)) (s6:=.v (X.jD j)) W.nj (fun j hj=>(W.ej j hj).1) (j.map (jt ts)) T V Q s7 s8 (fun t ht=>by
  obtain⟨e,he,rfl⟩:=Wa.mp ht;have h:=(jR (inT e he)).1
  exact⟨(W.et _ h).1,by have:=(W.et _ h).2;lia,fun e' he'=>W.tj e' (mI h he')⟩) (by lia) (by lia) (by rw[Ya];lia) i7 i8
 refine⟨.v (X.jD j),t7,t8,?_,rfl,j7,j8⟩;refine aw (s:=pS X a0 (.dt (bA X js)) (.dt (bA X ts)) T V Q (.v (X.jD j)) s7 s8) (cE (Ik rfl rfl rfl (GV (f:=X.jD) Q j)) (fPut_ev (t:=s6) rfl i6)) ?_;refine cF (jy (ci (qr rfl rfl) (ng (n:=1000) (by rw[Ya];lia) rfl) (JI W.nt inT)) rfl) ?_
 rw[Xe]at e;exact e
structure Wy (js ts:List (List α)) (f:List α) (m:Nat) (T V Q:List (List α)):Prop where
 nd:V.Nodup
 inn:∀j∈V,j∈js/\Rc js ts f j
 fst:f∈V
 sub:∀j∈Q,j∈V
 cl:∀j∈V,j∈Q∨((∀k∈nx js ts j,k∈V)/\∀e∈j,jt ts e∈T)
 td:T.Nodup
 tin:∀t∈T,∃j∈V,∃e∈j,t=jt ts e
 ql:Q.length<=V.length
 ms:m+V.length=js.length+Q.length
theorem Wy.t_in (W:Dw js ts) {f:List α} {m:Nat} (h:Wy js ts f m T V Q):∀t∈T,t∈ts:=fun t ht=>by
 obtain⟨j,hj,e,he,rfl⟩:=h.tin t ht;exact(jR (W.jt e (mI (h.inn j hj).1 he))).1
open Classical in
theorem Wy.lens (W:Dw js ts) {f:List α} {m:Nat} (h:Wy js ts f m T V Q):V.length<=js.length/\T.length<=ts.length :=
 ⟨hW h.nd fun j hj=>(h.inn j hj).1,hW h.td fun t ht=>h.t_in W t ht⟩
theorem C1 (W:Dw js ts) {f j:List α} {m:Nat} (h:Wy js ts f m T V (Q++[j])):∃m',m'<m/\Wy js ts f m' ((j.map (jt ts)).foldl add T) ((nx js ts j).foldl st1 (V,Q)).1 ((nx js ts j).foldl st1 (V,Q)).2:=by
 have hj:j∈V:=h.sub j (by simp)
 obtain⟨hjs,hr⟩:=h.inn j hj;have mem:=CY (nx js ts j) (V,Q);have memq:=IN (nx js ts j) (V,Q);have bal:=CZ (nx js ts j) (V,Q);have nd':=GT (nx js ts j) (V,Q) h.nd;have ms:=h.ms;have lens:=h.lens W;have ql:=h.ql;rw[Va,Vc]at ms ql;generalize (nx js ts j).foldl st1 (V,Q)=r at *;obtain⟨V',Q'⟩:=r;have bal':V'.length+Q.length=Q'.length+V.length:=bal;have inn':∀k∈V',k∈js/\Rc js ts f k:=fun k hk=>by
  rcases(mem k).mp hk with z|z
  ·exact h.inn k z
  ·exact⟨D3 W hjs z,hr.step z⟩
 have vl:V'.length<=js.length:=@hW _ (fun a b=>Classical.propDecidable _) _ _ nd' fun k hk=>(inn' k hk).1;have ge:V.length<=V'.length:=@hW _ (fun a b=>Classical.propDecidable _) _ _ h.nd fun k hk=>(mem k).mpr (.inl hk);refine⟨m-1,by lia,nd',inn',(mem f).mpr (.inl h.fst),fun k hk=>?_,fun k hk=>?_,ux _ _ h.td,fun t ht=>?_,?_,?_⟩
 ·rcases(memq k).mp hk with z|z
  ·exact(mem k).mpr (.inl (h.sub k (by simp[show k∈Q from z])))
  ·exact(mem k).mpr (.inr z.1)
 ·rcases(mem k).mp hk with z|z
  ·rcases h.cl k z with w|⟨w1,w2⟩
   ·rcases Vf.mp w with w|w
    ·exact .inl ((memq k).mpr (.inl w))
    ·rw[Ye.mp w];exact .inr ⟨fun k' hk'=>(mem k').mpr (.inr hk'),fun e he=>(ee _ _ _).mpr (.inr (Wa.mpr ⟨e,he,rfl⟩))⟩
   ·exact .inr ⟨fun k' hk'=>(mem k').mpr (.inl (w1 k' hk')),fun e he=>(ee _ _ _).mpr (.inl (w2 e he))⟩
  ·by_cases c:k∈V
   ·rcases h.cl k c with w|⟨w1,w2⟩
    ·rcases Vf.mp w with w|w
     ·exact .inl ((memq k).mpr (.inl w))
     ·rw[Ye.mp w];exact .inr ⟨fun k' hk'=>(mem k').mpr (.inr hk'),fun e he=>(ee _ _ _).mpr (.inr (Wa.mpr ⟨e,he,rfl⟩))⟩
    ·exact .inr ⟨fun k' hk'=>(mem k').mpr (.inl (w1 k' hk')),fun e he=>(ee _ _ _).mpr (.inl (w2 e he))⟩
   ·exact .inl ((memq k).mpr (.inr ⟨z,c⟩))
 ·rcases(ee _ _ _).mp ht with z|z
  ·obtain⟨k,hk,e,he,w⟩:=h.tin t z;exact⟨k,(mem k).mpr (.inl hk),e,he,w⟩
  ·obtain⟨e,he,rfl⟩:=Wa.mp z;exact⟨j,(mem j).mpr (.inl hj),e,he,rfl⟩
 ·show Q'.length<=V'.length;lia
 ·show m-1+V'.length=js.length+Q'.length;lia
theorem yo (W:Dw js ts) {f:List α} (hf:f∈js):∃V T t6 t7 t8,vM (pe (aP 5)) cG 1000 (pS X a0 (.dt (bA X js)) (.dt (bA X ts)) [] [f] [f] .e .e .e)=some (.nx (pS X a0 (.dt (bA X js)) (.dt (bA X ts)) T V [] t6 t7 t8))/\Wy js ts f (js.length-V.length) T V []:=by
 have l0:1<=js.length:=Ch hf;obtain⟨sf,e,T,V,t6,t7,t8,rfl,h⟩:=r6 (f:=pe (aP 5)) (B:=cG)
  (fun m st=>∃T V Q t6 t7 t8,st=pS X a0 (.dt (bA X js)) (.dt (bA X ts)) T V Q t6 t7 t8/\Wy js ts f m T V Q/\t6.isIo=false/\t7.isIo=false/\t8.isIo=false)
  (fun st=>∃T V t6 t7 t8,st=pS X a0 (.dt (bA X js)) (.dt (bA X ts)) T V [] t6 t7 t8/\Wy js ts f (js.length-V.length) T V [])
  (by
   rintro m st ⟨T,V,Q,t6,t7,t8,rfl,h,i6,i7,i8⟩;rcases List.eq_nil_or_concat Q with rfl|⟨Q0,j,rfl⟩
   ·refine .inl ⟨_,rfl,T,V,t6,t7,t8,rfl,h.nd,h.inn,h.fst,h.sub,h.cl,h.td,h.tin,h.ql,?_⟩;have:=h.ms;have:=(h.lens W).1;show js.length-V.length+V.length=js.length+0;lia
   ·rw[List.concat_eq_append]at h ⊢;have lens:=h.lens W;have ql:=h.ql;have:=W.fj;have:=W.ft;rw[Va,Vc]at ql;obtain⟨m',hm,h'⟩:=C1 W h;obtain⟨u6,u7,u8,e,k6,k7,k8⟩:=turn (X:=X) (a0:=a0) (T:=T) (V:=V) (Q:=Q0) (s6:=t6) (s7:=t7) (s8:=t8) W (h.inn j (h.sub j (by simp))).1 (by lia) (by lia) (by lia) i6 i7 i8
    refine .inr ⟨_,_,m',?_,e,hm,_,_,_,u6,u7,u8,rfl,h',k6,k7,k8⟩;show some (!((Q0++[j]).map X.jD).isEmpty,_)=_
    cases Q0<;>rfl)
  1000 js.length _ (by have:=W.fj;lia) ⟨[],[f],[f],.e,.e,.e,rfl,⟨by simp,fun j hj=>(by rw[Ye.mp hj];exact⟨hf,.refl⟩),by simp,fun j hj=>hj,fun j hj=>.inl hj,by simp,fun t ht=>(by cases ht),Xa _,rfl⟩,rfl,rfl,rfl⟩
 exact⟨V,T,t6,t7,t8,e,h⟩
theorem Wy.all {f:List α} {m:Nat} (h:Wy js ts f m T V []) (j:List α):j∈V↔Rc js ts f j:=by
 refine⟨fun z=>(h.inn j z).2,fun z=>?_⟩;induction z with
 | refl=>exact h.fst
 | step _ hk ih =>
  rcases h.cl _ ih with w|w
  ·cases w
  ·exact w.1 _ hk
end
end
end K40
namespace K40
open PySem L2 VF VF22
noncomputable section
theorem oa:∀{ds:List D} {ks:List Key},jC ds=some ks->ks.map o5=ds
 | [],ks,h=>by cases h;rfl
 | d::r,ks,h=>by
  obtain⟨k,h1,h⟩:=Wk.mp (show(vk d).bind _=_ from h);obtain⟨ks',h2,h⟩:=Wk.mp h;cases h;rw[Vd,oa h2];cases d<;>first|(cases h1;rfl)|cases h1
theorem mJ {α β:Type} {f:α->β}:∀{l:List β} {V:List α},l.Perm (V.map f)->∃W:List α,W.Perm V/\l=W.map f:=by
 intro l V h;have key:∀{l m:List β},l.Perm m->∀V:List α,m=V.map f->∃W:List α,W.Perm V/\l=W.map f:=by
  intro l m h;induction h with
  | nil=>intro V e;exact⟨V,List.Perm.refl _,e⟩
  | cons x _ ih =>
   intro V e;cases V with
   | nil=>cases e
   | cons v V =>
    rw[Vd]at e;injection e with e1 e2;obtain⟨W,p,q⟩:=ih V e2;exact⟨v::W,p.cons v,by rw[Vd,q,e1]⟩
  | swap x y l =>
   intro V e;cases V with
   | nil=>cases e
   | cons v V =>
    cases V with
    | nil=>cases e
    | cons w V =>
     rw[Vd,Vd]at e;injection e with e1 e2;injection e2 with e2 e3;exact⟨w::v::V,List.Perm.swap v w V,by rw[Vd,Vd,e1,e2,e3]⟩
  | trans _ _ ih1 ih2 =>
   intro V e;obtain⟨W,p,q⟩:=ih2 V e;obtain⟨W',p',q'⟩:=ih1 W q;exact⟨W',p'.trans p,q'⟩
 exact key h V rfl
theorem yp {fe:FE} {st s1 s2:En} {r:Rs} {d:D} {ds:List D} (h1:fe st=some (r,s1)) (h2:esc r s1=some (d,s2)) (h3:ip d=some ds):Ix fe st=some (ds,s2):=by
 simp only[Ix,h1,h2,h3,Qa]
section
variable {α:Type} {X:EK α} {js ts:List (List α)}
theorem IO (j:List α):fE (X.tJ j)=X.jD j:=by
 show D.tup ((j.map X.kE).map fun ks=>D.tup (ks.map o5))=D.tup (j.map X.eD);rw[Xe];congr 1;refine Wf fun e _=>?_;show D.tup ((X.kE e).map o5)=D.tup (X.eT e);rw[oa (X.key e)]
theorem qV (V:List (List α)):ip (.dt (gw X V))=some (V.map X.jD):=by
 show some ((gw X V).map fun kv=>fE kv.1)=_;unfold gw;rw[Xe];congr 1;exact Wf fun j _=>IO j
theorem IP (n:Nat) (j:List α):Pl (n+3) (X.jD j):=.tup fun d hd=>by
 obtain⟨e,_,rfl⟩:=Wa.mp hd;exact X.pl n e
theorem yq {β γ:Type} {f:β->D} {n:Nat} (h:∀a b,Cp n (f a) (f b)) (xs ys:List β):Cp (n+1) (.tup (xs.map f)) (.tup (ys.map f)):=fun i x y h1 h2=>by
 rw[Wb]at h1 h2;obtain⟨a,_,rfl⟩:=Xc.mp h1;obtain⟨b,_,rfl⟩:=Xc.mp h2;exact h a b
theorem IQ (n:Nat) (i j:List α):Cp (n+3) (X.jD i) (X.jD j):=yq (γ:=Nat) (X.cp n) i j
theorem D4 (n:Nat) (V:List (List α)):Pl (n+4) (.tup (V.map X.jD)):=.tup fun d hd=>by
 obtain⟨j,_,rfl⟩:=Wa.mp hd;exact IP n j
theorem D5 (n:Nat) (V W:List (List α)):Cp (n+4) (.tup (V.map X.jD)) (.tup (W.map X.jD)):=yq (γ:=Nat) (IQ n) V W
theorem qW {V:List (List α)} (ne:∀j∈V,j≠[]) (l:V.length<64):∃W:List (List α),W.Perm V/\kr [.dt (gw X V)]=some (.lst (W.map X.jD),true):=by
 obtain⟨W,p,e⟩:=mJ (f6 40 (V.map X.jD));refine⟨W,p,?_⟩;unfold kr;dsimp only;rw[qV];dsimp only;rw[Ae,e];refine⟨fun d hd=>?_,fun a ha b hb=>?_,⟨_,.tp (T:="tuple") (fun d hd=>?_)⟩,by rw[Ya];exact l⟩
 ·obtain⟨j,_,rfl⟩:=Wa.mp hd;exact IP 37 j
 ·obtain⟨i,_,rfl⟩:=Wa.mp ha;obtain⟨j,_,rfl⟩:=Wa.mp hb;exact IQ 37 i j
 ·obtain⟨j,hj,rfl⟩:=Wa.mp hd;cases j with
  | nil=>exact absurd rfl (ne _ hj)
  | cons e r=>exact⟨_,_,rfl,⟨(fun z=>by cases z),rfl⟩⟩
theorem uz {V:List (List α)} (two:∀j∈V,j.length=2) (l:V.length<1000):bX [.dt (gw X V)]=some (.int 0,false):=by
 have c:=fW (k:=1) (fg:=gN 0) (fc:=gQ) (fe:=gR) X.jD X.jD (fun _=>false) [.e] V fun j hj=>⟨_,_,rfl,aJ (ar (aZ rfl rfl (z:=(.int (2:Nat),false)) (by
  have h:cC [X.jD j]=some (.int (j.map X.eD).length,false):=rfl
  rw[h,Ya,two j hj])) rfl rfl rfl rfl) rfl,fun _=>rfl,fun z=>by cases z⟩
 have cf:(V.filter fun _=>false)=[]:=by simp
 rw[cf]at c;exact bt rfl (cn (aZ (ap (ci (yp rfl rfl (qV V)) (ng (n:=1000) (by rw[Ya];lia) rfl) c) rfl) rfl rfl)) rfl
end
end
end K40
namespace K40
open PySem L2 VF VF22
noncomputable section
section
variable {α:Type} {X:EK α} {js ts:List (List α)}
variable (X) in
def jW (p:List (List α)×List (List α)):D:=.tup [.str "ring",.tup (p.1.map X.jD),.tup (p.2.map X.jD)]
theorem IR (n:Nat) (p:List (List α)×List (List α)):Pl (n+5) (jW X p):=.tup fun d hd=>by
 rcases Xd.mp hd with rfl|hd
 ·exact .str _ _
 ·rcases Xd.mp hd with rfl|hd
  ·exact D4 n p.1
  ·rw[Ye.mp hd];exact D4 n p.2
theorem IS (n:Nat) (p q:List (List α)×List (List α)):Cp (n+5) (jW X p) (jW X q):=fun i x y h1 h2=>by
 match i,h1,h2 with
 | 0,h1,h2=>cases h1;cases h2;exact True.intro
 | 1,h1,h2=>cases h1;cases h2;exact D5 n p.1 q.1
 | 2,h1,h2=>cases h1;cases h2;exact D5 n p.2 q.2
 | i+3,h1,h2=>cases h1
theorem yr (W:Dw js ts) (two:∀j∈js,j.length=2) (two':∀j∈ts,j.length=2) {f:List α} (hf:f∈js) :
  ∃p:List (List α)×List (List α),f8 [X.jD f,.dt (bA X js),.dt (bA X ts)]=some (jW X p,false)/\p.1.Nodup/\p.1.length<60/\∀j,j∈p.1↔Rc js ts f j:=by
 have nf:f≠[]:=(W.ej f hf).1;obtain⟨V,T,t6,t7,t8,e,h⟩:=yo (X:=X) (a0:=.v (X.jD f)) W hf;have lens:=h.lens W;have fj:=W.fj;have ft:=W.ft;obtain⟨V',pv,ev⟩:=qW (X:=X) (V:=V) (fun j hj=>(W.ej j (h.inn j hj).1).1) (by lia)
 obtain⟨T',pt,et⟩:=qW (X:=X) (V:=T) (fun j hj=>(W.et j (h.t_in W j hj)).1) (by lia)
 refine⟨(V',T'),?_,pv.nodup_iff.mpr h.nd,by rw[pv.length_eq];lia,fun j=>by rw[← h.all j];exact pv.mem_iff⟩
 have c1:=uz (X:=X) (V:=V) (fun j hj=>two j (h.inn j hj).1) (by lia)
 have c2:=uz (X:=X) (V:=T) (fun j hj=>two' j (h.t_in W j hj)) (by lia)
 refine bt (o:=.rt (.d (jW X (V',T'))) [.v (X.jD f),.v (.dt (bA X js)),.v (.dt (bA X ts)),.o (.dt (gw X V)),.o (.dt (gw X T)),.o (.lst []),t6,t7,t8,.v (.str "ring")]) rfl ?_ rfl;refine aw (s:=[.v (X.jD f),.v (.dt (bA X js)),.v (.dt (bA X ts)),.o (.dt (gw X [f])),.e,.e,.e,.e,.e,.e]) (fw (s:=[.v (X.jD f),.v (.dt (bA X js)),.v (.dt (bA X ts)),.e,.e,.e,.e,.e,.e,.e]) (x:=.dt (gw X [f])) ?_ rfl) ?_
 ·show(dX (f.map X.eD)).bind _=_;rw[X.tj nf];rfl
 refine aw (s:=[.v (X.jD f),.v (.dt (bA X js)),.v (.dt (bA X ts)),.o (.dt (gw X [f])),.o (.dt (gw X [])),.e,.e,.e,.e,.e]) rfl ?_;refine aw (s:=pS X (.v (X.jD f)) (.dt (bA X js)) (.dt (bA X ts)) [] [f] [f] .e .e .e) rfl ?_;refine aw e ?_;refine aw (s:=[.v (X.jD f),.v (.dt (bA X js)),.v (.dt (bA X ts)),.o (.dt (gw X V)),.o (.dt (gw X T)),.o (.lst []),t6,t7,t8,.v (.str "ring")]) (cE (s:=pS X (.v (X.jD f)) (.dt (bA X js)) (.dt (bA X ts)) T V [] t6 t7 t8) (x:=.str "ring") ?_ rfl) ?_
 ·have tu:gG (ad (dQ bX (ad (aP 3) aq)) (ad (dQ bX (ad (aP 4) aq)) aq)) (pS X (.v (X.jD f)) (.dt (bA X js)) (.dt (bA X ts)) T V [] t6 t7 t8)=some (.d (.tup [.int 0,.int 0]),pS X (.v (X.jD f)) (.dt (bA X js)) (.dt (bA X ts)) T V [] t6 t7 t8) :=
   eQ (ap (fz rfl rfl c1 rfl) (ap (fz rfl rfl c2 rfl) rfl)) rfl (by decide)
  show(gG _ _).bind _=_;rw[tu];rfl
 ·exact cn (eQ (ap rfl (ap (aZ (ap (aZ rfl rfl ev) rfl) rfl rfl) (ap (aZ (ap (aZ rfl rfl et) rfl) rfl rfl) rfl))) rfl (by show 3<=_;decide))
end
end
end K40
namespace K40
open PySem L2 VF VF22
noncomputable section
section
variable {α:Type} {X:EK α} {js ts:List (List α)}
abbrev Pa (α:Type):=List (List α)×List (List α)
inductive Gw (js ts:List (List α)):List (List α)->List (Pa α)->List (List α)->Prop
 | nil:Gw js ts [] [] []
 | old {g S:List (List α)} {P:List (Pa α)} {j:List α}:Gw js ts g P S->j∈S->Gw js ts (g++[j]) P S
 | new {g S:List (List α)} {P:List (Pa α)} {j:List α} {p:Pa α}:Gw js ts g P S->j∉S->p.1.Nodup->p.1.length<60->(∀x,x∈p.1↔Rc js ts j x)->Gw js ts (g++[j]) (P++[p]) (p.1.foldl add S)
theorem Gw.lens {g S:List (List α)} {P:List (Pa α)} (h:Gw js ts g P S):P.length<=g.length/\S.length<=60*g.length:=by
 induction h with
 | nil=>exact⟨Xa _,Xa _⟩
 | old _ _ ih=>rw[Va,Vc];lia
 | @new g S P j p _ _ _ l _ ih =>
  have:=jS p.1 S;rw[Va,Va,Vc,Vc];lia
theorem uA {a0 a1 a2 a3 a4 a6 a7:Sl}:∀(W S:List (List α)) (s8:Sl),(∀j∈W,j≠[])->S.length+W.length<9000->s8.isIo=false->∃t8,dD (gN 8) f9 (W.map X.jD) [a0,a1,a2,a3,a4,.o (.dt (gw X S)),a6,a7,s8]=some (.nx [a0,a1,a2,a3,a4,.o (.dt (gw X (W.foldl add S))),a6,a7,t8])/\t8.isIo=false
 | [],S,s8,_,_,i=>⟨s8,rfl,i⟩
 | j::W,S,s8,ne,l,i=>by
  rw[Zd]at l;have b:=jS [j] S;rw[Yg,Ca,Vc]at b;obtain⟨t8,e,i'⟩:=uA (a0:=a0) (a1:=a1) (a2:=a2) (a3:=a3) (a4:=a4) (a6:=a6) (a7:=a7) W (add S j) (.v (X.jD j)) (fun k hk=>ne k (Yc _ hk)) (by lia) rfl
  refine⟨t8,?_,i'⟩;rw[Vd,jk (B:=f9) (s1:=[a0,a1,a2,a3,a4,.o (.dt (gw X S)),a6,a7,.v (X.jD j)]) (fPut_ev (t:=s8) rfl i) (put_ev rfl rfl rfl rfl rfl rfl rfl rfl (IM (ne j Wd) (by lia)))]
  exact e
theorem sD (W:Dw js ts) (two:∀j∈js,j.length=2) (two':∀j∈ts,j.length=2) {g S:List (List α)} {P:List (Pa α)} {j:List α} (h:Gw js ts g P S) (hj:j∈js) (lg:g.length<60) {d0 d1:D} {s2 s3 s7 s8:Sl} (h23:s2=.o (.dt (bA X js))/\s3=.o (.dt (bA X ts))∨s2=.v (.dt (bA X js))/\s3=.v (.dt (bA X ts))) (i7:s7.isIo=false) (i8:s8.isIo=false) :
  ∃P' S' t2 t3 t7 t8,ga [.v d0,.v d1,s2,s3,.o (.lst (P.map (jW X))),.o (.dt (gw X S)),.v (X.jD j),s7,s8]=some (.nx [.v d0,.v d1,t2,t3,.o (.lst (P'.map (jW X))),.o (.dt (gw X S')),.v (X.jD j),t7,t8])/\Gw js ts (g++[j]) P' S'/\(t2=.o (.dt (bA X js))/\t3=.o (.dt (bA X ts))∨t2=.v (.dt (bA X js))/\t3=.v (.dt (bA X ts)))/\t7.isIo=false/\t8.isIo=false:=by
 have nj:=(W.ej j hj).1;have ls:=h.lens;by_cases c:j∈S
 ·exact⟨P,S,s2,s3,s7,s8,jb (aJ (ar rfl rfl rfl rfl (Jl (c:=true) nj ⟨fun _=>vis_mem.mpr c,fun _=>rfl⟩)) rfl) rfl,h.old c,h23,i7,i8⟩
 ·obtain⟨p,e,nd,lp,mem⟩:=yr (X:=X) W two two' hj;have ne:∀k∈p.1,k≠[]:=fun k hk=>by
   have key:∀k,Rc js ts j k->k∈js:=fun k r=>by
    induction r with
    | refl=>exact hj
    | step _ hk ih=>exact D3 W ih hk
   exact(W.ej k (key k ((mem k).mp hk))).1
  obtain⟨t8,es,j8⟩:=uA (X:=X) (a0:=.v d0) (a1:=.v d1) (a2:=.v (.dt (bA X js))) (a3:=.v (.dt (bA X ts))) (a4:=.o (.lst ((P++[p]).map (jW X)))) (a6:=.v (X.jD j)) (a7:=.v (jW X p)) p.1 S s8 ne (by lia) i8
  refine⟨P++[p],p.1.foldl add S,.v (.dt (bA X js)),.v (.dt (bA X ts)),.v (jW X p),t8,?_,h.new c nd lp mem,.inr ⟨rfl,rfl⟩,rfl,j8⟩;refine km (s:=[.v d0,.v d1,s2,s3,.o (.lst (P.map (jW X))),.o (.dt (gw X S)),.v (X.jD j),s7,s8]) (aJ (ar rfl rfl rfl rfl (Jl (c:=false) nj ⟨fun z=>(by cases z),fun z=>absurd (vis_mem.mp z) c⟩)) rfl) ?_
  refine aw (s:=[.v d0,.v d1,.v (.dt (bA X js)),.v (.dt (bA X ts)),.o (.lst (P.map (jW X))),.o (.dt (gw X S)),.v (X.jD j),.v (jW X p),s8]) (cE (s:=[.v d0,.v d1,.v (.dt (bA X js)),.v (.dt (bA X ts)),.o (.lst (P.map (jW X))),.o (.dt (gw X S)),.v (X.jD j),s7,s8]) (x:=jW X p) ?_ (fPut_ev (t:=s7) rfl i7)) ?_
  ·rcases h23 with⟨rfl,rfl⟩|⟨rfl,rfl⟩<;>exact bQ rfl rfl e
  refine aw (s:=[.v d0,.v d1,.v (.dt (bA X js)),.v (.dt (bA X ts)),.o (.lst ((P++[p]).map (jW X))),.o (.dt (gw X S)),.v (X.jD j),.v (jW X p),s8]) (cX (me rfl rfl rfl rfl rfl rfl rfl (app_ev (by rw[Ya];lia)) (by rw[Ve (l₁:=P)];rfl))) ?_
  exact cF (qr (ar rfl rfl rfl rfl (jM (i:=1) rfl)) rfl) es
theorem yt (W:Dw js ts) (two:∀j∈js,j.length=2) (two':∀j∈ts,j.length=2):∃(P:List (Pa α)) (S:List (List α)) (P':List (Pa α)),Gw js ts js P S/\P'.Perm P/\jf [.lst (js.map X.jD),.lst (ts.map X.jD)]=some (.lst (P'.map (jW X)),true):=by
 have fj:=W.fj;have ft:=W.ft;have lj:js.flatten.length<10000:=by have:=eJ (l:=js) (n:=2) fun j hj=>(W.ej j hj).2;lia
 have lt:ts.flatten.length<10000:=by have:=eJ (l:=ts) (n:=2) fun j hj=>(W.et j hj).2;lia
 have e1:=D0 (X:=X) (d:=.lst (js.map X.jD)) (js:=js) (jy rfl rfl) W.nj lj;have e2:=D0 (X:=X) (d:=.lst (ts.map X.jD)) (js:=ts) (jy rfl rfl) W.nt lt;obtain⟨sf,el,P,S,t2,t3,t6,t7,t8,rfl,G,_⟩:=bE (fg:=gN 6) (B:=ga) X.jD js (fun g st=>∃P S s2 s3 s6 s7 s8,st=[.v (.lst (js.map X.jD)),.v (.lst (ts.map X.jD)),s2,s3,.o (.lst (P.map (jW X))),.o (.dt (gw X S)),s6,s7,s8]/\Gw js ts g P S/\(s2=.o (.dt (bA X js))/\s3=.o (.dt (bA X ts))∨s2=.v (.dt (bA X js))/\s3=.v (.dt (bA X ts)))/\s6.isIo=false/\s7.isIo=false/\s8.isIo=false)
  (by
   rintro g j r st ha ⟨P,S,s2,s3,s6,s7,s8,rfl,G,h23,i6,i7,i8⟩;have hl:=congrArg List.length ha;rw[Va,Zd]at hl;obtain⟨P',S',t2,t3,t7,t8,e,G',h23',j7,j8⟩:=sD (X:=X) W two two' G (j:=j) (by rw[ha];simp) (by lia) (d0:=.lst (js.map X.jD)) (d1:=.lst (ts.map X.jD)) h23 i7 i8
   exact⟨_,_,fPut_ev (t:=s6) rfl i6,e,P',S',t2,t3,.v (X.jD j),t7,t8,rfl,G',h23',rfl,j7,j8⟩)
  js [] [.v (.lst (js.map X.jD)),.v (.lst (ts.map X.jD)),.o (.dt (bA X js)),.o (.dt (bA X ts)),.o (.lst []),.o (.dt []),.e,.e,.e] rfl ⟨[],[],_,_,.e,.e,.e,rfl,.nil,.inl ⟨rfl,rfl⟩,rfl,rfl,rfl⟩
 obtain⟨P',pp,ep⟩:=mJ (f6 40 (P.map (jW X)));refine⟨P,S,P',G,pp,?_⟩;have ls:=G.lens;have so:b7 [.lst (P.map (jW X))]=some (.lst (P'.map (jW X)),true):=by
  unfold b7;dsimp only[D.seq];rw[Ae,ep];refine⟨fun d hd=>?_,fun a ha b hb=>?_,⟨_,.tp (T:="str") (fun d hd=>?_)⟩,by rw[Ya];lia⟩
  ·obtain⟨p,_,rfl⟩:=Wa.mp hd;exact IR 35 p
  ·obtain⟨p,_,rfl⟩:=Wa.mp ha;obtain⟨q,_,rfl⟩:=Wa.mp hb;exact IS 35 p q
  ·obtain⟨p,_,rfl⟩:=Wa.mp hd;exact⟨_,_,rfl,⟨(fun z=>by cases z),rfl⟩⟩
 refine bt (o:=.rt (.f (.lst (P'.map (jW X)))) [.v (.lst (js.map X.jD)),.v (.lst (ts.map X.jD)),t2,t3,.o (.lst (P.map (jW X))),.o (.dt (gw X S)),t6,t7,t8]) rfl ?_ rfl;refine aw (s:=[.v (.lst (js.map X.jD)),.v (.lst (ts.map X.jD)),.o (.dt (bA X js)),.e,.e,.e,.e,.e,.e]) (fw (bQ rfl rfl e1) rfl) ?_;refine aw (s:=[.v (.lst (js.map X.jD)),.v (.lst (ts.map X.jD)),.o (.dt (bA X js)),.o (.dt (bA X ts)),.e,.e,.e,.e,.e]) (fw (bQ rfl rfl e2) rfl) ?_;refine aw (s:=[.v (.lst (js.map X.jD)),.v (.lst (ts.map X.jD)),.o (.dt (bA X js)),.o (.dt (bA X ts)),.o (.lst []),.e,.e,.e,.e]) rfl ?_;refine aw (s:=[.v (.lst (js.map X.jD)),.v (.lst (ts.map X.jD)),.o (.dt (bA X js)),.o (.dt (bA X ts)),.o (.lst []),.o (.dt []),.e,.e,.e]) rfl ?_;refine aw (cF (jy rfl rfl) el) ?_;exact cn (aZ rfl rfl so)
end
end
end K40
namespace K40
open PySem L2 VF VF22
noncomputable section
def av (ns:List Int) (i:Nat):Int:=ns.getD i 0
theorem uB {ns:List Int} {i:Nat} (h:i<ns.length):(ns.map D.int)[i]?=some (.int (av ns i)):=by
 rw[Wb,Za h];unfold av;rw[Yd,Za h];rfl
theorem kF {ns:List Int} {i:Nat} (h:i<ns.length):ns[i]?=some (av ns i):=by
 rw[Za h];unfold av;rw[Yd,Za h];rfl
theorem fH {n t:Nat} {gone rest:List Nat} (h:List.range n=gone++t::rest):gone=List.range t/\t<n:=by
 have hl:gone.length<n:=by
  have:=congrArg List.length h;rw[Wc,Va,Zd]at this;lia
 have ht:t=gone.length:=by
  have h1:(List.range n)[gone.length]?=some t:=by rw[h];simp
  rw[Qi hl]at h1;exact(Option.some.inj h1).symm
 subst ht;refine⟨?_,hl⟩;have h2:(List.range n).take gone.length=gone:=by rw[h];simp
 rw[List.take_range,B0 (by lia)]at h2
 exact h2.symm
def eN (e:Nat):List D:=[.int (((e+1) / 2:Nat):Int),.int (((e+1) % 2:Nat):Int)]
def XE:EK Nat where
 eT:=eN
 kE e:=[.inl (((e+1) / 2:Nat):Int),.inl (((e+1) % 2:Nat):Int)]
 key e:=rfl
 inj:=fun {a b} h=>by
  injection h with h1 h2
  injection h2 with h2 _
  injection h1 with h1
  injection h2 with h2
  lia
 pl n e:=.tup fun d hd=>by
  rcases Xd.mp hd with rfl|hd
  ·exact .int _ _
  ·rw[Ye.mp hd];exact .int _ _
 cp n a b:=fun i x y h1 h2=>by
  match i,h1,h2 with
  | 0,h1,h2=>cases h1;cases h2;exact True.intro
  | 1,h1,h2=>cases h1;cases h2;exact True.intro
  | i+2,h1,h2=>cases h1
def rc (v:Int):Nat:=if 0<=v then 2*v.natAbs else 2*v.natAbs-1
def lc (v:Int):Nat:=if 0<=v then 2*v.natAbs-1 else 2*v.natAbs
theorem gl (v:Int):ab v=(v.natAbs:Int):=by unfold ab;split<;>lia
theorem yu (v:Int):d6 [.int v]=some (XE.eD (rc v),false):=by
 by_cases c:0<=v
 ·refine bt (o:=.rt (.d (XE.eD (rc v))) [.v (.int v)]) rfl (cn ?_) rfl;have e:XE.eD (rc v)=.tup [.int (ab v),.int 1]:=by
   show D.tup [.int (((rc v+1) / 2:Nat):Int),.int (((rc v+1) % 2:Nat):Int)]=_;unfold rc;rw[Ae c,gl];rw[show(2*v.natAbs+1) / 2=v.natAbs by lia,show(2*v.natAbs+1) % 2=1 by lia];rfl
  rw[e];exact eQ (ap (aZ rfl rfl (d9 v)) (ap (DJ (aJ (ar rfl rfl rfl rfl rfl) (c:=true) (by show some (decide (v ≥ 0))=_;rw[Ag c])) rfl) rfl)) rfl (by show 2<=_;decide)
 ·refine bt (o:=.rt (.d (XE.eD (rc v))) [.v (.int v)]) rfl (cn ?_) rfl;have e:XE.eD (rc v)=.tup [.int (ab v),.int 0]:=by
   show D.tup [.int (((rc v+1) / 2:Nat):Int),.int (((rc v+1) % 2:Nat):Int)]=_;unfold rc;rw[Af c,gl];rw[show(2*v.natAbs - 1+1) / 2=v.natAbs by lia,show(2*v.natAbs - 1+1) % 2=0 by lia];rfl
  rw[e];exact eQ (ap (aZ rfl rfl (d9 v)) (ap (DK (aJ (ar rfl rfl rfl rfl rfl) (c:=false) (by show some (decide (v ≥ 0))=_;rw[Ad c])) rfl) rfl)) rfl (by show 2<=_;decide)
theorem C2 {v:Int} (h:v≠0):eS [.int v]=some (XE.eD (lc v),false):=by
 by_cases c:0<=v
 ·refine bt (o:=.rt (.d (XE.eD (lc v))) [.v (.int v)]) rfl (cn ?_) rfl;have e:XE.eD (lc v)=.tup [.int (ab v),.int 0]:=by
   show D.tup [.int (((lc v+1) / 2:Nat):Int),.int (((lc v+1) % 2:Nat):Int)]=_;unfold lc;rw[Ae c,gl];rw[show(2*v.natAbs - 1+1) / 2=v.natAbs by lia,show(2*v.natAbs - 1+1) % 2=0 by lia];rfl
  rw[e];exact eQ (ap (aZ rfl rfl (d9 v)) (ap (DJ (aJ (ar rfl rfl rfl rfl rfl) (c:=true) (by show some (decide (v ≥ 0))=_;rw[Ag c])) rfl) rfl)) rfl (by show 2<=_;decide)
 ·refine bt (o:=.rt (.d (XE.eD (lc v))) [.v (.int v)]) rfl (cn ?_) rfl;have e:XE.eD (lc v)=.tup [.int (ab v),.int 1]:=by
   show D.tup [.int (((lc v+1) / 2:Nat):Int),.int (((lc v+1) % 2:Nat):Int)]=_;unfold lc;rw[Af c,gl];rw[show(2*v.natAbs+1) / 2=v.natAbs by lia,show(2*v.natAbs+1) % 2=1 by lia];rfl
  rw[e];exact eQ (ap (aZ rfl rfl (d9 v)) (ap (DK (aJ (ar rfl rfl rfl rfl rfl) (c:=false) (by show some (decide (v ≥ 0))=_;rw[Ad c])) rfl) rfl)) rfl (by show 2<=_;decide)
def s2 (a b:Nat):List Nat:=if a<=b then [a,b] else [b,a]
theorem GW {a b x:Nat}:x∈s2 a b↔x=a∨x=b:=by unfold s2;split<;>simp[or_comm]
theorem IT {a b:Nat} (h:a<=b):ltN 40 (XE.eD b) (XE.eD a)=false:=by
 show gq (ltN 39) [.int (((b+1) / 2:Nat):Int),.int (((b+1) % 2:Nat):Int)] [.int (((a+1) / 2:Nat):Int),.int (((a+1) % 2:Nat):Int)]=false;unfold gq;by_cases c:(b+1) / 2=(a+1) / 2
 ·rw[Ae (by rw[c])]
  unfold gq;by_cases c2:(b+1) % 2=(a+1) % 2
  ·rw[Ae (by rw[c2])];rfl
  ·rw[Af (by intro z;injection z with z;lia)]
   exact Ad (by lia)
 ·rw[Af (by intro z;injection z with z;lia)]
  exact Ad (by lia)
theorem yv (a b:Nat):je [.tup [XE.eD a,XE.eD b]]=some (XE.jD (s2 a b),false):=by
 have ca:CA 40 [XE.eD a,XE.eD b]:=fun x hx y hy=>by
  have hx':x∈[a,b].map XE.eD:=hx;have hy':y∈[a,b].map XE.eD:=hy;obtain⟨p,_,rfl⟩:=Wa.mp hx';obtain⟨q,_,rfl⟩:=Wa.mp hy';exact XE.cp 38 p q
 have es:(s2 a b).map XE.eD=bR 40 [XE.eD a,XE.eD b]:=by
  unfold s2;split
  ·rename_i h
   exact cq ca (List.Perm.refl _) (by show List.Pairwise _ [XE.eD a,XE.eD b];simp[IT h])
  ·rename_i h
   exact cq ca (List.Perm.swap _ _ _) (by show List.Pairwise _ [XE.eD b,XE.eD a];simp[IT (show b<=a by lia)])
 have so:b7 [.tup [XE.eD a,XE.eD b]]=some (.lst ((s2 a b).map XE.eD),true):=by
  unfold b7;dsimp only[D.seq];rw[Ae,← es];refine⟨fun d hd=>?_,ca,⟨_,.tp (T:="int") (fun d hd=>?_)⟩,by show 2<64;decide⟩
  ·have hd':d∈[a,b].map XE.eD:=hd;obtain⟨p,_,rfl⟩:=Wa.mp hd';exact XE.pl 38 p
  ·have hd':d∈[a,b].map XE.eD:=hd;obtain⟨p,_,rfl⟩:=Wa.mp hd';exact⟨_,_,rfl,⟨(fun z=>by cases z),rfl⟩⟩
 exact bt rfl (cn (aZ (ap (aZ rfl rfl so) rfl) rfl rfl)) rfl
def qf (ns:List Int) (p:Nat):Nat:=if p % 2=0 then rc (av ns (p / 2)) else lc (av ns (p / 2+1))
def Jk (ns:List Int) (k:Nat):List Nat:=s2 (qf ns (2*k)) (qf ns (2*k+1))
theorem vF (ns:List Int) (k:Nat):qf ns (2*k)=rc (av ns k):=by unfold qf;rw[Ae (by lia),show 2*k / 2=k by lia]
theorem yw (ns:List Int) (k:Nat):qf ns (2*k+1)=lc (av ns (k+1)):=by unfold qf;rw[Af (by lia),show(2*k+1) / 2=k by lia]
theorem C3 {x:D} {ds:List D}:He (.lst (x::ds)) (some 1) none=some (.lst ds,true):=by
 have e1:FN (.lst (x::ds)) (some 1) none=some (.lst ds,true):=by
  show some (D.lst (cutD (x::ds) (some ((1:Nat):Int)) none),true)=_;unfold cutD;rw[HT.sIx_nat,HT.sIx_none,Zd,B0 (by lia)]
  simp
 unfold He HV;rw[e1]
theorem C4 {ns:List Int} (h:ns≠[]):List.zipWith pr (ns.map D.int) ((ns.drop 1).map D.int)=(List.range (ns.length-1)).map fun k=>pr (.int (av ns k)) (.int (av ns (k+1))):=by
 apply Zk
 intro i;rw[List.getElem?_zipWith,Wb,Wb,Wb,Qg];have hp:0<ns.length:=List.length_pos_iff.mpr h;by_cases c:i<ns.length-1
 ·rw[Qi c,kF (show i<ns.length by lia),kF (show 1+i<ns.length by lia),Bo 1 i];rfl
 ·rw[Qe (l:=List.range _) (by rw[Wc];lia),Qe (l:=ns) (i:=1+i) (by lia)]
  cases ns[i]?<;>rfl
theorem D6 {ns:List Int} (h:ns≠[]) (l:ns.length<1000) (nz:∀k,k+1<ns.length->av ns (k+1)≠0):bU [IL ns]=some (.lst (((List.range (ns.length-1)).map (Jk ns)).map XE.jD),true):=by
 have c:=bK (k:=2) (fg:=gT 2 (rS (gN 0) (rS (gN 1) Du))) (fc:=fO) (fe:=fG) (fun k=>pr (.int (av ns k)) (.int (av ns (k+1)))) (fun k=>XE.jD (Jk ns k)) [.e,.e] (List.range (ns.length-1)) fun k hk=>by
  have hk':=Qb.mp hk;have nz':=nz k (by lia)
  refine⟨[.v (.int (av ns k)),.v (.int (av ns (k+1)))],_,_,_,[.v (.int (av ns k)),.v (.int (av ns (k+1)))],rfl,rfl,bQ (ap (eQ (ap (bQ rfl rfl (yu _)) (ap (bQ rfl rfl (C2 nz')) rfl)) rfl (by show 2<=_;decide)) rfl) rfl (yv _ _),?_,rfl⟩
  unfold Jk;rw[vF,yw];rfl
 rw[Xe];refine bt rfl (cn (ci (ds:=(List.range (ns.length-1)).map fun k=>pr (.int (av ns k)) (.int (av ns (k+1)))) (s1:=[.v (IL ns)]) ?_ (ng (n:=1000) (by rw[Ya,Wc];lia) rfl) c)) rfl
 rw[← C4 h];cases ns with
 | nil=>exact absurd rfl h
 | cons x r =>
  have sl:Hd He (aP 0) (nM (fC (.int 1))) Ji [.v (IL (x::r))]=some (.f (.lst (r.map D.int)),[.v (IL (x::r))]):=Ih rfl (x8 (i:=1) rfl rfl) rfl rfl C3;have fa:ad (aP 0) (ad (Hd He (aP 0) (nM (fC (.int 1))) Ji) aq) [.v (IL (x::r))]=some ([.d (IL (x::r)),.f (.lst (r.map D.int))],[.v (IL (x::r))]):=ap rfl (ap sl rfl);show(ad (aP 0) _ [.v (IL (x::r))]).bind _=_;rw[fa];rfl
end
end K40
namespace K40
open PySem L2 VF VF22
noncomputable section
section
variable {ns:List Int} {N:Nat} {q':Nat->Nat}
abbrev oJ (ns:List Int) (N:Nat):List (List Nat):=(List.range N).map (Jk ns)
def tK (k:Nat):List Nat:=[2*k,2*k+1]
abbrev rj (N:Nat):List (List Nat):=(List.range N).map tK
theorem jk_mem {k x:Nat}:x∈Jk ns k↔x=qf ns (2*k)∨x=qf ns (2*k+1):=GW
theorem mK {k x:Nat} (h:x∈Jk ns k):∃p,p / 2=k/\x=qf ns p:=by
 rcases jk_mem.mp h with z|z
 ·exact⟨2*k,by lia,z⟩
 ·exact⟨2*k+1,by lia,z⟩
theorem sE (p:Nat):qf ns p∈Jk ns (p / 2):=by
 rw[jk_mem];by_cases c:p % 2=0
 ·left;rw[show 2*(p / 2)=p by lia]
 ·right;rw[show 2*(p / 2)+1=p by lia]
theorem of (P:Pm N (qf ns) q') {a b:Nat} (ha:a<2*N) (hb:b<2*N) (h:qf ns a=qf ns b):a=b:=by rw[← P.l a ha,← P.l b hb,h]
theorem yx (P:Pm N (qf ns) q') {e:Nat}:e∈(oJ ns N).flatten↔e<2*N:=by
 rw[Zh];constructor
 ·rintro⟨j,hj,he⟩;obtain⟨k,hk,rfl⟩:=Wa.mp hj;have:=Qb.mp hk;obtain⟨p,hp,rfl⟩:=mK he;exact P.lt p (by lia)
 ·intro h;have h2:=P.lt' e h;refine⟨Jk ns (q' e / 2),Wa.mpr ⟨_,Qb.mpr (by lia),rfl⟩,?_⟩
  have:=sE (ns:=ns) (q' e);rwa [P.r e h]at this
theorem tk_mem {k x:Nat}:x∈tK k↔x / 2=k:=by
 unfold tK;simp only[Xd,List.not_mem_nil,or_false];lia
theorem ts_mem {e:Nat}:e∈(rj N).flatten↔e<2*N:=by
 rw[Zh];constructor
 ·rintro⟨j,hj,he⟩;obtain⟨k,hk,rfl⟩:=Wa.mp hj;have:=Qb.mp hk;have:=tk_mem.mp he;lia
 ·intro h;exact⟨tK (e / 2),Wa.mpr ⟨_,Qb.mpr (by lia),rfl⟩,tk_mem.mpr rfl⟩
theorem D7 (P:Pm N (qf ns) q'):(oJ ns N).flatten.Nodup:=by
 refine List.pairwise_flatten.mpr ⟨fun l hl=>?_,?_⟩
 ·obtain⟨k,hk,rfl⟩:=Wa.mp hl;have hk:=Qb.mp hk;have ne:qf ns (2*k)≠qf ns (2*k+1):=fun z=>by
   have:=of P (by lia) (by lia) z;lia
  unfold Jk s2;split
  ·simp[ne]
  ·simp[Ne.symm ne]
 ·rw[Qf];refine Aw (fun {a b} ha hb hab=>?_) (Qh (n:=N));have ha:=Qb.mp ha;have hb:=Qb.mp hb;intro x hx y hy e;obtain⟨p,hp,rfl⟩:=mK hx;obtain⟨r,hr,rfl⟩:=mK hy;have:=of P (by lia) (by lia) e
  lia
theorem D8:(rj N).flatten.Nodup:=by
 refine List.pairwise_flatten.mpr ⟨fun l hl=>?_,?_⟩
 ·obtain⟨k,hk,rfl⟩:=Wa.mp hl;unfold tK;simp
 ·rw[Qf];refine List.Pairwise.imp (fun {a b} hab=>?_) (Qh (n:=N));intro x hx y hy e;have:=tk_mem.mp hx;have:=tk_mem.mp hy;lia
theorem pC (k:Nat):(Jk ns k).length=2:=by unfold Jk s2;split<;>rfl
theorem dw (P:Pm N (qf ns) q') (h:N<60):Dw (oJ ns N) (rj N) where
 nj:=D7 P
 nt:=D8
 ej j hj:=by
  obtain⟨k,_,rfl⟩:=Wa.mp hj;exact⟨fun z=>(by have:=pC (ns:=ns) k;rw[z]at this;cases this),by rw[pC];exact Xa _⟩
 et j hj:=by
  obtain⟨k,_,rfl⟩:=Wa.mp hj;exact⟨fun z=>(by cases z),Xa _⟩
 jt e he:=ts_mem.mpr ((yx P).mp he)
 tj e he:=(yx P).mpr (ts_mem.mp he)
 fj:=by rw[Ya,Wc];exact h
 ft:=by rw[Ya,Wc];exact h
theorem uC (P:Pm N (qf ns) q') {e:Nat} (h:e<2*N):jt (oJ ns N) e=Jk ns (q' e / 2):=by
 have h2:=P.lt' e h;refine D1 (D7 P) (Wa.mpr ⟨_,Qb.mpr (by lia),rfl⟩) ?_
 have:=sE (ns:=ns) (q' e);rwa [P.r e h]at this
theorem yy {e:Nat} (h:e<2*N):jt (rj N) e=tK (e / 2) :=
 D1 D8 (Wa.mpr ⟨_,Qb.mpr (by lia),rfl⟩) (tk_mem.mpr rfl)
theorem pD (P:Pm N (qf ns) q') {a b:Nat} (ha:a<N) (hb:b<N) (h:Jk ns a=Jk ns b):a=b:=by
 have h1:qf ns (2*a)∈Jk ns b:=h ▸ jk_mem.mpr (.inl rfl);obtain⟨p,hp,e⟩:=mK h1;have:=of P (by lia) (by lia) e
 lia
theorem yz (P:Pm N (qf ns) q') {j:Nat} (hj:j<N) {x:List Nat}:x∈nx (oJ ns N) (rj N) (Jk ns j)↔∃p,p / 2=j/\(x=Jk ns j∨x=Jk ns (ta (qf ns) q' p / 2)):=by
 unfold nx;constructor
 ·intro h;obtain⟨e',h1,rfl⟩:=Wa.mp h;obtain⟨t,ht,h1⟩:=Zh.mp h1;obtain⟨e,he,rfl⟩:=Wa.mp ht;obtain⟨p,hp,rfl⟩:=mK he;have lp:p<2*N:=by lia
  rw[yy (P.lt p lp)]at h1;have h2:=tk_mem.mp h1;refine⟨p,hp,?_⟩;rcases px h2 with z|z
  ·left;rw[uC P (by rw[z];exact P.lt p lp),z,P.l p lp,hp]
  ·right;rw[uC P (by rw[z];exact iP (P.lt p lp)),z];rfl
 ·rintro⟨p,hp,h⟩;have lp:p<2*N:=by lia
  have hm:qf ns p∈Jk ns j:=hp ▸ sE p;rcases h with rfl|rfl
  ·refine Wa.mpr ⟨qf ns p,Zh.mpr ⟨_,Wa.mpr ⟨qf ns p,hm,rfl⟩,?_⟩,?_⟩
   ·rw[yy (P.lt p lp)];exact tk_mem.mpr rfl
   ·rw[uC P (P.lt p lp),P.l p lp,hp]
  ·refine Wa.mpr ⟨tw (qf ns p),Zh.mpr ⟨_,Wa.mpr ⟨qf ns p,hm,rfl⟩,?_⟩,?_⟩
   ·rw[yy (P.lt p lp)];exact tk_mem.mpr (eI _)
   ·rw[uC P (iP (P.lt p lp))];rfl
theorem D9 (P:Pm N (qf ns) q') {k:Nat} (hk:k<N) {x:List Nat}:Rc (oJ ns N) (rj N) (Jk ns k) x↔∃j,j<N/\x=Jk ns j/\Rp (qf ns) q' k j:=by
 constructor
 ·intro h;induction h with
  | refl=>exact⟨k,hk,rfl,ut k⟩
  | step _ hx ih =>
   obtain⟨j,hj,rfl,r⟩:=ih;obtain⟨p,hp,z⟩:=(yz P hj).mp hx;rcases z with rfl|rfl
   ·exact⟨j,hj,rfl,r⟩
   ·have lp:p<2*N:=by lia
    have lt:=uq P lp;refine⟨ta (qf ns) q' p / 2,by lia,rfl,?_⟩
    have c:Cn (qf ns) q' (2*k) p:=by
     refine qS ?_;rw[hp];exact r
    exact pz (.ta c)
 ·rintro⟨j,hj,rfl,r⟩;have key:∀b,Cn (qf ns) q' (2*k) b->Rc (oJ ns N) (rj N) (Jk ns k) (Jk ns (b / 2)):=by
   intro b c;induction c with
   | refl=>rw[show 2*k / 2=k by lia];exact .refl
   | tw _ ih=>rw[eI];exact ih
   | @ta b c ih =>
    have lb:=c.lt P (by lia)
    exact ih.step ((yz P (by lia)).mpr ⟨b,rfl,.inr rfl⟩)
  have:=key _ r;rwa [show 2*j / 2=j by lia]at this
end
end
end K40
namespace VF
open PySem L2
theorem yA {n:Nat} {d:D}:∀(es:List D),CA n (d::es)->zW n es->∃fs:List D,fs.Perm (d::es)/\zW n fs
 | [],_,_=>⟨[d],List.Perm.refl _,List.pairwise_singleton _ _⟩
 | e::es,h,s=>by
  obtain⟨s1,s2⟩:=List.pairwise_cons.mp s;cases c:ltN n e d with
  | true =>
   have up:∀x∈d::es,x∈d::e::es:=fun x hx=>by
    rcases Xd.mp hx with m|m
    ·rw[m];exact Wd
    ·exact Yc _ (Yc _ m)
   obtain⟨fs,p,q⟩:=yA (n:=n) (d:=d) es (fun a ha b hb=>h a (up a ha) b (up b hb)) s2;refine⟨e::fs,(p.cons e).trans (List.Perm.swap d e es),List.pairwise_cons.mpr ⟨fun f hf=>?_,q⟩⟩;rcases Xd.mp (p.mem_iff.mp hf) with m|m
   ·rw[m];exact lG n e d c
   ·exact s1 f m
  | false =>
   refine⟨d::e::es,List.Perm.refl _,List.pairwise_cons.mpr ⟨fun b hb=>?_,s⟩⟩;rcases Xd.mp hb with m|m
   ·rw[m];exact c
   ·cases k:ltN n b d with
    | false=>rfl
    | true =>
     rcases h.neg (a:=b) (b:=e) (c:=d) (by simp[m]) (by simp) (by simp) k with z|z
     ·rw[s1 b m]at z;cases z
     ·rw[c]at z;cases z
theorem yB {n:Nat}:∀(ds:List D),CA n ds->∃es:List D,es.Perm ds/\zW n es
 | [],_=>⟨[],List.Perm.refl _,List.Pairwise.nil⟩
 | d::ds,h=>by
  obtain⟨es,p,q⟩:=yB ds fun a ha b hb=>h a (Yc _ ha) b (Yc _ hb);have pd:(d::es).Perm (d::ds):=p.cons d;obtain⟨fs,p2,q2⟩:=yA (n:=n) (d:=d) es (fun a ha b hb=>h a (pd.mem_iff.mp ha) b (pd.mem_iff.mp hb)) q;exact⟨fs,p2.trans pd,q2⟩
theorem qX {n:Nat} {ds es:List D} (h:CA n ds) (p:ds.Perm es):bR n ds=bR n es:=by
 obtain⟨fs,p1,q⟩:=yB ds h;rw[← cq h p1 q];exact cq (fun a ha b hb=>h a (p.mem_iff.mpr ha) b (p.mem_iff.mpr hb)) (p1.trans p) q
end VF
namespace K40
open PySem L2 VF VF22
noncomputable section
section
variable {ns:List Int} {N:Nat} {q':Nat->Nat}
open Classical in
def vG (ns:List Int) (N:Nat) (p:Pa Nat):List Nat:=(List.range N).filter fun k=>decide (Jk ns k∈p.1)
open Classical in
theorem IU (P : Pm N (qf ns) q') {g S : List (List Nat)} {L : List (Pa Nat)} (h : Gw (oJ ns N) (rj N) g L S) : ∀ t, t ≤ N → g = (List.range t).map (Jk ns) →
    L.map (vG ns N) = rl N (qf ns) q' t ∧ (∀ k, k < N → (Jk ns k ∈ S ↔ ∃ j, j < t ∧ Rp (qf ns) q' j k)) ∧ ∀ p ∈ L, p.1.Nodup ∧ p.1.length < 60 ∧ ∀ x ∈ p.1, ∃ k, k < N ∧ x = Jk ns k := by
  have cut : ∀ {g : List (List Nat)} {j : List Nat} {t : Nat}, g ++ [j] = (List.range t).map (Jk ns) → ∃ t', t = t' + 1 ∧ g = (List.range t').map (Jk ns) ∧ j = Jk ns t' := by
    intro g j t e;cases t with
    | zero => have := congrArg List.length e; simp at this
    | succ t =>
      rw [AE, B2] at e;obtain ⟨e1, e2⟩ := List.append_inj' e rfl;exact ⟨t, rfl, e1, by simpa using e2⟩
  induction h with
  | nil =>
    intro t _ e;have : t = 0 := by have := congrArg List.length e; simpa using this.symm
    subst this;exact ⟨rfl, fun k _ => ⟨fun z => (by cases z), fun ⟨j, hj, _⟩ => absurd hj (BZ _)⟩, fun p hp => by cases hp⟩
  | @old g S L j _ hj ih =>
    intro t ht e;obtain ⟨t, rfl, e1, rfl⟩ := cut e;obtain ⟨a1, a2, a3⟩ := ih t (by lia) e1
    have c : t ∈ (rl N (qf ns) q' t).flatten := (kD P (by lia) t).mpr ((a2 t (by lia)).mp hj)
    refine ⟨by rw [a1]; conv => rhs; unfold rl
               rw [Ae c], fun k hk => ?_, a3⟩
    rw [a2 k hk];refine ⟨fun ⟨j, h1, h2⟩ => ⟨j, by lia, h2⟩, fun ⟨j, h1, h2⟩ => ?_⟩
    by_cases z : j = t
    · subst z
      obtain ⟨i, hi, ri⟩ := (a2 j (by lia)).mp hj
      exact ⟨i, hi, jO ri h2⟩
    · exact ⟨j, by lia, h2⟩
  | @new g S L j p _ hj nd lp mem ih =>
    intro t ht e;obtain ⟨t, rfl, e1, rfl⟩ := cut e;obtain ⟨a1, a2, a3⟩ := ih t (by lia) e1
    have c : t ∉ (rl N (qf ns) q' t).flatten := fun z => hj ((a2 t (by lia)).mpr ((kD P (by lia) t).mp z))
    have mm : ∀ k, k < N → (Jk ns k ∈ p.1 ↔ Rp (qf ns) q' t k) := fun k hk => by
      rw [mem, D9 P (by lia)]
      refine ⟨fun ⟨j, h1, h2, h3⟩ => ?_, fun z => ⟨k, hk, rfl, z⟩⟩;rw [pD P hk h1 h2]; exact h3
    have ps : vG ns N p = cls N (qf ns) q' t := by
      unfold vG cls;refine List.filter_congr fun k hk => ?_;rw [BT];exact mm k (List.mem_range.mp hk)
    refine ⟨?_, fun k hk => ?_, fun p' hp => ?_⟩
    · rw [B2, a1]
      conv => rhs; unfold rl
      rw [Af c];show _ ++ [vG ns N p] = _;rw [ps]
    · rw [ee, a2 k hk, mm k hk]
      refine ⟨fun z => z.elim (fun ⟨j, h1, h2⟩ => ⟨j, by lia, h2⟩) fun z => ⟨t, by lia, z⟩, fun ⟨j, h1, h2⟩ => ?_⟩
      by_cases z : j = t
      · subst z; exact .inr h2
      · exact .inl ⟨j, by lia, h2⟩
    · rcases List.mem_append.mp hp with z | z
      · exact a3 p' z
      · rw [List.mem_singleton.mp z]
        refine ⟨nd, lp, fun x hx => ?_⟩;obtain ⟨j, h1, h2, _⟩ := (D9 P (by lia)).mp ((mem x).mp hx)
        exact ⟨j, h1, h2⟩
abbrev NL (l:List Nat):List D:=l.map fun k:Nat=>D.int (k:Int)
abbrev LL (l:List Nat):D:=.lst (NL l)
theorem qY {xs L:List Nat} (p:L.Perm xs) (s:L.Pairwise (·<·)) (l:L.length<64) {d:D} (hd:d.seq=some (NL xs)):b7 [d]=some (LL L,true):=by
 have ca:CA 40 (NL xs):=fun a ha b hb=>by
  obtain⟨p,_,rfl⟩:=Wa.mp ha;obtain⟨q,_,rfl⟩:=Wa.mp hb;trivial
 have es:NL L=bR 40 (NL xs):=cq ca (p.map _) (by
  unfold zW;rw[Qf]
  exact s.imp fun {a b} hab=>Ad (by lia))
 unfold b7;simp only[hd]
 rw[Ae ⟨fun x hx=>by obtain⟨p,_,rfl⟩:=Wa.mp hx;exact .int _ _,ca,⟨_,.sc (T:="int") (by decide) fun d hd=>by
  obtain⟨p,_,rfl⟩:=Wa.mp hd
  exact⟨by simp,rfl⟩⟩,by rw[Ya,← p.length_eq];exact l⟩,← es]
theorem yC (ls:List (List Nat)):CA 40 (ls.map LL):=fun a ha b hb=>by
 obtain⟨x,_,rfl⟩:=Wa.mp ha;obtain⟨y,_,rfl⟩:=Wa.mp hb;intro i u v h1 h2;rw[Wb]at h1 h2;obtain⟨c,_,rfl⟩:=Xc.mp h1;obtain⟨d,_,rfl⟩:=Xc.mp h2;trivial
theorem uD {ls ms:List (List Nat)} (p:ls.Perm ms) (l:ls.length<64) {d:D} (hd:d.seq=some (ls.map LL)):b7 [d]=some (.lst (bR 40 (ms.map LL)),true):=by
 rw[← qX (yC ls) (p.map LL)];unfold b7;simp only[hd]
 rw[Ae ⟨fun x hx=>by
  obtain⟨q,_,rfl⟩:=Wa.mp hx;exact .lst fun d hd=>by
   obtain⟨k,_,rfl⟩:=Wa.mp hd
   exact .int _ _,yC ls,⟨_,.sc (T:="list") (by decide) fun d hd=>by
  obtain⟨q,_,rfl⟩:=Wa.mp hd
  exact⟨by simp,rfl⟩⟩,by rw[Ya];exact l⟩]
def pO (ns:List Int) (t:Nat):List (aN×D):=(List.range t).map fun k=>(XE.tJ (Jk ns k),.int (k:Int))
theorem pO_keys {t:Nat} {x:aN}:x∈(pO ns t).map (·.1)↔∃k,k<t/\x=XE.tJ (Jk ns k):=by
 unfold pO;rw[Xe,Wa];exact⟨fun⟨k,h1,h2⟩=>⟨k,Qb.mp h1,h2.symm⟩,fun⟨k,h1,h2⟩=>⟨k,Qb.mpr h1,h2.symm⟩⟩
theorem IV (P:Pm N (qf ns) q'):((pO ns N).map (·.1)).Nodup:=by
 unfold pO;rw[Xe];show List.Pairwise _ _;rw[Qf];refine Aw (fun {a b} ha hb hab e=>?_) (Qh (n:=N));have:=pD P (Qb.mp ha) (Qb.mp hb) (XE.tj_inj e);lia
theorem Ea (k:Nat):Jk ns k≠[]:=fun z=>by have:=pC (ns:=ns) k;rw[z]at this;cases this
theorem JJ {α:Type} {X:EK α} {kvs:List (aN×D)} {j:List α} {d:D} (hj:j≠[]) (h:bS kvs (X.tJ j)=some d):gr (.dt kvs) (X.jD j)=some (d,false):=by
 show(((dX (j.map X.eD)).bind fun ks=>some (bS kvs ks)).bind fun o=>o.bind fun d=>some (d,false))=_;rw[X.tj hj];show((some (bS kvs (X.tJ j))).bind fun o=>o.bind fun d=>some (d,false))=_;rw[h];rfl
theorem GX (P:Pm N (qf ns) q') {k:Nat} (hk:k<N):gr (.dt (pO ns N)) (XE.jD (Jk ns k))=some (.int (k:Int),false) :=
 JJ (Ea k) (jQ (Wa.mpr ⟨k,Qb.mpr hk,rfl⟩) (IV P))
end
end
end K40
namespace K40
open PySem L2 VF VF22
theorem yD {i j:Nat} {a b:D} {st s1 s2:En} {t u:Sl} (h1:st[i]?=some t) (ht:t.isIo=false) (e1:st.set i (.v a)=s1) (h2:s1[j]?=some u) (hu:u.isIo=false) (e2:s1.set j (.v b)=s2):gT 2 (rS (gN i) (rS (gN j) Du)) (.tup [a,b]) st=some s2:=by
 show(gN i a st).bind (fun st1=>(gN j b st1).bind fun st2=>some st2)=_;rw[n5 h1 ht e1,Qa,n5 h2 hu e2];rfl
def iq (n:Nat):List Int:=(List.range n).map fun t:Nat=>(t:Int)
theorem cH (n:Nat):(iq n).length=n:=by unfold iq;rw[Ya,Wc]
theorem pE {n i:Nat} (h:i<n):av (iq n) i=i:=by
 unfold av iq;rw[Yd,Wb,Qi h];rfl
theorem yE (n:Nat):rng 0 n=(iq n).map D.int:=by
 unfold rng iq;rw[Xe];exact Wf fun t _=>by show D.int (0+(t:Int))=D.int (t:Int);rw[Int.zero_add]
theorem og {n p:Nat} (h:p<2*(n-1)):qf (iq n) p=p:=by
 unfold qf;by_cases c:p % 2=0
 ·rw[Ae c,pE (by lia)]
  unfold rc;rw[Ae (by lia)];lia
 ·rw[Af c,pE (by lia)]
  unfold lc;rw[Ae (by lia)];lia
theorem IW {n k:Nat} (h:k<n-1):Jk (iq n) k=tK k:=by
 unfold Jk;rw[og (by lia),og (by lia)]
 unfold s2 tK;rw[Ae (by lia)]
noncomputable section
section
variable {ns:List Int} {N:Nat} {q':Nat->Nat}
open Classical in
def Eb (ns:List Int) (N:Nat) (j:List Nat):Nat:=((List.range N).find? fun k=>decide (Jk ns k=j)).getD 0
open Classical in
theorem mL (P:Pm N (qf ns) q') {k:Nat} (hk:k<N):Eb ns N (Jk ns k)=k:=by
 obtain⟨j,hj⟩:∃j,(List.range N).find? (fun i=>decide (Jk ns i=Jk ns k))=some j:=Vl.mp (List.find?_isSome.mpr ⟨k,Qb.mpr hk,Ag rfl⟩);have h2:Jk ns j=Jk ns k:=by simpa using B3 hj
 have h3:=Qb.mp (A9 hj);have e:Eb ns N (Jk ns k)=j:=by unfold Eb;rw[hj];rfl
 rw[e];exact pD P h3 hk h2
open Classical in
theorem yF (P:Pm N (qf ns) q') {p:Pa Nat} (nd:p.1.Nodup) (inn:∀x∈p.1,∃k,k<N/\x=Jk ns k):(vG ns N p).Perm (p.1.map (Eb ns N)):=by
 have n1:(vG ns N p).Nodup:=A8 Vk AN;have n2:(p.1.map (Eb ns N)).Nodup:=by
  show List.Pairwise _ _;rw[Qf];refine Aw (fun {a b} ha hb hab e=>hab ?_) nd;obtain⟨i,hi,rfl⟩:=inn a ha;obtain⟨j,hj,rfl⟩:=inn b hb;rw[mL P hi,mL P hj]at e;rw[e]
 rw[A7 n1 n2];intro k;unfold vG;rw[Zl,Qb,decide_eq_true_iff,Wa];constructor
 ·rintro⟨hk,hj⟩;exact⟨_,hj,mL P hk⟩
 ·rintro⟨x,hx,e⟩;obtain⟨i,hi,rfl⟩:=inn x hx;rw[mL P hi]at e;subst e;exact⟨hi,hx⟩
theorem GY (p:Pa Nat):(vG ns N p).Pairwise (·<·):=Cr Vk Qh
theorem yG (P:Pm N (qf ns) q') (hN:N<60) {p:Pa Nat} (nd:p.1.Nodup) (lp:p.1.length<60) (inn:∀x∈p.1,∃k,k<N/\x=Jk ns k):dq [.v (jW XE p),.o (.dt (pO ns N))]=some (.f (LL (vG ns N p)),[.v (jW XE p),.o (.dt (pO ns N))]):=by
 have c:fv (gN 0) fO gu 1 (p.1.map XE.jD) [.e,.o (.dt (pO ns N))]=some (p.1.map fun j=>D.int (Eb ns N j:Int),[.e,.o (.dt (pO ns N))]) :=
  bK XE.jD (fun j=>D.int (Eb ns N j:Int)) _ p.1 fun j hj=>by
   obtain⟨k,hk,rfl⟩:=inn j hj;rw[mL P hk];exact⟨_,_,_,_,_,rfl,rfl,ar rfl rfl rfl rfl (GX P hk),rfl,rfl⟩
 have pp:=yF P nd inn;have so:=qY (d:=.lst (p.1.map fun j=>D.int (Eb ns N j:Int))) pp (GY p) (by rw[pp.length_eq,Ya];lia) (by unfold NL;rw[Xe];rfl)
 exact aZ (ap (ci (qr (ar rfl rfl rfl rfl (jM (i:=1) rfl)) rfl) (ng (n:=1000) (by rw[Ya];lia) rfl) c) rfl) rfl so
abbrev RD (N:Nat) (q q':Nat->Nat):D:=.lst (bR 40 ((rl N q q' N).map LL))
theorem GZ (L:List (List Nat)) (N:Nat) (f:Nat->List Nat):yY (((List.range N).map f).map XE.jD)=(List.range N).map fun k:Nat=>D.tup [.int (k:Int),XE.jD (f k)]:=by
 unfold yY;refine Zk fun i=>?_;rw[By,Wb,Wb,Wb];by_cases hi:i<N
 ·rw[Qi hi];rfl
 ·rw[Qe (by rw[Wc];lia)];rfl
theorem mM (two:2<=ns.length) (gn:ns.length<=42) (nz:∀k,k+1<ns.length->av ns (k+1)≠0) (P:Pm (ns.length-1) (qf ns) q'):bo [IL ns]=some (RD (ns.length-1) (qf ns) q',true):=by
 have ne:ns≠[]:=fun z=>by rw[z]at two;cases two
 have e1:=D6 ne (by lia) nz
 have e2:bU [IL (iq ns.length)]=some (.lst ((rj (ns.length-1)).map XE.jD),true):=by
  have h:=D6 (ns:=iq ns.length) (fun z=>by have:=cH ns.length;rw[z]at this;simp at this;lia) (by rw[cH];lia) (fun k hk=>by
   rw[cH]at hk
   rw[pE hk];lia)
  rw[cH]at h;rw[h];congr 4;exact Wf fun k hk=>IW (Qb.mp hk)
 have W:=dw P (by lia)
 obtain⟨L,S,L',G,pp,e3⟩:=yt (X:=XE) W (fun j hj=>by obtain⟨k,_,rfl⟩:=Wa.mp hj;exact pC k) (fun j hj=>by obtain⟨k,_,rfl⟩:=Wa.mp hj;rfl)
 obtain⟨r1,_,r3⟩:=IU P G (ns.length-1) (Xa _) rfl;have ll:L'.length<60:=by
  have h1:=G.lens.1;have h2:=W.fj;rw[pp.length_eq];lia
 obtain⟨sf,el,t4,t5,rfl,_⟩:=bE (fg:=gT 2 (rS (gN 4) (rS (gN 5) Du))) (B:=gt) (fun k:Nat=>D.tup [.int (k:Int),XE.jD (Jk ns k)]) (List.range (ns.length-1)) (fun g st=>∃s4 s5,st=[.v (IL ns),.v (.lst ((oJ ns (ns.length-1)).map XE.jD)),.o (.lst ((rj (ns.length-1)).map XE.jD)),.o (.dt (pO ns g.length)),s4,s5]/\s4.isIo=false/\s5.isIo=false)
  (by
   rintro g k r st ha ⟨s4,s5,rfl,i4,i5⟩;obtain⟨hg,hk⟩:=fH ha;have lg:g.length=k:=by rw[hg,Wc]
   rw[lg];refine⟨_,_,yD (t:=s4) (u:=s5) rfl i4 rfl rfl i5 rfl,put_ev (z':=.dt (pO ns (k+1))) rfl rfl rfl rfl rfl rfl rfl rfl ?_,.v (.int (k:Int)),.v (XE.jD (Jk ns k)),by rw[Va,Vc,lg];rfl,rfl,rfl⟩
   have le:(pO ns k).length<100000:=by unfold pO;rw[Ya,Wc];lia
   rw[GS (Ea k) le,lL]
   ·unfold pO;rw[AE,Ve];rfl
   ·intro z;obtain⟨i,hi,e⟩:=pO_keys.mp z;have:=pD P hk (by lia) (XE.tj_inj e)
    lia)
  (List.range (ns.length-1)) [] [.v (IL ns),.v (.lst ((oJ ns (ns.length-1)).map XE.jD)),.o (.lst ((rj (ns.length-1)).map XE.jD)),.o (.dt []),.e,.e] rfl ⟨.e,.e,rfl,rfl,rfl⟩
 rw[Wc]at el;have c:fv (gN 0) fO dq 1 (L'.map (jW XE)) [.e,.o (.dt (pO ns (ns.length-1)))]=some (L'.map fun p=>LL (vG ns (ns.length-1) p),[.e,.o (.dt (pO ns (ns.length-1)))]) :=
  bK (jW XE) (fun p=>LL (vG ns (ns.length-1) p)) _ L' fun p hp=>by
   obtain⟨h1,h2,h3⟩:=r3 p (pp.mem_iff.mp hp);exact⟨_,_,_,_,_,rfl,rfl,yG P (by lia) h1 h2 h3,rfl,rfl⟩
 have so:=uD (ls:=L'.map (vG ns (ns.length-1))) (ms:=rl (ns.length-1) (qf ns) q' (ns.length-1)) (d:=.lst (L'.map fun p=>LL (vG ns (ns.length-1) p))) (by rw[← r1];exact pp.map _) (by rw[Ya];lia) (by rw[Xe];rfl)
 refine bt (o:=.rt (.f (RD (ns.length-1) (qf ns) q')) [.v (IL ns),.v (.lst ((oJ ns (ns.length-1)).map XE.jD)),.v (.lst ((rj (ns.length-1)).map XE.jD)),.o (.dt (pO ns (ns.length-1))),t4,t5]) rfl ?_ rfl;refine aw (s:=[.v (IL ns),.o (.lst ((oJ ns (ns.length-1)).map XE.jD)),.e,.e,.e,.e]) (fw (bQ rfl rfl e1) rfl) ?_;refine aw (s:=[.v (IL ns),.o (.lst ((oJ ns (ns.length-1)).map XE.jD)),.o (.lst ((rj (ns.length-1)).map XE.jD)),.e,.e,.e]) (fw (bQ (ap (x9 (ap (aZ rfl rfl (hV ns)) rfl) rfl ⟨by lia,by lia⟩) rfl) rfl (z:=(.lst ((rj (ns.length-1)).map XE.jD),true)) ?_) rfl) ?_
 ·rw[show((ns.length:Int) - 0).toNat=ns.length by lia,yE];exact e2
 refine aw (s:=[.v (IL ns),.o (.lst ((oJ ns (ns.length-1)).map XE.jD)),.o (.lst ((rj (ns.length-1)).map XE.jD)),.o (.dt []),.e,.e]) rfl ?_;refine aw (cF (s1:=[.v (IL ns),.v (.lst ((oJ ns (ns.length-1)).map XE.jD)),.o (.lst ((rj (ns.length-1)).map XE.jD)),.o (.dt []),.e,.e]) (by rw[← GZ []];exact DT rfl rfl rfl) el) ?_
 exact cn (aZ (ap (ci (jy (bQ rfl rfl e3) rfl) (ng (n:=1000) (by rw[Ya];lia) rfl) c) rfl) rfl so)
end
end
end K40
namespace K40
open PySem L2 VF VF22
noncomputable section
section
variable {ns ms:List Int} {N:Nat}
def sg (v:Int) (k:Nat):Int:=if v<0 then -(k:Int) else k
structure Hf (N:Nat) (ns ms:List Int):Prop where
 z:av ns 0=0
 la:av ns N=N
 nz:∀k,k<N->av ns (k+1)≠0
 bd:∀k,k<=N->(av ns k).natAbs<=N
 at_:∀k,k<=N->av ms (av ns k).natAbs=sg (av ns k) k
theorem Hf.end_ (h:Hf N ns ms):av ms N=N:=by
 have:=h.at_ N (Xa _);rw[h.la]at this;have e:(N:Int).natAbs=N:=by lia
 rw[e]at this;rw[this];unfold sg;rw[Af (by lia)]
theorem Hf.q (h:Hf N ns ms) {p:Nat} (hp:p<2*N):qf ns p<2*N/\qf ms (qf ns p)=p:=by
 have en:=h.end_;by_cases c:p % 2=0
 ·obtain⟨k,rfl⟩:∃k,p=2*k:=⟨p / 2,by lia⟩
  have hk:k<N:=by lia
  have b:=h.bd k (by lia)
  have a:=h.at_ k (by lia)
  have ne:(av ns k).natAbs≠N:=fun e=>by
   rw[e,en]at a;unfold sg at a;split at a<;>lia
  rw[vF];by_cases v:0<=av ns k
  ·have r:rc (av ns k)=2*(av ns k).natAbs:=by unfold rc;rw[Ae v]
   rw[r,vF,a];have e:sg (av ns k) k=k:=by unfold sg;rw[Af (by lia)]
   rw[e];unfold rc;rw[Ae (by lia)];lia
  ·have k0:k≠0:=fun z=>by rw[z,h.z]at v;exact v (Int.le_refl _)
   have r:rc (av ns k)=2*((av ns k).natAbs-1)+1:=by unfold rc;rw[Af v];lia
   rw[r,yw,show(av ns k).natAbs - 1+1=(av ns k).natAbs by lia,a]
   have e:sg (av ns k) k=-(k:Int):=by unfold sg;rw[Ae (by lia)]
   rw[e];unfold lc;rw[Af (by lia)];lia
 ·obtain⟨k,rfl⟩:∃k,p=2*k+1:=⟨p / 2,by lia⟩
  have hk:k<N:=by lia
  have b:=h.bd (k+1) (by lia)
  have a:=h.at_ (k+1) (by lia)
  have nz:=h.nz k hk;rw[yw];by_cases v:0<=av ns (k+1)
  ·have r:lc (av ns (k+1))=2*((av ns (k+1)).natAbs-1)+1:=by unfold lc;rw[Ae v];lia
   rw[r,yw,show(av ns (k+1)).natAbs - 1+1=(av ns (k+1)).natAbs by lia,a]
   have e:sg (av ns (k+1)) (k+1)=((k+1:Nat):Int):=by unfold sg;rw[Af (by lia)]
   rw[e];unfold lc;rw[Ae (by lia)];lia
  ·have ne:(av ns (k+1)).natAbs≠N:=fun e=>by
    rw[e,en]at a;unfold sg at a;split at a<;>lia
   have r:lc (av ns (k+1))=2*(av ns (k+1)).natAbs:=by unfold lc;rw[Af v]
   rw[r,vF,a];have e:sg (av ns (k+1)) (k+1)=-((k+1:Nat):Int):=by unfold sg;rw[Ae (by lia)]
   rw[e];unfold rc;rw[Af (by lia)];lia
theorem Hf.pm (h:Hf N ns ms) (h':Hf N ms ns):Pm N (qf ns) (qf ms):=⟨fun p hp=>(h.q hp).1,fun p hp=>(h'.q hp).1,fun p hp=>(h.q hp).2,fun p hp=>(h'.q hp).2⟩
theorem G0 {α:Type} {l m:List α} (nd:l.Nodup) (sub:l ⊆ m) (len:m.length<=l.length):m ⊆ l:=fun x hx=>by
 refine Classical.byContradiction fun c=>?_;have:=@hW _ (fun a b=>Classical.propDecidable _) (x::l) m (Vg.mpr ⟨c,nd⟩) fun y hy=>by
  rcases Xd.mp hy with rfl|hy
  ·exact hx
  ·exact sub hy
 rw[Zd]at this;lia
def pos (ns:List Int) (j:Nat):Nat:=((List.range ns.length).find? fun k=>decide ((av ns k).natAbs=j)).getD 0
theorem C5 (ns:List Int):ns.map ab=(List.range ns.length).map fun k=>((av ns k).natAbs:Int):=by
 refine Zk fun i=>?_;rw[Wb,Wb];by_cases hi:i<ns.length
 ·rw[Qi hi,kF hi];show some (ab _)=some _;rw[gl]
 ·rw[Qe (by lia),Qe (by rw[Wc];lia)];rfl
theorem yH (L:Ln ns):((List.range ns.length).map fun k=>(av ns k).natAbs).Nodup:=by
 have h:=L.nm.nd;rw[C5]at h;have:((List.range ns.length).map fun k=>((av ns k).natAbs:Int))=((List.range ns.length).map fun k=>(av ns k).natAbs).map fun t:Nat=>(t:Int):=by rw[Xe];rfl
 rw[this]at h;exact ya h
theorem pF (L:Ln ns) {i j:Nat} (hi:i<ns.length) (hj:j<ns.length) (h:(av ns i).natAbs=(av ns j).natAbs):i=j :=
 pw (yH L) (Qb.mpr hi) (Qb.mpr hj) h
theorem G1 {i:Nat} (hi:i<ns.length):av ns i∈ns:=Xb (kF hi)
theorem mN (L:Ln ns) {i:Nat} (hi:i<ns.length):(av ns i).natAbs<ns.length:=by
 have:=L.nm.le _ (G1 hi);rw[gl]at this;lia
theorem mO (L:Ln ns) {j:Nat} (hj:j<ns.length):pos ns j<ns.length/\(av ns (pos ns j)).natAbs=j:=by
 have h:=G0 (yH L) (m:=List.range ns.length) (fun x hx=>by
  obtain⟨k,hk,rfl⟩:=Wa.mp hx
  exact Qb.mpr (mN L (Qb.mp hk))) (by rw[Ya];exact Xa _)
 obtain⟨k,hk,e⟩:=Wa.mp (h (Qb.mpr hj));obtain⟨i,hi⟩:∃i,(List.range ns.length).find? (fun k=>decide ((av ns k).natAbs=j))=some i:=Vl.mp (List.find?_isSome.mpr ⟨k,hk,Ag e⟩);have h2:(av ns i).natAbs=j:=by simpa using B3 hi
 have h3:=Qb.mp (A9 hi);have e:pos ns j=i:=by unfold pos;rw[hi];rfl
 rw[e];exact⟨h3,h2⟩
theorem sF (L:Ln ns) {k:Nat} (hk:k<ns.length):pos ns (av ns k).natAbs=k:=by
 obtain⟨h1,h2⟩:=mO L (mN L hk);exact pF L h1 hk h2
def bk (ns:List Int):List Int:=(List.range ns.length).map fun j=>sg (av ns (pos ns j)) (pos ns j)
theorem jl (ns:List Int):(bk ns).length=ns.length:=by unfold bk;rw[Ya,Wc]
theorem mP {j:Nat} (hj:j<ns.length):av (bk ns) j=sg (av ns (pos ns j)) (pos ns j):=by
 unfold av bk;rw[Yd,Wb,Qi hj];rfl
theorem vH (L:Ln ns):av ns 0=0:=by
 obtain⟨r,e⟩:=L.hd;unfold av;rw[e];rfl
theorem yI (L:Ln ns):av ns (ns.length-1)=((ns.length-1:Nat):Int):=by
 obtain⟨r,e⟩:=L.la;have two:=L.two;have lr:r.length=ns.length-1:=by have:=congrArg List.length e;rw[Va,Vc]at this;lia
 generalize ns.length=n at *;unfold av;rw[e,Yd,Vh (by lia),lr,Nat.sub_self]
 show(n:Int)-1=_;lia
theorem yJ (L:Ln ns) {k:Nat} (hk:k+1<ns.length):av ns (k+1)≠0:=fun z=>by
 have:=pF L (i:=k+1) (j:=0) hk (by lia) (by rw[z,vH L])
 lia
theorem IX (L:Ln ns):Hf (ns.length-1) ns (bk ns) where
 z:=vH L
 la:=yI L
 nz k hk:=yJ L (by lia)
 bd k hk:=by have:=L.two;have:=mN L (i:=k) (by lia);lia
 at_ k hk:=by
  have two:=L.two;rw[mP (mN L (by lia)),sF L (by lia)]
theorem sG (v:Int) (k:Nat):(sg v k).natAbs=k:=by unfold sg;split<;>lia
theorem Ec (L:Ln ns):Hf (ns.length-1) (bk ns) ns:=by
 have two:=L.two;have p0:pos ns 0=0:=by
  have:=sF L (k:=0) (by lia)
  rwa [vH L]at this
 have pl:pos ns (ns.length-1)=ns.length-1:=by
  have:=sF L (k:=ns.length-1) (by lia)
  rwa [yI L,show((ns.length-1:Nat):Int).natAbs=ns.length-1 by lia]at this
 refine⟨?_,?_,fun k hk z=>?_,fun k hk=>?_,fun k hk=>?_⟩
 ·rw[mP (by lia),p0,vH L];rfl
 ·rw[mP (by lia),pl,yI L]
  unfold sg;rw[Af (by lia)]
 ·have h:=congrArg Int.natAbs z;rw[mP (by lia),sG]at h
  obtain⟨_,h2⟩:=mO L (j:=k+1) (by lia)
  rw[h]at h2;have:av ns 0=0:=vH L;simp[this]at h2
 ·rw[mP (by lia),sG]
  have:=(mO L (j:=k) (by lia)).1;lia
 ·obtain⟨h1,h2⟩:=mO L (j:=k) (by lia)
  rw[mP (by lia),sG]
  by_cases v:av ns (pos ns k)<0
  ·have k0:pos ns k≠0:=fun z=>by rw[z,vH L]at v;exact absurd v (by decide)
   have:sg (av ns (pos ns k)) (pos ns k)=-(pos ns k:Int):=by unfold sg;rw[Ae v]
   rw[this];unfold sg;rw[Ae (by lia)];lia
  ·have:sg (av ns (pos ns k)) (pos ns k)=(pos ns k:Int):=by unfold sg;rw[Af v]
   rw[this];unfold sg;rw[Af (by lia)];lia
theorem uE (L:Ln ns):Pm (ns.length-1) (qf ns) (qf (bk ns)):=(IX L).pm (Ec L)
theorem G3 (L:Ln ns) (gn:ns.length<=42):bo [IL ns]=some (RD (ns.length-1) (qf ns) (qf (bk ns)),true) :=
 mM L.two gn (fun k hk=>yJ L hk) (uE L)
theorem G4 (L:Ln ns) (gn:ns.length<=42):bo [IL (bk ns)]=some (RD (ns.length-1) (qf (bk ns)) (qf ns),true):=by
 have h:=mM (ns:=bk ns) (q':=qf ns) (by rw[jl];exact L.two) (by rw[jl];exact gn) (fun k hk=>(Ec L).nz k (by rw[jl]at hk;lia)) (by rw[jl];exact(uE L).symm)
 rwa [jl]at h
end
end
end K40
namespace K40
open PySem L2 VF VF22
theorem C6 {bs:List Int} {j:Nat} {v:Int} (h:j<bs.length):qp (IL bs) (.int (j:Int)) (.int v)=some (IL (bs.set j v)):=by
 show(vL (bs.map D.int).length (j:Int)).bind (fun j=>some (D.lst ((bs.map D.int).set j (.int v))))=_;have e:vL (bs.map D.int).length (j:Int)=some j:=by
  unfold vL;rw[Ae (by lia),Ya,Ae (by lia)];simp
 rw[e];show some (D.lst ((bs.map D.int).set j (.int v)))=_;rw[← List.map_set]
theorem IY (ns:List Int):yY (ns.map D.int)=(List.range ns.length).map fun k:Nat=>D.tup [.int (k:Int),.int (av ns k)]:=by
 unfold yY;refine Zk fun i=>?_;rw[By,Wb,Wb];by_cases hi:i<ns.length
 ·rw[Qi hi,kF hi];rfl
 ·rw[Qe (l:=ns) (by lia),Qe (by rw[Wc];lia)];rfl
theorem C7 {ns:List Int} (L:Ln ns) (gn:ns.length<=42):jh [IL ns]=some (IL (bk ns),true):=by
 obtain⟨sf,el,l,t2,t3,rfl,hl,hs,_⟩:=bE (fg:=gT 2 (rS (gN 2) (rS (gN 3) Du))) (B:=jJ) (fun k:Nat=>D.tup [.int (k:Int),.int (av ns k)]) (List.range ns.length) (fun g st=>∃l s2 s3,st=[.v (IL ns),.o (IL l),s2,s3]/\l.length=ns.length/\(∀k,k<g.length->l[(av ns k).natAbs]?=some (sg (av ns k) k))/\s2.isIo=false/\s3.isIo=false)
  (by
   rintro g k r st ha ⟨l,s2,s3,rfl,hl,hs,i2,i3⟩;obtain⟨hg,hk⟩:=fH ha;have lg:g.length=k:=by rw[hg,Wc]
   rw[lg]at hs;have hb:=mN L hk;refine⟨_,_,yD (t:=s2) (u:=s3) rfl i2 rfl rfl i3 rfl,put_ev (s1:=[.v (IL ns),.o (IL l),.v (.int (k:Int)),.v (.int (av ns k))]) (s2:=[.v (IL ns),.o (IL l),.v (.int (k:Int)),.v (.int (av ns k))]) (s3:=[.v (IL ns),.o (IL l),.v (.int (k:Int)),.v (.int (av ns k))]) (t:=.o (IL l)) (t0:=.o (IL l)) (dv:=.int (sg (av ns k) k)) (dk:=.int (((av ns k).natAbs:Nat):Int)) (z':=IL (l.set (av ns k).natAbs (sg (av ns k) k))) (r:=.d (.int (sg (av ns k) k))) ?_ rfl rfl rfl (aZ rfl rfl (z:=(.int (((av ns k).natAbs:Nat):Int),false)) (by rw[d9,gl])) rfl rfl rfl (C6 (by lia)),l.set (av ns k).natAbs (sg (av ns k) k),.v (.int (k:Int)),.v (.int (av ns k)),rfl,by rw[List.length_set];exact hl,fun i hi=>?_,rfl,rfl⟩
   ·unfold sg;by_cases c:av ns k<0
    ·rw[Ae c];refine ar (gh rfl rfl (by show 2<=_;decide)) (aZ (ap (ar rfl rfl rfl rfl (z:=(.bl true,false)) (by show some (D.bl (decide (av ns k<0)),false)=_;rw[Ag c])) rfl) rfl rfl) rfl rfl (z:=(.int (-(k:Int)),false)) ?_
     have:(0:Int)-k=-(k:Int):=by lia
     rw[← this];exact gf (i:=1) rfl
    ·rw[Af c];exact ar (gh rfl rfl (by show 2<=_;decide)) (aZ (ap (ar rfl rfl rfl rfl (z:=(.bl false,false)) (by show some (D.bl (decide (av ns k<0)),false)=_;rw[Ad c])) rfl) rfl rfl) rfl rfl (z:=(.int (k:Int),false)) (gf (i:=0) rfl)
   ·rw[Va,Vc,lg]at hi;by_cases e:i=k
    ·subst e;rw[Qk (by lia)]
    ·rw[Bx (fun z=>e (pF L (by lia) hk z.symm)),hs i (by lia)])
  (List.range ns.length) [] [.v (IL ns),.o (IL ns),.e,.e] rfl ⟨ns,.e,.e,rfl,rfl,fun k hk=>absurd hk (BZ _),rfl,rfl⟩
 rw[Wc]at hs;have e:l=bk ns:=by
  refine Zk fun j=>?_;by_cases hj:j<ns.length
  ·obtain⟨h1,h2⟩:=mO L hj;have:=hs (pos ns j) h1;rw[h2]at this;rw[this,kF (ns:=bk ns) (by rw[jl];exact hj),mP hj]
  ·rw[Qe (by lia),Qe (by rw[jl];lia)]
 subst e;refine bt (o:=.rt (.s 1) [.v (IL ns),.o (IL (bk ns)),t2,t3]) rfl ?_ rfl;refine aw (s:=[.v (IL ns),.o (IL ns),.e,.e]) rfl ?_;exact aw (cF (s1:=[.v (IL ns),.o (IL ns),.e,.e]) (by rw[← IY];exact DT rfl rfl rfl) el) rfl
theorem yK:∀l:List Nat,nL (NL l)=some (l.map fun k:Nat=>V.int (k:Int))
 | []=>rfl
 | y::r=>by
  show(nL (NL r)).bind (fun vs=>some (V.int (y:Int)::vs))=_;rw[yK r];rfl
theorem uF (x:Nat):∀l:List Nat,Dq (.int (x:Int)) (l.map fun k:Nat=>V.int (k:Int))=decide (x∈l)
 | []=>rfl
 | y::r=>by
  have ih:=uF x r;unfold Dq at ih ⊢;rw[Vd,AR,ih];show(((y:Int) == (x:Int))||decide (x∈r))=_;by_cases e:y=x
  ·subst e;simp
  ·have e':¬ x=y:=fun z=>e z.symm;have e2:¬ (y:Int)=(x:Int):=by lia
   simp[e',e2]
theorem iu {x:Nat} {l:List Nat}:fV (.int (x:Int)) (LL l)=some (.bl (!decide (x∈l)),false):=by
 have h1:FD true (.int (x:Int)) (LL l)=none:=rfl;have h2:FF true (.int (x:Int)) (LL l)=some (.bl (!decide (x∈l)),false):=by
  show(nL (NL l)).bind (fun ws=>some (D.bl (!Dq (.int (x:Int)) ws),false))=_;rw[yK];show some (D.bl (!Dq (.int (x:Int)) _),false)=_;rw[uF]
 unfold fV ke;have h3:oK (.int (x:Int)) (LL l)=some (.bl (!decide (x∈l)),false):=by
  unfold oK ke;rw[h1,h2]
 rw[h3]
end K40
namespace K40
open PySem L2 VF VF22
noncomputable section
section
variable {ns:List Int} {N:Nat} {q':Nat->Nat}
theorem JK (v:Int):D.tup [.int (ab v),.int (if decide (v ≥ 0)=true then 1 else 0)]=XE.eD (rc v):=by
 show _=D.tup [.int (((rc v+1) / 2:Nat):Int),.int (((rc v+1) % 2:Nat):Int)];unfold rc;rw[gl];by_cases c:0<=v
 ·rw[Ae c,Ag c,Ae rfl,show(2*v.natAbs+1) / 2=v.natAbs by lia,show(2*v.natAbs+1) % 2=1 by lia];rfl
 ·rw[Af c,Ad c,Af (by decide),show(2*v.natAbs - 1+1) / 2=v.natAbs by lia,show(2*v.natAbs - 1+1) % 2=0 by lia];rfl
theorem JL {v:Int} (h:v≠0):D.tup [.int (ab v),.int (if decide (v<0)=true then 1 else 0)]=XE.eD (lc v):=by
 show _=D.tup [.int (((lc v+1) / 2:Nat):Int),.int (((lc v+1) % 2:Nat):Int)];unfold lc;rw[gl];by_cases c:0<=v
 ·rw[Ae c,Ad (by lia),Af (by decide),show(2*v.natAbs - 1+1) / 2=v.natAbs by lia,show(2*v.natAbs - 1+1) % 2=0 by lia];rfl
 ·rw[Af c,Ag (by lia),Ae rfl,show(2*v.natAbs+1) / 2=v.natAbs by lia,show(2*v.natAbs+1) % 2=1 by lia];rfl
theorem Ed {k:Nat} (hk:k<ns.length) {s1:Sl} {r:En}:gG (ad (b8 (b1 kY) (ad (aH dE (aP 0) (aP 2)) aq)) (ad (b8 (b1 qt) (ad (aH zH (aH dE (aP 0) (aP 2)) (fC (.int 0))) aq)) aq)) (.v (IL ns)::s1::.v (.int (k:Int))::r)=some (.d (XE.eD (rc (av ns k))),.v (IL ns)::s1::.v (.int (k:Int))::r):=by
 rw[← JK];exact eQ (ap (aZ (ap (ar rfl rfl rfl rfl (gf (uB hk))) rfl) rfl (d9 _)) (ap (aZ (ap (ar (ar rfl rfl rfl rfl (gf (uB hk))) rfl rfl rfl rfl) rfl) rfl rfl) rfl)) rfl (by show 2<=_;decide)
theorem IZ {k:Nat} (hk:k+1<ns.length) (nz:av ns (k+1)≠0) {s1:Sl} {r:En}:gG (ad (b8 (b1 kY) (ad (aH dE (aP 0) (aH b9 (aP 2) (fC (.int 1)))) aq)) (ad (b8 (b1 qt) (ad (aH FC (aH dE (aP 0) (aH b9 (aP 2) (fC (.int 1)))) (fC (.int 0))) aq)) aq)) (.v (IL ns)::s1::.v (.int (k:Int))::r)=some (.d (XE.eD (lc (av ns (k+1)))),.v (IL ns)::s1::.v (.int (k:Int))::r):=by
 rw[← JL nz];exact eQ (ap (aZ (ap (ar rfl (ar rfl rfl rfl rfl rfl) rfl rfl (gf (i:=k+1) (uB hk))) rfl) rfl (d9 _)) (ap (aZ (ap (ar (ar rfl (ar rfl rfl rfl rfl rfl) rfl rfl (gf (i:=k+1) (uB hk))) rfl rfl rfl rfl) rfl) rfl rfl) rfl)) rfl (by show 2<=_;decide)
def dP (ns:List Int) (m:Nat):List (aN×D):=(List.range m).map fun p=>(XE.tE (qf ns p),.int ((p / 2:Nat):Int))
theorem dP_keys {m:Nat} {x:aN}:x∈(dP ns m).map (·.1)↔∃p,p<m/\x=XE.tE (qf ns p):=by
 unfold dP;rw[Xe,Wa];exact⟨fun⟨k,h1,h2⟩=>⟨k,Qb.mp h1,h2.symm⟩,fun⟨k,h1,h2⟩=>⟨k,Qb.mpr h1,h2.symm⟩⟩
theorem G5 (m:Nat):(dP ns m).length=m:=by unfold dP;rw[Ya,Wc]
theorem yL (P:Pm N (qf ns) q') {m:Nat} (hm:m<2*N) (hN:N<60):fD (.dt (dP ns m)) (XE.eD (qf ns m)) (.int ((m / 2:Nat):Int))=some (.dt (dP ns (m+1))):=by
 rw[IJ (by rw[G5];lia),lL]
 ·unfold dP;rw[AE,Ve];rfl
 ·intro z;obtain⟨p,hp,e⟩:=dP_keys.mp z;have:=of P hm (by lia) (XE.te_inj e)
  lia
theorem I0 (P:Pm N (qf ns) q'):((dP ns (2*N)).map (·.1)).Nodup:=by
 unfold dP;rw[Xe];show List.Pairwise _ _;rw[Qf];refine Aw (fun {a b} ha hb hab e=>?_) (Qh (n:=2*N));have:=of P (Qb.mp ha) (Qb.mp hb) (XE.te_inj e);lia
theorem yM (P:Pm N (qf ns) q') {p:Nat} (hp:p<2*N):gr (.dt (dP ns (2*N))) (XE.eD (qf ns p))=some (.int ((p / 2:Nat):Int),false) :=
 II (jQ (Wa.mpr ⟨p,Qb.mpr hp,rfl⟩) (I0 P))
theorem yN (m:Nat):ip (.dt (dP ns m))=some ((List.range m).map fun p=>XE.eD (qf ns p)):=by
 show some ((dP ns m).map fun kv=>fE kv.1)=_;unfold dP;rw[Xe];rfl
theorem yO (P:Pm N (qf ns) q') (hn:ns.length=N+1) (hN:N<60) (nz:∀k,k+1<ns.length->av ns (k+1)≠0) {k:Nat} (hk:k<N) {r:En}:eW (.v (IL ns)::.o (.dt (dP ns (2*k)))::.v (.int (k:Int))::r)=some (.nx (.v (IL ns)::.o (.dt (dP ns (2*(k+1))))::.v (.int (k:Int))::r)):=by
 have h1:=yL P (m:=2*k) (by lia) hN
 have h2:=yL P (m:=2*k+1) (by lia) hN
 rw[vF,show 2*k / 2=k by lia]at h1
 rw[yw,show(2*k+1) / 2=k by lia]at h2
 refine aw (s:=.v (IL ns)::.o (.dt (dP ns (2*k+1)))::.v (.int (k:Int))::r) (put_ev rfl rfl rfl rfl (Ed (by lia)) rfl rfl rfl h1) ?_
 exact put_ev rfl rfl rfl rfl (IZ (by lia) (nz k (by lia))) rfl rfl rfl h2
theorem JM (e:Nat):D.tup [.int ((((e+1) / 2:Nat):Int)+2*(((e+1) % 2:Nat):Int)-1),.int (1-(((e+1) % 2:Nat):Int))]=XE.eD (tw e):=by
 show _=D.tup [.int (((tw e+1) / 2:Nat):Int),.int (((tw e+1) % 2:Nat):Int)];unfold tw;by_cases c:e % 2=0
 ·rw[Ae c];congr 3
  ·lia
  ·congr 1;congr 1;lia
 ·rw[Af c];congr 3
  ·lia
  ·congr 1;congr 1;lia
theorem JN (a b:Nat):ix (XE.eD a) (XE.eD b)=some (.bl (!decide (a=b)),false):=by
 have e1:FX (XE.eD a) (XE.eD b)=none:=rfl;unfold ix ke;rw[e1];unfold qv;rw[Ae ⟨XE.pl 38 a,XE.pl 38 b⟩];have dc:∀i:Decidable (XE.eD a=XE.eD b),@decide _ i=decide (a=b):=fun i=>by
  rw[Zf,decide_eq_true_eq,decide_eq_true_eq];refine⟨fun z=>XE.inj ?_,fun z=>by rw[z]⟩
  have z1:D.tup (XE.eT a)=D.tup (XE.eT b):=z;injection z1 with z1;have k1:=XE.key a;rw[z1,XE.key b]at k1;exact(Option.some.inj k1).symm
 rw[dc];rfl
theorem uG {M x:Nat} {f:Nat->Bool} (hx:x<M) (h:∀y,y<M->(f y=true↔y=x)):(List.range M).filter f=[x]:=by
 have n1:((List.range M).filter f).Nodup:=A8 Vk AN;have p:((List.range M).filter f).Perm [x]:=by
  rw[A7 n1 (by simp)]
  intro y;rw[Zl,Qb,Ye];exact⟨fun⟨a,b⟩=>(h y a).mp b,fun e=>⟨e ▸ hx,(h y (e ▸ hx)).mpr e⟩⟩
 exact List.perm_singleton.mp p
theorem vI (P:Pm N (qf ns) q') (hN:N<60) {p x:Nat} (hp:p<2*N) {R:List Nat} (lR:R.length<100) {s1 k0 s3 s4:Sl} (h1:s1=.o (.dt (dP ns (2*N)))∨s1=.v (.dt (dP ns (2*N)))) :
  cY [.v (IL ns),s1,k0,s3,s4,.o (LL R),.v (XE.eD (qf ns p)),.v (.int (x:Int))]=some (.nx [.v (IL ns),.v (.dt (dP ns (2*N))),k0,s3,s4,.o (LL (R++[x])),.v (XE.eD (qf ns (tw (ta (qf ns) q' p)))),.v (.int ((ta (qf ns) q' p / 2:Nat):Int))]):=by
 have lt:=uq P hp;have et:qf ns (ta (qf ns) q' p)=tw (qf ns p):=P.r _ (iP (P.lt p hp));have c:=fW (k:=1) (fg:=gN 0) (fc:=iJ) (fe:=iK) (fun p=>XE.eD (qf ns p)) (fun p=>XE.eD (qf ns p)) (fun y=>decide (y / 2=ta (qf ns) q' p / 2)&&!decide (qf ns y=tw (qf ns p))) [.e,.v (.dt (dP ns (2*N))),.v (.int ((ta (qf ns) q' p / 2:Nat):Int)),.v (XE.eD (tw (qf ns p)))] (List.range (2*N)) fun y hy=>by
  have hy:=Qb.mp hy;refine⟨[.v (XE.eD (qf ns y)),.v (.dt (dP ns (2*N))),.v (.int ((ta (qf ns) q' p / 2:Nat):Int)),.v (XE.eD (tw (qf ns p)))],[.v (XE.eD (qf ns y)),.v (.dt (dP ns (2*N))),.v (.int ((ta (qf ns) q' p / 2:Nat):Int)),.v (XE.eD (tw (qf ns p)))],rfl,?_,fun _=>rfl,fun _=>⟨_,_,_,rfl,rfl,rfl⟩⟩;have t1:bc (aH qw (aH gr (aP 1) (aP 0)) (aP 2)) [.v (XE.eD (qf ns y)),.v (.dt (dP ns (2*N))),.v (.int ((ta (qf ns) q' p / 2:Nat):Int)),.v (XE.eD (tw (qf ns p)))]=some (decide (y / 2=ta (qf ns) q' p / 2),[.v (XE.eD (qf ns y)),.v (.dt (dP ns (2*N))),.v (.int ((ta (qf ns) q' p / 2:Nat):Int)),.v (XE.eD (tw (qf ns p)))]) :=
   aJ (ar (ar rfl rfl rfl rfl (yM P hy)) rfl rfl rfl CL) (by
    show some (decide (((y / 2:Nat):Int)=((ta (qf ns) q' p / 2:Nat):Int)))=_
    congr 1;rw[BT];lia)
  have t2:bc (aH ix (aP 0) (aP 3)) [.v (XE.eD (qf ns y)),.v (.dt (dP ns (2*N))),.v (.int ((ta (qf ns) q' p / 2:Nat):Int)),.v (XE.eD (tw (qf ns p)))]=some (!decide (qf ns y=tw (qf ns p)),[.v (XE.eD (qf ns y)),.v (.dt (dP ns (2*N))),.v (.int ((ta (qf ns) q' p / 2:Nat):Int)),.v (XE.eD (tw (qf ns p)))]) :=
   aJ (ar rfl rfl rfl rfl (JN _ _)) rfl
  by_cases z:y / 2=ta (qf ns) q' p / 2
  ·rw[Ag z]at t1 ⊢;rw[Bool.true_and];exact Ie t1 t2
  ·rw[Ad z]at t1 ⊢;exact Ig t1
 rw[uG (iP lt) (fun y hy=>by
  rw[Xg,decide_eq_true_eq,Bool.not_eq_true',decide_eq_false_iff_not];constructor
  ·rintro⟨a,b⟩;rcases px a with z|z
   ·rw[z,et]at b;exact absurd rfl b
   ·exact z
  ·intro z;refine⟨by rw[z,eI],fun e=>?_⟩
   rw[← et]at e;have:=of P hy lt e;rw[z]at this
   exact yi _ this)]at c
 have dg:=yM P lt;rw[et]at dg;have tt:∀(s1:Sl),gG (ad (aH fR (aH b9 (aH dE (aP 6) (fC (.int 0))) (aH dG (fC (.int 2)) (aH dE (aP 6) (fC (.int 1))))) (fC (.int 1))) (ad (aH fR (fC (.int 1)) (aH dE (aP 6) (fC (.int 1)))) aq)) [.v (IL ns),s1,k0,s3,s4,.o (LL (R++[x])),.v (XE.eD (qf ns p)),.v (.int (x:Int))]=some (.d (XE.eD (tw (qf ns p))),[.v (IL ns),s1,k0,s3,s4,.o (LL (R++[x])),.v (XE.eD (qf ns p)),.v (.int (x:Int))]):=fun s1=>by
  rw[← JM];exact eQ (ap (ar (ar (ar rfl rfl rfl rfl (jM (i:=0) rfl)) (ar rfl (ar rfl rfl rfl rfl (jM (i:=1) rfl)) rfl rfl (dA (.inl (by decide)))) rfl rfl rfl) rfl rfl rfl rfl) (ap (ar rfl (ar rfl rfl rfl rfl (jM (i:=1) rfl)) rfl rfl rfl) rfl)) rfl (by show 2<=_;decide)
 refine aw (s:=[.v (IL ns),s1,k0,s3,s4,.o (LL (R++[x])),.v (XE.eD (qf ns p)),.v (.int (x:Int))]) (cX (me rfl rfl rfl rfl rfl rfl rfl (app_ev (by rw[Ya];lia)) (by unfold LL NL;rw[Ve (l₁:=R)];rfl))) ?_
 refine aw (s:=[.v (IL ns),s1,k0,s3,s4,.o (LL (R++[x])),.v (XE.eD (tw (qf ns p))),.v (.int (x:Int))]) (cE (tt s1) rfl) ?_;rcases h1 with rfl|rfl
 ·refine aw (s:=[.v (IL ns),.o (.dt (dP ns (2*N))),k0,s3,s4,.o (LL (R++[x])),.v (XE.eD (tw (qf ns p))),.v (.int ((ta (qf ns) q' p / 2:Nat):Int))]) (cE (ar rfl rfl rfl rfl dg) rfl) ?_;exact cE (ar (ci (yp rfl rfl (yN _)) (ng (n:=1000) (by rw[Ya,Wc];lia) rfl) c) rfl rfl rfl (gf (i:=0) rfl)) rfl
 ·refine aw (s:=[.v (IL ns),.v (.dt (dP ns (2*N))),k0,s3,s4,.o (LL (R++[x])),.v (XE.eD (tw (qf ns p))),.v (.int ((ta (qf ns) q' p / 2:Nat):Int))]) (cE (ar rfl rfl rfl rfl dg) rfl) ?_;exact cE (ar (ci (yp rfl rfl (yN _)) (ng (n:=1000) (by rw[Ya,Wc];lia) rfl) c) rfl rfl rfl (gf (i:=0) rfl)) rfl
end
end
end K40
namespace K40
open PySem L2 VF VF22
noncomputable section
section
variable {ns:List Int} {N:Nat} {q':Nat->Nat}
abbrev Pd (ns:List Int) (N:Nat) (s:Sl):Prop:=s=.o (.dt (dP ns (2*N)))∨s=.v (.dt (dP ns (2*N)))
theorem C8 (P:Pm N (qf ns) q') (hN:N<60) {k:Nat} (hk:k<N) {s1 k0 s3 s4:Sl} (h1:Pd ns N s1) :
  ∃m t1 t6 t7,vM (bc (aH fV (aP 7) (aP 5))) cY 1000 [.v (IL ns),s1,k0,s3,s4,.o (LL []),.v (XE.eD (qf ns (2*k))),.v (.int (k:Int))]=some (.nx [.v (IL ns),t1,k0,s3,s4,.o (LL (hX (qf ns) q' (2*k) m)),t6,t7])/\Pd ns N t1/\(hX (qf ns) q' (2*k) m).Nodup/\wk (qf ns) q' (2*k) m / 2∈hX (qf ns) q' (2*k) m/\t6.isIo=false/\t7.isIo=false:=by
 have hp:2*k<2*N:=by lia
 obtain⟨sf,e,m,t1,t6,t7,rfl,h⟩:=r6 (f:=bc (aH fV (aP 7) (aP 5))) (B:=cY)
  (fun mm st=>∃m s1,mm+m=N+1/\st=[.v (IL ns),s1,k0,s3,s4,.o (LL (hX (qf ns) q' (2*k) m)),.v (XE.eD (qf ns (wk (qf ns) q' (2*k) m))),.v (.int ((wk (qf ns) q' (2*k) m / 2:Nat):Int))]/\Pd ns N s1/\(hX (qf ns) q' (2*k) m).Nodup)
  (fun st=>∃m t1 t6 t7,st=[.v (IL ns),t1,k0,s3,s4,.o (LL (hX (qf ns) q' (2*k) m)),t6,t7]/\Pd ns N t1/\(hX (qf ns) q' (2*k) m).Nodup/\wk (qf ns) q' (2*k) m / 2∈hX (qf ns) q' (2*k) m/\t6.isIo=false/\t7.isIo=false)
  (by
   rintro mm st ⟨m,s1,hm,rfl,h1,nd⟩;by_cases c:wk (qf ns) q' (2*k) m / 2∈hX (qf ns) q' (2*k) m
   ·refine .inl ⟨_,aJ (ar rfl rfl rfl rfl iu) (by show some (!decide _)=_;rw[Ag c];rfl),m,s1,_,_,rfl,h1,nd,c,rfl,rfl⟩
   ·have lm:=kC P hp nd;have nd':(hX (qf ns) q' (2*k) (m+1)).Nodup:=by
     rw[qT];refine Wi.mpr ⟨nd,by simp,fun a ha b hb e=>c ?_⟩
     rw[Ye.mp hb]at e;exact e ▸ ha
    have lm':=kC P hp nd';have t:=vI P hN (kO P hp m) (x:=wk (qf ns) q' (2*k) m / 2) (R:=hX (qf ns) q' (2*k) m) (by rw[gk];lia) (k0:=k0) (s3:=s3) (s4:=s4) h1
    refine .inr ⟨_,_,mm-1,aJ (ar rfl rfl rfl rfl iu) (by show some (!decide _)=_;rw[Ad c];rfl),t,by lia,m+1,.v (.dt (dP ns (2*N))),by lia,?_,.inr rfl,nd'⟩
    rw[qT];show _=([_,_,_,_,_,_,.v (XE.eD (qf ns (tw (ta (qf ns) q' (wk (qf ns) q' (2*k) m))))),.v (.int ((tw (ta (qf ns) q' (wk (qf ns) q' (2*k) m)) / 2:Nat):Int))]:En)
    rw[eI])
  1000 (N+1) _ (by lia) ⟨0,s1,rfl,by rw[show wk (qf ns) q' (2*k) 0 / 2=k by show 2*k / 2=k;lia],h1,by simp[hX]⟩
 exact⟨m,t1,t6,t7,e,h⟩
theorem yP (P:Pm N (qf ns) q') (hn:ns.length=N+1) (hN:N<60) {k:Nat} (hk:k<N) {M:List Nat} (lM:M.length<=60*k) (hM:∀x,x∈M↔x∈(rl N (qf ns) q' k).flatten) {s1 s5 s6 s7:Sl} (h1:Pd ns N s1) (i5:s5.isIo=false) (i6:s6.isIo=false) (i7:s7.isIo=false) :
  ∃M' t1 t5 t6 t7,eX [.v (IL ns),s1,.v (.int (k:Int)),.o (.lst ((rl N (qf ns) q' k).map LL)),.o (LL M),s5,s6,s7]=some (.nx [.v (IL ns),t1,.v (.int (k:Int)),.o (.lst ((rl N (qf ns) q' (k+1)).map LL)),.o (LL M'),t5,t6,t7])/\M'.length<=60*(k+1)/\(∀x,x∈M'↔x∈(rl N (qf ns) q' (k+1)).flatten)/\Pd ns N t1/\t5.isIo=false/\t6.isIo=false/\t7.isIo=false:=by
 by_cases c:k∈M
 ·have er:rl N (qf ns) q' (k+1)=rl N (qf ns) q' k:=by
   conv=>lhs;unfold rl
   rw[Ae ((hM k).mp c)]
  rw[er];exact⟨M,s1,s5,s6,s7,jb (aJ (ar rfl rfl rfl rfl iu) (by show some (!decide _)=_;rw[Ag c];rfl)) rfl,by lia,hM,h1,i5,i6,i7⟩
 ·have er:rl N (qf ns) q' (k+1)=rl N (qf ns) q' k++[cls N (qf ns) q' k]:=by
   conv=>lhs;unfold rl
   rw[Af fun z=>c ((hM k).mpr z)]
  rw[er];have hp:2*k<2*N:=by lia
  obtain⟨m,t1,t6,t7,e,g1,nd,hm,j6,j7⟩:=C8 P hN hk (k0:=.v (.int (k:Int))) (s3:=.o (.lst ((rl N (qf ns) q' k).map LL))) (s4:=.o (LL M)) h1;have mem:=yk P hp nd hm;have lm:=kC P hp nd;have pc:(cls N (qf ns) q' k).Perm (hX (qf ns) q' (2*k) m):=by
   rw[A7 (GP k) nd];intro x;rw[pB P hk,mem];rfl
  have so:=qY (d:=LL (hX (qf ns) q' (2*k) m)) pc (GQ k) (by rw[pc.length_eq,gk];lia) rfl
  refine⟨M++hX (qf ns) q' (2*k) m,t1,.v (LL (hX (qf ns) q' (2*k) m)),t6,t7,?_,by rw[Va,gk];lia,fun x=>?_,g1,rfl,j6,j7⟩
  ·refine km (s:=[.v (IL ns),s1,.v (.int (k:Int)),.o (.lst ((rl N (qf ns) q' k).map LL)),.o (LL M),s5,s6,s7]) (aJ (ar rfl rfl rfl rfl iu) (by show some (!decide _)=_;rw[Ad c];rfl)) ?_
   refine aw (s:=[.v (IL ns),s1,.v (.int (k:Int)),.o (.lst ((rl N (qf ns) q' k).map LL)),.o (LL M),.o (LL []),s6,s7]) (fw (gh rfl rfl (by show 0<=_;decide)) (fPut_ev (t:=s5) rfl i5)) ?_
   refine aw (s:=[.v (IL ns),s1,.v (.int (k:Int)),.o (.lst ((rl N (qf ns) q' k).map LL)),.o (LL M),.o (LL []),.v (XE.eD (qf ns (2*k))),s7]) (cE (x:=XE.eD (qf ns (2*k))) (s:=[.v (IL ns),s1,.v (.int (k:Int)),.o (.lst ((rl N (qf ns) q' k).map LL)),.o (LL M),.o (LL []),s6,s7]) (by rw[vF];exact Ed (by lia)) (fPut_ev (t:=s6) rfl i6)) ?_
   refine aw (s:=[.v (IL ns),s1,.v (.int (k:Int)),.o (.lst ((rl N (qf ns) q' k).map LL)),.o (LL M),.o (LL []),.v (XE.eD (qf ns (2*k))),.v (.int (k:Int))]) (cE rfl (fPut_ev (t:=s7) rfl i7)) ?_;refine aw e ?_;refine aw (s:=[.v (IL ns),t1,.v (.int (k:Int)),.o (.lst ((rl N (qf ns) q' k).map LL)),.o (LL (M++hX (qf ns) q' (2*k) m)),.v (LL (hX (qf ns) q' (2*k) m)),t6,t7]) (cX (me rfl rfl rfl rfl rfl rfl rfl (oT (by rw[Ya,Ya,gk];lia)) (by unfold LL NL;rw[Ve (l₁:=M)];rfl))) ?_
   refine cX (me rfl rfl rfl (ap (aZ rfl rfl so) rfl) rfl rfl rfl (app_ev (by rw[Ya];have:=yl (N:=N) (q:=qf ns) (q':=q') k;lia)) (by rw[Ve (l₁:=rl N (qf ns) q' k)];rfl))
  ·rw[Vf,hM,mem,BB,Vf,Ci,pB P hk];rfl
theorem vJ (two:2<=ns.length) (gn:ns.length<=42) (nz:∀k,k+1<ns.length->av ns (k+1)≠0) (P:Pm (ns.length-1) (qf ns) q'):g9 [IL ns]=some (RD (ns.length-1) (qf ns) q',true):=by
 obtain⟨N,hN⟩:∃N,ns.length=N+1:=⟨ns.length-1,by lia⟩
 have e0:ns.length-1=N:=by lia
 rw[e0]at P ⊢;have rg:∀(s1 s2:Sl) (r:En),m5 (ad (aH fR (b8 cC (ad (aP 0) aq)) (fC (.int 1))) aq) (.v (IL ns)::s1::s2::r)=some ((List.range N).map fun t:Nat=>D.int (t:Int),.v (IL ns)::s1::s2::r):=fun s1 s2 r=>by
  have h:=jx (fa:=ad (aH fR (b8 cC (ad (aP 0) aq)) (fC (.int 1))) aq) (st:=.v (IL ns)::s1::s2::r) (j:=(N:Int)) (ap (ar (aZ rfl rfl (hV ns)) rfl rfl rfl (z:=(.int (N:Int),false)) (by show some (D.int ((ns.length:Int) - 1),false)=_;rw[show(ns.length:Int) - 1=(N:Int) by lia])) rfl) rfl ⟨by lia,by lia⟩
  rw[h,yE];congr 1;unfold iq;rw[Xe];rfl
 obtain⟨sf,el,t2,rfl,i2⟩:=bE (fg:=gN 2) (B:=eW) (fun t:Nat=>D.int (t:Int)) (List.range N) (fun g st=>∃s2,st=[.v (IL ns),.o (.dt (dP ns (2*g.length))),s2,.e,.e,.e,.e,.e]/\s2.isIo=false)
  (by
   rintro g k r st ha ⟨s2,rfl,i2⟩;obtain⟨hg,hk⟩:=fH ha;have lg:g.length=k:=by rw[hg,Wc]
   rw[lg]
   exact⟨_,_,fPut_ev (t:=s2) rfl i2,yO P hN (by lia) nz hk,.v (.int (k:Int)),by rw[Va,Vc,lg],rfl⟩)
  (List.range N) [] [.v (IL ns),.o (.dt []),.e,.e,.e,.e,.e,.e] rfl ⟨.e,rfl,rfl⟩
 rw[Wc]at el;obtain⟨sf,el2,M,t1,t2',t5,t6,t7,rfl,_⟩:=bE (fg:=gN 2) (B:=eX) (fun t:Nat=>D.int (t:Int)) (List.range N) (fun g st=>∃M s1 s2 s5 s6 s7,st=[.v (IL ns),s1,s2,.o (.lst ((rl N (qf ns) q' g.length).map LL)),.o (LL M),s5,s6,s7]/\M.length<=60*g.length/\(∀x,x∈M↔x∈(rl N (qf ns) q' g.length).flatten)/\Pd ns N s1/\s2.isIo=false/\s5.isIo=false/\s6.isIo=false/\s7.isIo=false)
  (by
   rintro g k r st ha ⟨M,s1,s2,s5,s6,s7,rfl,lM,hM,h1,i2,i5,i6,i7⟩;obtain⟨hg,hk⟩:=fH ha;have lg:g.length=k:=by rw[hg,Wc]
   rw[lg]at lM hM ⊢;obtain⟨M',t1,t5,t6,t7,e,a1,a2,a3,a4,a5,a6⟩:=yP P hN (by lia) hk lM hM h1 i5 i6 i7
   exact⟨_,_,fPut_ev (t:=s2) rfl i2,e,M',t1,.v (.int (k:Int)),t5,t6,t7,by rw[Va,Vc,lg],by rw[Va,Vc,lg];exact a1,by rw[Va,Vc,lg];exact a2,a3,rfl,a4,a5,a6⟩)
  (List.range N) [] [.v (IL ns),.o (.dt (dP ns (2*N))),t2,.o (.lst []),.o (LL []),.e,.e,.e] rfl ⟨[],_,t2,.e,.e,.e,rfl,Xa _,fun x=>⟨fun z=>(by cases z),fun z=>(by cases z)⟩,.inl rfl,i2,rfl,rfl,rfl⟩
 rw[Wc]at el2;have so:=uD (d:=.lst ((rl N (qf ns) q' N).map LL)) (List.Perm.refl (rl N (qf ns) q' N)) (by have:=yl (N:=N) (q:=qf ns) (q':=q') N;lia) rfl
 refine bt (o:=.rt (.f (RD N (qf ns) q')) [.v (IL ns),t1,t2',.o (.lst ((rl N (qf ns) q' N).map LL)),.o (LL M),t5,t6,t7]) rfl ?_ rfl;refine aw (s:=[.v (IL ns),.o (.dt []),.e,.e,.e,.e,.e,.e]) rfl ?_;refine aw (cF (rg _ _ _) el) ?_;refine aw (s:=[.v (IL ns),.o (.dt (dP ns (2*N))),t2,.o (.lst []),.e,.e,.e,.e]) rfl ?_;refine aw (s:=[.v (IL ns),.o (.dt (dP ns (2*N))),t2,.o (.lst []),.o (LL []),.e,.e,.e]) rfl ?_;refine aw (cF (rg _ _ _) el2) ?_;exact cn (aZ rfl rfl so)
end
end
end K40
namespace VF
open PySem L2
open Classical in
theorem qZ {n:Nat} {ds:List D} (h:∀d∈ds,Pl n d) (hn:n<=39):ix (.lst ds) (.lst ds)=some (.bl false,false):=by
 have up:∀(k:Nat) {m:Nat} {d:D},Pl m d->Pl (m+k) d:=fun k=>by
  induction k with
  | zero=>intro m d h;exact h
  | succ k ih=>intro m d h;exact(ih h).up
 have e1:wO true (.lst ds) (.lst ds)=none:=rfl;have p:Pl 40 (.lst ds):=.lst fun d hd=>by
  have:=up (39-n) (h d hd);rwa [show n+(39-n)=39 by lia]at this
 cases ds with
 | nil=>unfold ix FX ke;rw[e1];rfl
 | cons x r =>
  have e2:FV (.lst (x::r)) (.lst (x::r))=none:=rfl;have e3:qv true (.lst (x::r)) (.lst (x::r))=some (.bl false,false):=by
   unfold qv;rw[Ae ⟨p,p⟩];simp
  unfold ix FX ke;rw[e1,e2];exact e3
open Classical in
theorem yQ {n:Nat} {ds:List D} (h:∀d∈ds,Pl n d) (hn:n<=39):qw (.lst ds) (.lst ds)=some (.bl true,false):=by
 have up:∀(k:Nat) {m:Nat} {d:D},Pl m d->Pl (m+k) d:=fun k=>by
  induction k with
  | zero=>intro m d h;exact h
  | succ k ih=>intro m d h;exact(ih h).up
 have e1:DF (.lst ds) (.lst ds)=none:=rfl;have p:Pl 40 (.lst ds):=.lst fun d hd=>by
  have:=up (39-n) (h d hd);rwa [show n+(39-n)=39 by lia]at this
 unfold qw ke;rw[e1];unfold qv;rw[Ae ⟨p,p⟩];simp
end VF
namespace K40
open PySem L2 VF VF22
theorem I8 (l:List Int):ix (IL l) (IL l)=some (.bl false,false):=qZ (n:=1) (fun d hd=>by obtain⟨p,_,rfl⟩:=Wa.mp hd;exact .int _ _) (by decide)
theorem C9 {i j:Int}:ix (.int i) (.int j)=some (.bl (!decide (i=j)),false):=by
 unfold ix ke;rw[sv]
noncomputable section
section
variable {ns:List Int} {N:Nat} {q q':Nat->Nat}
theorem q5 {g:List D->Option Rz} {i:Nat} {st:En} {hl:List Int} {rs:List D} (h1:st[i]?=some (.o (.lst (iD hl)))) (h2:g [.lst (iD hl)]=some (.lst rs,true)) (h3:Nw hl rs):ku g i st=some (.f (.lst rs),st):=by
 unfold ku;simp only[h1,h2];rw[Ae ⟨hl,rfl,h3⟩]
theorem Da {g:List D->Option Rz} {m i j r:Nat} {f1 f2:FT} {st0 st:En} {hl:List Int} {rs:List D} (h0:qc st0 m=some st) (h1:st[i]?=some (.o (.lst (iD hl)))) (h2:g [.lst (iD hl)]=some (.lst rs,true)) (h3:Nw hl rs) (h4:Qs st i j r hl) (h5:f1 (st.set j (.v (.lst rs)))=some (false,st.set j (.v (.lst rs)))) (h6:∀l:List Int,l.length<=1000->f2 (st.set r (.v (.lst (iD l))))=some (false,st.set r (.v (.lst (iD l))))):qL g m i j r f1 f2 st0=some (.nx st):=by
 unfold qL;rw[h0];simp only[Qa,h1,h2];rw[Ae ⟨⟨hl,rfl,h3,h4⟩,h5,h6⟩]
theorem yR {x:D} (h:x∈bR 40 ((rl N q q' N).map LL)):∃k,k<N/\x=LL (cls N q q' k):=by
 obtain⟨l,hl,rfl⟩:=Wa.mp ((f6 40 _).mem_iff.mp h);obtain⟨k,hk,rfl⟩:=IH N l hl;exact⟨k,hk,rfl⟩
theorem Ee {hl:List Int} (h:N<hl.length) (hN:N<=1000):Nw hl (bR 40 ((rl N q q' N).map LL)):=fun x hx=>by
 obtain⟨k,hk,rfl⟩:=yR hx;have cl:=CT (N:=N) (q:=q) (q':=q') k;refine⟨(cls N q q' k).map fun k:Nat=>(k:Int),by unfold iD;rw[Xe];rfl,fun z=>?_,by rw[Ya];lia⟩
 rw[← z,Ya]at h;lia
theorem I9:∀x∈bR 40 ((rl N q q' N).map LL),Pl 2 x:=fun x hx=>by
 obtain⟨k,hk,rfl⟩:=yR hx;exact .lst fun d hd=>by
  obtain⟨k,_,rfl⟩:=Wa.mp hd;exact .int _ _
theorem Ef:ix (RD N q q') (RD N q q')=some (.bl false,false):=qZ (n:=2) I9 (by decide)
theorem yS:(bR 40 ((rl N q q' N).map LL)).length=(rl N q q' N).length:=by rw[(f6 40 _).length_eq,Ya]
theorem yT (n:Nat):Pm (n-1) (qf (iq n)) id:=⟨fun p hp=>(by rw[og hp];exact hp),fun p hp=>hp,fun p hp=>og hp,fun p hp=>og hp⟩
theorem Eg {n k j:Nat} (hk:k<n-1):Rp (qf (iq n)) id k j↔j=k:=by
 constructor
 ·intro h;have key:∀b,Cn (qf (iq n)) id (2*k) b->b / 2=k:=by
   intro b c;induction c with
   | refl=>lia
   | tw _ ih=>rw[eI];exact ih
   | @ta b c ih =>
    have lb:=c.lt (yT n) (by lia)
    show tw (qf (iq n) b) / 2=k;rw[og lb,eI];exact ih
  have:=key _ h;lia
 ·rintro rfl;exact .refl
open Classical in
theorem G6 {n k:Nat} (hk:k<n-1):cls (n-1) (qf (iq n)) id k=[k]:=by
 unfold cls;exact uG hk fun y hy=>by rw[decide_eq_true_iff];exact Eg hk
theorem Eh (n:Nat):∀t,t<=n-1->rl (n-1) (qf (iq n)) id t=(List.range t).map fun k=>[k]
 | 0,_=>rfl
 | t+1,h=>by
  have ih:=Eh n t (by lia)
  conv=>lhs;unfold rl
  rw[Af,ih,G6 (by lia),AE,Ve];rfl
  rw[kD (yT n) (by lia)]
  rintro⟨j,hj,r⟩;have:=(Eg (by lia)).mp r
  lia
theorem yU (n:Nat):RD (n-1) (qf (iq n)) id=.lst ((List.range (n-1)).map fun k=>LL [k]):=by
 unfold RD;rw[Eh n _ (Xa _)];congr 1;rw[Xe];refine(cq ?_ (List.Perm.refl _) ?_).symm
 ·have:=yC ((List.range (n-1)).map fun k=>[k]);rw[Xe]at this;exact this
 ·unfold zW;rw[Qf];refine List.Pairwise.imp (fun {a b} hab=>?_) (Qh (n:=n-1));show gq (ltN 39) [.int (b:Int)] [.int (a:Int)]=false;unfold gq;rw[Af (by intro z;injection z with z;lia)]
  exact Ad (by lia)
theorem yV {n:Nat} (two:2<=n) (gn:n<=42):bo [IL (iq n)]=some (RD (n-1) (qf (iq n)) id,true):=by
 have h:=mM (ns:=iq n) (q':=id) (by rw[cH];exact two) (by rw[cH];exact gn) (fun k hk=>by
  rw[cH]at hk
  rw[pE hk];lia) (by rw[cH];exact yT n)
 rwa [cH]at h
theorem yW {s:Sl} {r:En} {l:List Int} (ll:l.length<=1000):iN [.v (IL ns),.o (IL ns),s,.e,.v (.lst (iD l))]=some (false,[.v (IL ns),.o (IL ns),s,.e,.v (.lst (iD l))]):=by
 have cl:=bK (fg:=gN 0) (fc:=fO) (fe:=iM) (k:=1) D.int (fun _=>D.bl true) [.e] l fun y _=>⟨[.v (.int y)],[.v (.int y)],.d (.bl true),[.v (.int y)],[.v (.int y)],rfl,rfl,F4 (r:=.d (.bl true)) (s:=[.v (.int y)]) rfl rfl rfl,rfl,rfl⟩;have er:l.map (fun _=>D.bl true)=List.replicate l.length (D.bl true):=by rw[List.map_const']
 rw[er]at cl;exact zR (oR (c:=true) (aJ (r:=.d (.bl true)) (s:=[.v (IL ns),.o (IL ns),s,.e,.v (.lst (iD l))]) rfl rfl)) (oR (c:=true) (aJ (aZ (ap (ci (jy rfl rfl) (ng (n:=1000) (by rw[Ya];exact ll) rfl) cl) rfl) rfl (xj _)) rfl))
theorem vK (L:Ln ns) (gn:ns.length<=42):hJ [IL ns]=some (.bl true,false):=by
 have two:=L.two;have e1:=vJ L.two gn (fun k hk=>yJ L hk) (uE L);have e2:=G3 L gn;have e3:=G4 L gn;have e4:=C7 L gn;have inv:=GR (uE L);have e5:=yV two gn;rw[yU]at e5;have nw1:Nw ns (bR 40 ((rl (ns.length-1) (qf ns) (qf (bk ns)) (ns.length-1)).map LL)):=Ee (by lia) (by lia)
 have nw2:Nw (iq ns.length) ((List.range (ns.length-1)).map fun k=>LL [k]):=by
  have h:=Ee (N:=ns.length-1) (q:=qf (iq ns.length)) (q':=id) (hl:=iq ns.length) (by rw[cH];lia) (by lia)
  have e:=yU ns.length;unfold RD at e;injection e with e;rwa [e]at h
 generalize hN:ns.length-1=N at *;generalize qf ns=q at *;generalize qf (bk ns)=q' at *;have lr:VF22.fLR1 (ad (b8 cC (ad (aP 0) aq)) aq) [.v (IL ns),.o (IL ns),.v (RD N q q'),.e,.e]=some (.f (IL (iq ns.length)),[.v (IL ns),.o (IL ns),.v (RD N q q'),.e,.e]):=by
  have r:=x9 (fa:=ad (b8 cC (ad (aP 0) aq)) aq) (st:=[.v (IL ns),.o (IL ns),.v (RD N q q'),.e,.e]) (j:=(ns.length:Int)) (rs:=[.d (.int (ns.length:Int))]) (s:=[.v (IL ns),.o (IL ns),.v (RD N q q'),.e,.e]) (ap (aZ rfl rfl (hV ns)) rfl) rfl ⟨by lia,by lia,by lia,by lia,by lia⟩
  rw[show((ns.length:Int) - 0).toNat=ns.length by lia,yE]at r
  exact r
 have cl:=bK (fg:=gN 0) (fc:=fO) (fe:=iL) (k:=1) (fun t:Nat=>D.int (0+(t:Int))) (fun t=>LL [t]) [.e] (List.range N) fun t _=>by
  rw[Int.zero_add];exact⟨[.v (.int (t:Int))],[.v (.int (t:Int))],.f (LL [t]),[.v (.int (t:Int))],[.v (.int (t:Int))],rfl,rfl,gh rfl rfl (by show 1<=_;decide),rfl,rfl⟩
 refine bt (o:=.rt (.d (.bl true)) [.v (IL ns),.o (IL (iq ns.length)),.v (RD N q q'),.e,.e]) rfl ?_ rfl;refine aw (s:=[.v (IL ns),.o (IL ns),.e,.e,.e]) rfl ?_;refine aw (s:=[.v (IL ns),.o (IL ns),.o (RD N q q'),.e,.e]) (fw (bQ rfl rfl e1) rfl) ?_;refine aw (s:=[.v (IL ns),.o (IL ns),.v (RD N q q'),.e,.e]) ?_ ?_
 ·refine Da (hl:=ns) rfl rfl e2 nw1 ⟨rfl,rfl,rfl,by decide,fun k s h=>?_⟩ ?_ fun l hl=>yW (r:=[]) hl
  ·match k,h with
   | 0,h=>cases h;exact .inr (.inl ⟨_,rfl⟩)
   | 1,h=>exact .inr (.inr rfl)
   | 2,h=>cases h;exact .inr (.inl ⟨_,rfl⟩)
   | 3,h=>cases h;exact .inl rfl
   | 4,h=>cases h;exact .inl rfl
   | k+5,h=>cases h
  ·exact zR (oR (c:=true) (aJ (r:=.d (.bl true)) (s:=[.v (IL ns),.o (IL ns),.v (RD N q q'),.v (RD N q q'),.e]) rfl rfl)) (zR (aJ (ar rfl rfl rfl rfl Ef) rfl) (aJ (ar rfl rfl rfl rfl (I8 _)) rfl))
 refine aw (s:=[.v (IL ns),.o (IL ns),.v (RD N q q'),.e,.e]) (jb (zR (aJ (ar (q5 (hl:=ns) rfl e2 nw1) rfl rfl rfl Ef) rfl) (aJ (ar (aZ (ap (bQ (ap (bQ rfl rfl e4) rfl) rfl e3) rfl) rfl rfl) (aZ rfl rfl rfl) rfl rfl C9) (by
  show some (!decide (((bR 40 ((rl N q' q N).map LL)).length:Int)=((bR 40 ((rl N q q' N).map LL)).length:Int)))=_
  rw[yS,yS,inv,Ag rfl];rfl))) rfl) ?_
 refine aw (s:=[.v (IL ns),.o (IL (iq ns.length)),.v (RD N q q'),.e,.e]) (GI lr rfl rfl rfl (z':=IL (iq ns.length)) (by
  show(if (ns.map D.int).length+((iq ns.length).map D.int).length<=1000000 then some (D.lst ((iq ns.length).map D.int)) else none)=_
  rw[Ae (by rw[Ya,Ya,cH];lia)])) ?_
 refine cn (ar (q5 (hl:=iq ns.length) rfl e5 nw2) (ci (ds:=(List.range N).map fun t:Nat=>D.int (0+(t:Int))) (s1:=[.v (IL ns),.o (IL (iq ns.length)),.v (RD N q q'),.e,.e]) ?_ (ng (n:=1000) (by rw[Ya,Wc];lia) rfl) cl) rfl rfl (yQ (n:=2) (fun d hd=>by
  obtain⟨k,_,rfl⟩:=Wa.mp hd;exact .lst fun d hd=>by
   rw[Ye.mp hd]
   exact .int _ _) (by decide)))
 have r:=jx (fa:=ad (aH fR (b8 cC (ad (aP 0) aq)) (fC (.int 1))) aq) (st:=[.v (IL ns),.o (IL (iq ns.length)),.v (RD N q q'),.e,.e]) (j:=(N:Int)) (rs:=[.d (.int (N:Int))]) (s1:=[.v (IL ns),.o (IL (iq ns.length)),.v (RD N q q'),.e,.e]) (ap (ar (aZ rfl rfl (hV ns)) rfl rfl rfl (z:=(.int (N:Int),false)) (by show some (D.int ((ns.length:Int) - 1),false)=_;rw[show(ns.length:Int) - 1=N by lia])) rfl) rfl ⟨by lia,by lia⟩
 exact r
end
end
end K40
namespace K40
open PySem L2 VF VF22
theorem Db (ns:List Int):IE [.fl (ns.map D.int)]=some (.bl true,false):=by
 obtain⟨sf,el,s1,s2,rfl,_⟩:=bE (fg:=gN 1) (B:=um) (fun t:Nat=>D.int (0+(t:Int))) (List.range 3) (fun _ st=>∃s1 s2,st=[.v (.fl (ns.map D.int)),s1,s2]/\s1.isIo=false/\s2.isIo=false)
  (by
   rintro gone t rest st ha ⟨s1,s2,rfl,i1,i2⟩;obtain⟨rfl,ht⟩:=fH ha;obtain⟨δ,e1,f1⟩:=CN ns (k:=0+(t:Int)) (by lia) (by lia)
   obtain⟨d,δ2,e2,d0,d1,f2⟩:=dL (n:=4) f1 (by decide) (by decide)
   obtain⟨x,ex,hx⟩:∃x,dE (.lst [.int 16,.int 16,.int 16,.int 40]) (.int d)=some (.int x,false)/\(x=16∨x=40):=by
    have:d=0∨d=1∨d=2∨d=3:=by lia
    rcases this with rfl|rfl|rfl|rfl
    ·exact⟨16,rfl,.inl rfl⟩
    ·exact⟨16,rfl,.inl rfl⟩
    ·exact⟨16,rfl,.inl rfl⟩
    ·exact⟨40,rfl,.inr rfl⟩
   obtain⟨y,ey,y0,y1⟩:∃y,dE (.lst [.int x,.int 9,.int 5]) (.int (0+(t:Int)))=some (.int y,false)/\5<=y/\y<=40:=by
    have:t=0∨t=1∨t=2:=by lia
    rcases this with rfl|rfl|rfl
    ·exact⟨x,rfl,by lia,by lia⟩
    ·exact⟨9,rfl,by lia,by lia⟩
    ·exact⟨5,rfl,by lia,by lia⟩
   obtain⟨ms,δ3,e3,N,l1,f3⟩:=sB f2 y0 y1;have er:=vK N l1;refine⟨[.v (.fl (ns.map D.int)),.v (.int (0+(t:Int))),s2],[.v (.fl (ns.map D.int)),.v (.int (0+(t:Int))),.o δ3],n5 (t:=s1) rfl i1,?_,_,_,rfl,rfl,rfl⟩;refine aw (s:=[.v (.fl (ns.map D.int)),.v (.int (0+(t:Int))),.o δ]) (fw (bQ rfl rfl e1) (fPut_ev (t:=s2) rfl i2)) ?_
   exact jb (oR (c:=true) (aJ (fz (ap (fA rfl rfl (ap (ar (gh (ap (ar (gh rfl rfl (by simp)) (fA rfl rfl rfl rfl rfl rfl e2) rfl rfl ex) rfl) rfl (by simp)) rfl rfl rfl ey) rfl) rfl rfl rfl e3) rfl) rfl er rfl) rfl)) rfl)
  (List.range 3) [] [.v (.fl (ns.map D.int)),.e,.e] rfl ⟨.e,.e,rfl,rfl,rfl⟩
 exact bt (o:=.rt (.d (.bl true)) [.v (.fl (ns.map D.int)),s1,s2]) rfl (aw (cF (jx (j:=3) rfl rfl ⟨by decide,by decide⟩) el) rfl) rfl
end K40
namespace K40
open PySem L2 VF VF22
section
variable (P:Program) (w:World) (K:PySem.W.Frag) (mg:Str->Option Value) (base:Heap)
abbrev mQ:=Cal P w K mg base "joint_of" 1 ["ends"] (lB K je)
abbrev kP:=Cal P w K mg base "joints_at" 1 ["joints"] (lB K eF)
abbrev jT:=Cal P w K mg base "count_free" 1 ["joints"] (lB K bX)
abbrev jU:=Cal P w K mg base "part_round" 2 ["first","ours_at","theirs_at"] (lB K f8)
abbrev mR:=Cal P w K mg base "parts_of" 3 ["ours","theirs"] (lB K jf)
abbrev iQ:=Cal P w K mg base "number_left" 1 ["number"] (lB K eS)
abbrev hY:=Cal P w K mg base "number_right" 1 ["number"] (lB K d6)
abbrev hZ:=Cal P w K mg base "point_joints" 2 ["numbers"] (lB K bU)
abbrev iR:=Cal P w K mg base "point_rings" 4 ["numbers"] (lB K bo)
abbrev mS:=Cal P w K mg base "_law_deal" 1 ["_law_script","_law_at"] (lB K jg)
abbrev gm:=Cal P w K mg base "_law_draw" 1 ["_law_deal_here","_law_many"] (qd K bn)
abbrev iS:=Cal P w K mg base "_law_farther" 1 ["_law_number","_law_by"] (lB K cb)
abbrev jV:=Cal P w K mg base "_law_put_in" 2 ["_law_numbers_here","_law_at","_law_block_here"] (lB K dI)
abbrev kQ:=Cal P w K mg base "_law_block" 2 ["_law_deal_here","_law_most"] (qd K de)
abbrev iT:=Cal P w K mg base "_law_numbers" 3 ["_law_deal_here","_law_most"] (qd K eV)
abbrev kR:=Cal P w K mg base "_law_rings" 1 ["_law_numbers_here"] (lB K g9)
abbrev mT:=Cal P w K mg base "_law_back" 1 ["_law_numbers_here"] (lB K jh)
abbrev kS:=Cal P w K mg base "_law_right" 5 ["_law_numbers_here"] (lB K hJ)
end
section
variable {P:Program} {w:World} {K:PySem.W.Frag} {mg:Str->Option Value} {base:Heap}
theorem q8 (M:Md P w K mg):mv P w K mg base "joint_of" mE ["ends"] 0 my:=fun hr=>⟨_,(au (bq (bv (gK (K:=K) rfl rfl) rfl M.n_tuple gF (ao (aA (cQ (K:=K) rfl hr) rfl M.n_sorted boot_sorted (ao (pv 0) ae)) ae)))),
  (bz (aO kj (aa (aO fB (aa (ac 0) af)) af)))⟩
theorem pG (M:Md P w K mg):mv P w K mg base "joints_at" kz ["joints","at","joint","end"] 0 kK:=fun hr=>⟨_,(ag (aS 1 sc_sjointsat.nd gB)
   (ag (cj Aj rfl (cO (K:=K) rfl (pv 0)) (bB 2 sc_sjointsat.nd) (au (cj Aj rfl (cO (K:=K) rfl (pv 2)) (bB 3 sc_sjointsat.nd) (au (df (pv 2) (eK (pv 1) (pv 3) (cS (dB hr))))))))
   (au (bq (pv 1))))),
  (ax (aE gM)
   (ax (cA (cP (ac 0)) (aQ 2) (cA (cP (ac 2)) (aQ 3) (eO cR (ac 2) (ac 3))))
   (bz (ac 1))))⟩
theorem nh (M:Md P w K mg):mv P w K mg base "count_free" gc ["joints"] 0 jG:=fun hr=>⟨_,(au (bq (aA (bi (K:=K) rfl) rfl M.n_len PySem.boot_len (ao (cy (dO (osc:=(ay gc)) (ON:=["joints"]) (N:=["joint"]) (k:=1) (caps:=[]) (by decide +kernel) rfl rfl) rfl (ub (pv 0)) (fun _ _ _ _=>(bB 0 (by show(["joint"]:List Str).Nodup;decide +kernel))) (fun _ _ _ _=>tf (be (oQ (K:=K) rfl hr.units) (aA (bi (K:=K) rfl) rfl M.n_len PySem.boot_len (ao (pv 0) ae)) ah (br _))) (fun _ _ _ _=>(pv 0))) ae)))),
  (bz (aO bZ (aa (cB (uc (ac 0)) (aQ 0) (by decide) (bb (ak ro_eqA (aO bZ (aa (ac 0) af)) (ai _))) (ac 0)) af)))⟩
theorem ni (M:Md P w K mg) (c2:jT P w K mg base):mv P w K mg base "part_round" d8 ["first","ours_at","theirs_at","ours","theirs","todo","joint","their","our","kind"] 1 jH:=fun hr=>⟨_,(ag (aS 3 sc_spartround.nd (xV (dB hr) (pv 0) jn))
   (ag (aS 4 sc_spartround.nd gB)
   (ag (aS 5 sc_spartround.nd (cw (ao (pv 0) ae)))
   (ag (pR Aj (CB (K:=K) rfl (pv 5)) (ag (aS 6 sc_spartround.nd (rL PySem.F.plainAttrs_list PySem.F.slot_list_pop PySem.F.type_list_pop Fb (pv 5)))
   (au (cj Aj rfl (cO (K:=K) rfl (cy (dO (osc:=(ay d8)) (ON:=["first","ours_at","theirs_at","ours","theirs","todo","joint","their","our","kind"]) (N:=["end","theirs_at"]) (k:=1) (caps:=[2]) (by decide +kernel) rfl rfl) rfl (cO (K:=K) rfl (pv 6)) (fun _ _ _ _=>(bB 0 (by show(["end","theirs_at"]:List Str).Nodup;decide +kernel))) (fun _ _ _ _=>dF) (fun _ _ _ _=>(gO (dB hr) (pv 1) (pv 0) (fun _ _=>rfl))))) (bB 7 sc_spartround.nd) (ag (df jn (eK (pv 4) (pv 7) (cS (dB hr))))
   (au (cj Aj rfl (cO (K:=K) rfl (cy (dO (osc:=(ay d8)) (ON:=["first","ours_at","theirs_at","ours","theirs","todo","joint","their","our","kind"]) (N:=["end","ours_at"]) (k:=1) (caps:=[1]) (by decide +kernel) rfl rfl) rfl (cO (K:=K) rfl (pv 7)) (fun _ _ _ _=>(bB 0 (by show(["end","ours_at"]:List Str).Nodup;decide +kernel))) (fun _ _ _ _=>dF) (fun _ _ _ _=>(gO (dB hr) (pv 1) (pv 0) (fun _ _=>rfl))))) (bB 8 sc_spartround.nd) (au (cZ (be (nY (dB hr)) (pv 8) (pv 3) (by with_unfolding_all rfl)) (ag (df jn (eK (pv 3) (pv 8) (cS (dB hr))))
   (au (cc (gC PySem.F.plainAttrs_list PySem.F.slot_list_append PySem.F.type_list_append cL (pv 5) (ao (pv 8) ae))))) bV)))))))))
   (ag (aS 9 sc_spartround.nd (CD (K:=K) rfl rfl M.c_KINDS (Xm (dB hr)) (fL (ao (aR c2 hr rfl (ao (pv 3) ae)) (ao (aR c2 hr rfl (ao (pv 4) ae)) ae))) (fun _ _=>rfl)))
   (au (bq (fL (ao (pv 9) (ao (bv (gK (K:=K) rfl rfl) rfl M.n_tuple gF (ao (aA (mt (K:=K) rfl rfl hr) rfl M.n_sorted boot_sorted (ao (pv 3) ae)) ae)) (ao (bv (gK (K:=K) rfl rfl) rfl M.n_tuple gF (ao (aA (mt (K:=K) rfl rfl hr) rfl M.n_sorted boot_sorted (ao (pv 4) ae)) ae)) ae))))))))))),
  (ax (aE (vz 0 fun _ _=>.bl _))
   (ax (aE gM)
   (ax (aE (bY (aa (ac 0) af)))
   (ax (qi 1000 (xS (ac 5)) (ax (aE (HJ FU))
   (cA (cP (cB (cP (ac 6)) (aQ 0) (by decide) fP (ak jE (ac 1) (ac 0)))) (aQ 7) (ax (eO cR (nH _) (ac 7))
   (cA (cP (cB (cP (ac 7)) (aQ 0) (by decide) fP (ak jE (ac 1) (ac 0)))) (aQ 8) (dR (bb (ak (xJ true) (ac 8) (ac 3))) (ax (eO cR (nH _) (ac 8))
   (cV (lZ cN (aa (ac 8) af)))) cz))))))
   (ax (aE (IC (fQ (aa (fm (aa (ac 3) af)) (aa (fm (aa (ac 4) af)) af)))))
   (bz (fQ (aa (ac 9) (aa (aO kj (aa (aO qG (aa (ac 3) af)) af)) (aa (aO kj (aa (aO qG (aa (ac 4) af)) af)) af))))))))))⟩
theorem q9 (M:Md P w K mg) (c1:kP P w K mg base) (c3:jU P w K mg base):mv P w K mg base "parts_of" mF ["ours","theirs","ours_at","theirs_at","parts","seen","joint","part","our"] 2 mz:=fun hr=>⟨_,(ag (aS 2 sc_spartsof.nd (aR c1 hr rfl (ao (pv 0) ae)))
   (ag (aS 3 sc_spartsof.nd (aR c1 hr rfl (ao (pv 1) ae)))
   (ag (aS 4 sc_spartsof.nd (cw ae))
   (ag (aS 5 sc_spartsof.nd gB)
   (ag (cj Aj rfl (cO (K:=K) rfl (pv 0)) (bB 6 sc_spartsof.nd) (au (cZ (be (nY (dB hr)) (pv 6) (pv 5) (by with_unfolding_all rfl)) (ag (aS 7 sc_spartsof.nd (aR c3 hr rfl (ao (pv 6) (ao (pv 2) (ao (pv 3) ae)))))
   (ag (cc (gC PySem.F.plainAttrs_list PySem.F.slot_list_append PySem.F.type_list_append cL (pv 4) (ao (pv 7) ae)))
   (au (cj Aj rfl (cO (K:=K) rfl (bO (aW (K:=K) rfl) (pv 7) ah (fun _ _=>rfl))) (bB 8 sc_spartsof.nd) (au (df jn (eK (pv 5) (pv 8) (cS (dB hr))))))))) bV)))
   (au (bq (aA (cQ (K:=K) rfl hr) rfl M.n_sorted boot_sorted (ao (pv 4) ae))))))))),
  (ax (aE (bP (aa (ac 0) af)))
   (ax (aE (bP (aa (ac 1) af)))
   (ax (aE (bY af))
   (ax (aE gM)
   (ax (cA (cP (ac 0)) (aQ 6) (dR (bb (ak (xJ true) (ac 6) (ac 5))) (ax (aE (bP (aa (ac 6) (aa (ac 2) (aa (ac 3) af)))))
   (ax (cV (lZ cN (aa (ac 7) af)))
   (cA (cP (ak bG (ac 7) (ai _))) (aQ 8) (eO cR (nH _) (ac 8))))) cz))
   (bz (aO fB (aa (ac 4) af))))))))⟩
theorem mU (M:Md P w K mg):mv P w K mg base "number_left" hU ["number"] 0 iF:=fun hr=>⟨_,(au (bq (fL (ao (aA db rfl M.n_abs At (ao (pv 0) ae)) (ao (pQ (be nu (pv 0) ah (br _)) ah ah) ae))))),
  (bz (fQ (aa (aO gL (aa (ac 0) af)) (aa (Dt (bb (ak nK (ac 0) (ai _))) (ai _) (ai _)) af))))⟩
theorem lq (M:Md P w K mg):mv P w K mg base "number_right" gd ["number"] 0 gW:=fun hr=>⟨_,(au (bq (fL (ao (aA db rfl M.n_abs At (ao (pv 0) ae)) (ao (pQ (be nu (pv 0) ah (br _)) ah ah) ae))))),
  (bz (fQ (aa (aO gL (aa (ac 0) af)) (aa (Dt (bb (ak nK (ac 0) (ai _))) (ai _) (ai _)) af))))⟩
theorem lw (M:Md P w K mg) (c0:mQ P w K mg base) (c5:iQ P w K mg base) (c6:hY P w K mg base):mv P w K mg base "point_joints" dJ ["numbers"] 1 gX:=fun hr=>⟨_,(au (bq (cy (dO (osc:=(ay dJ)) (ON:=["numbers"]) (N:=["one","other"]) (k:=2) (caps:=[]) (by decide +kernel) rfl rfl) rfl (Gh (K:=K) rfl rfl rfl rfl M.n_zip (pv 0) (wg (FZ (K:=K) rfl) (pv 0) (zi ah) zh)) (fun _ _ _ _=>(oS (K:=K) (n:=2) rfl rfl (eZ (bB 0 (by show(["one","other"]:List Str).Nodup;decide +kernel)) (eZ (bB 1 (by show(["one","other"]:List Str).Nodup;decide +kernel)) om)))) (fun _ _ _ _=>dF) (fun _ _ _ _=>(aR c0 hr rfl (ao (fL (ao (aR c6 hr rfl (ao (pv 0) ae)) (ao (aR c5 hr rfl (ao (pv 1) ae)) ae))) ae)))))),
  (bz (cB (Gg (aa (ac 0) (aa (wS zO (ac 0) (wR (ai _)) FM) af))) (rT (fq (aQ 0) (fq (aQ 1) oG))) (by decide) fP (bP (aa (fQ (aa (bP (aa (ac 0) af)) (aa (bP (aa (ac 1) af)) af))) af))))⟩
theorem mV (M:Md P w K mg) (c4:mR P w K mg base) (c7:hZ P w K mg base):mv P w K mg base "point_rings" eG ["numbers","ours","theirs","point_of","point","joint"] 3 iG:=fun hr=>⟨_,(ag (aS 1 sc_spointrings.nd (aR c7 hr rfl (ao (pv 0) ae)))
   (ag (aS 2 sc_spointrings.nd (aR c7 hr rfl (ao (bv (jd rfl) rfl M.n_list ck (ao (qI rfl M.n_range (ao (aA (bi (K:=K) rfl) rfl M.n_len PySem.boot_len (ao (pv 0) ae)) ae)) ae)) ae)))
   (ag (aS 3 sc_spointrings.nd gB)
   (ag (cj Aj rfl (ud (K:=K) rfl rfl M.n_enumerate (pv 1)) (oS (K:=K) (n:=2) rfl rfl (eZ (bB 4 sc_spointrings.nd) (eZ (bB 5 sc_spointrings.nd) om))) (au (df (pv 4) (eK (pv 3) (pv 5) (cS (dB hr))))))
   (au (bq (aA (cQ (K:=K) rfl hr) rfl M.n_sorted boot_sorted (ao (cy (dO (osc:=(ay eG)) (ON:=["numbers","ours","theirs","point_of","point","joint"]) (N:=["part","point_of"]) (k:=1) (caps:=[3]) (by decide +kernel) rfl rfl) rfl (cO (K:=K) rfl (aR c4 hr rfl (ao (pv 1) (ao (pv 2) ae)))) (fun _ _ _ _=>(bB 0 (by show(["part","point_of"]:List Str).Nodup;decide +kernel))) (fun _ _ _ _=>dF) (fun _ _ _ _=>(aA (cQ (K:=K) rfl hr) rfl M.n_sorted boot_sorted (ao (cy (xT (ON:=["part","point_of"]) (N:=["joint","point_of"]) (k:=1) (caps:=[1]) (by exact rfl) (by exact rfl) (by decide +kernel)) rfl (cO (K:=K) rfl (bO (aW (K:=K) rfl) (pv 0) ah (fun _ _=>rfl))) (fun _ _ _ _=>(bB 0 (by show(["joint","point_of"]:List Str).Nodup;decide +kernel))) (fun _ _ _ _=>dF) (fun _ _ _ _=>(gO (dB hr) (pv 1) (pv 0) (fun _ _=>(by exact rfl))))) ae)))) ae)))))))),
  (ax (aE (bP (aa (ac 0) af)))
   (ax (aE (bP (aa (xP (aa (aO bZ (aa (ac 0) af)) af)) af)))
   (ax (aE gM)
   (ax (cA (ue (aa (ac 1) af)) (rT (fq (aQ 4) (fq (aQ 5) oG))) (eO cR (ac 4) (ac 5)))
   (bz (aO fB (aa (cB (cP (bP (aa (ac 1) (aa (ac 2) af)))) (aQ 0) (by decide) fP (aO fB (aa (cB (cP (ak bG (ac 0) (ai _))) (aQ 0) (by decide) fP (ak jE (ac 1) (ac 0))) af))) af)))))))⟩
theorem rb (M:Md P w K mg):mv P w K mg base "_law_deal" sn ["_law_script","_law_at","_law_cell","_law_own"] 0 mB:=fun hr=>⟨_,(ag (aS 2 sc_sLdeal.nd (aI (bC (K:=K) rfl) (aI ce ah (pv 1)) ah))
   (ag (cZ (be oN (pv 1) (aA (bi (K:=K) rfl) rfl M.n_len PySem.boot_len (ao (pv 0) ae)) (br _)) (au (aS 2 sc_sLdeal.nd (bO (aW (K:=K) rfl) (pv 0) (pv 1) (fun _ _=>rfl)))) (au (cZ (be v5 (aA (bi (K:=K) rfl) rfl M.n_len PySem.boot_len (ao (pv 0) ae)) ah (br _)) (au (aS 2 sc_sLdeal.nd (aI (bC (K:=K) rfl) (aI ce (aI fK (bO (aW (K:=K) rfl) (pv 0) (aI fK (pv 1) (aA (bi (K:=K) rfl) rfl M.n_len PySem.boot_len (ao (pv 0) ae))) (fun _ _=>rfl)) ah) ah) (aI ce ah (pv 1))))) bV)))
   (ag (aS 3 sc_sLdeal.nd ah)
   (ag (cZ (be nu (pv 2) (aI EF ah ah) (br _)) (au (aS 3 sc_sLdeal.nd (pv 2))) bV)
   (au (bq (cw (ao (pv 3) (ao (aI (bC (K:=K) rfl) (aI fK (aI (bC (K:=K) rfl) (aI ce (aI fK (pv 2) ah) ah) (aI ce ah (pv 1))) ah) ah) ae))))))))),
  (ax (aE (ak bD (ak cg (ai _) (ac 1)) (ai _)))
   (ax (dR (bb (ak oO (ac 1) (aO bZ (aa (ac 0) af)))) (aE (ak bG (ac 0) (ac 1))) (dR (bb (ak wN (aO bZ (aa (ac 0) af)) (ai _))) (aE (ak bD (ak cg (ak fT (ak bG (ac 0) (ak fT (ac 1) (aO bZ (aa (ac 0) af)))) (ai _)) (ai _)) (ak cg (ai _) (ac 1)))) cz))
   (ax (aE (ai _))
   (ax (dR (bb (ak nK (ac 2) (ak Fx (ai _) (ai _)))) (aE (ac 2)) cz)
   (bz (bY (aa (ac 3) (aa (ak bD (ak fT (ak bD (ak cg (ak fT (ac 2) (ai _)) (ai _)) (ak cg (ai _) (ac 1))) (ai _)) (ai _)) af))))))))⟩
theorem rd (M:Md P w K mg):mv P w K mg base "_law_draw" sr ["_law_deal_here","_law_many","_law_digit","_law_one"] 0 mC:=fun hr=>⟨_,(ag (cZ (be v5 (bO (aW (K:=K) rfl) (pv 0) ah (fun _ _=>rfl)) ah (br _)) (ag (aS 2 sc_sLdraw.nd (aI fK (bO (aW (K:=K) rfl) (pv 0) ah (fun _ _=>rfl)) (pv 1)))
   (ag (df (aI sM (bO (aW (K:=K) rfl) (pv 0) ah (fun _ _=>rfl)) (pv 1)) (eK (pv 0) ah set_list))
   (au (bq (pv 2))))) bV)
   (ag (aS 3 sc_sLdraw.nd (aI fK (aI ce (bO (aW (K:=K) rfl) (pv 0) ah (fun _ _=>rfl)) ah) ah))
   (ag (df (aI (bC (K:=K) rfl) (aI fK (aI (bC (K:=K) rfl) (aI ce (pv 3) ah) ah) ah) ah) (eK (pv 0) ah set_list))
   (au (bq (aI fK (aI (bC (K:=K) rfl) (aI ce (aI fK (aI ce (pv 3) (pv 3)) ah) ah) (aI sM (bO (aW (K:=K) rfl) (pv 0) ah (fun _ _=>rfl)) ah)) (pv 1))))))),
  (ax (dR (bb (ak wN (ak bG (ac 0) (ai _)) (ai _))) (ax (aE (ak fT (ak bG (ac 0) (ai _)) (ac 1)))
   (ax (eO ki (ak wM (ak bG (ac 0) (ai _)) (ac 1)) (ai _))
   (bz (ac 2)))) cz)
   (ax (aE (ak fT (ak cg (ak bG (ac 0) (ai _)) (ai _)) (ai _)))
   (ax (eO ki (ak bD (ak fT (ak bD (ak cg (ac 3) (ai _)) (ai _)) (ai _)) (ai _)) (ai _))
   (bz (ak fT (ak bD (ak cg (ak fT (ak cg (ac 3) (ac 3)) (ai _)) (ai _)) (ak wM (ak bG (ac 0) (ai _)) (ai _))) (ac 1))))))⟩
theorem mW (M:Md P w K mg):mv P w K mg base "_law_farther" kA ["_law_number","_law_by"] 0 iH:=fun hr=>⟨_,(ag (cZ (be oN (pv 0) ah (br _)) (au (bq (aI di (pv 0) (pv 1)))) bV)
   (au (bq (aI (bC (K:=K) rfl) (pv 0) (pv 1))))),
  (ax (dR (bb (ak oO (ac 0) (ai _))) (bz (ak dm (ac 0) (ac 1))) cz)
   (bz (ak bD (ac 0) (ac 1))))⟩
theorem nk (M:Md P w K mg) (c11:iS P w K mg base):mv P w K mg base "_law_put_in" jK ["_law_numbers_here","_law_at","_law_block_here","_law_here","_law_found","_law_number"] 1 jI:=fun hr=>⟨_,(ag (aS 3 sc_sLputin.nd (bO (aW (K:=K) rfl) (pv 0) (pv 1) (fun _ _=>rfl)))
   (ag (aS 4 sc_sLputin.nd (cw ae))
   (ag (cj Aj rfl (cO (K:=K) rfl (pv 0)) (bB 5 sc_sLputin.nd) (au (cZ (be v5 (aA db rfl M.n_abs At (ao (pv 5) ae)) (aA db rfl M.n_abs At (ao (pv 3) ae)) (br _)) (au (cc (gC PySem.F.plainAttrs_list PySem.F.slot_list_append PySem.F.type_list_append cL (pv 4) (ao (aR c11 hr rfl (ao (pv 5) (ao (bO (aW (K:=K) rfl) (pv 2) (Hr EG ah) (fun _ _=>rfl)) ae))) ae)))) (au (cZ (be (wV (K:=K) rfl hr.units) (pv 5) (pv 3) (br _)) (au (cc (gC PySem.F.plainAttrs_list PySem.F.slot_list_append PySem.F.type_list_append cL (pv 4) (ao (pv 5) ae)))) (au (cZ (be nu (pv 3) ah (br _)) (au (cc (gC PySem.F.plainAttrs_list PySem.F.slot_list_extend PySem.F.type_list_extend (ja (K:=K) rfl rfl) (pv 4) (ao (cy (dO (osc:=(ay jK)) (ON:=["_law_numbers_here","_law_at","_law_block_here","_law_here","_law_found","_law_number"]) (N:=["_law_part","_law_here"]) (k:=1) (caps:=[3]) (by decide +kernel) rfl rfl) rfl (cO (K:=K) rfl (pv 2)) (fun _ _ _ _=>(bB 0 (by show(["_law_part","_law_here"]:List Str).Nodup;decide +kernel))) (fun _ _ _ _=>dF) (fun _ _ _ _=>(aR c11 hr rfl (ao (pv 0) (ao (pv 1) ae))))) ae)))) (au (cc (gC PySem.F.plainAttrs_list PySem.F.slot_list_extend PySem.F.type_list_extend (ja (K:=K) rfl rfl) (pv 4) (ao (cy (dO (osc:=(ay jK)) (ON:=["_law_numbers_here","_law_at","_law_block_here","_law_here","_law_found","_law_number"]) (N:=["_law_part","_law_here"]) (k:=1) (caps:=[3]) (by decide +kernel) rfl rfl) rfl (Cv (K:=K) rfl rfl rfl M.n_reversed (pv 2)) (fun _ _ _ _=>(bB 0 (by show(["_law_part","_law_here"]:List Str).Nodup;decide +kernel))) (fun _ _ _ _=>dF) (fun _ _ _ _=>(aI di ah (aR c11 hr rfl (ao (pv 0) (ao (aI di ah (pv 1)) ae)))))) ae)))))))))))
   (au (bq (pv 4)))))),
  (ax (aE (ak bG (ac 0) (ac 1)))
   (ax (aE (bY af))
   (ax (cA (cP (ac 0)) (aQ 5) (dR (bb (ak wN (aO gL (aa (ac 5) af)) (aO gL (aa (ac 3) af)))) (cV (lZ cN (aa (fm (aa (ac 5) (aa (ak bG (ac 2) (HH Fy (ai _))) af))) af))) (dR (bb (ak ro_neA (ac 5) (ac 3))) (cV (lZ cN (aa (ac 5) af))) (dR (bb (ak nK (ac 3) (ai _))) (cV (lZ kl (aa (cB (cP (ac 2)) (aQ 0) (by decide) fP (fm (aa (ac 0) (aa (ac 1) af)))) af))) (cV (lZ kl (aa (cB (Cw (ac 2)) (aQ 0) (by decide) fP (ak dm (ai _) (fm (aa (ac 0) (aa (ak dm (ai _) (ac 1)) af))))) af)))))))
   (bz (ac 4)))))⟩
theorem pH (M:Md P w K mg) (c10:gm P w K mg base):mv P w K mg base "_law_block" pi ["_law_deal_here","_law_most","_law_many","_law_left","_law_sides","_law_found","_law_k"] 1 kL:=fun hr=>⟨_,(ag (aS 2 sc_sLblock.nd (aI (bC (K:=K) rfl) ah (aR c10 hr rfl (ao (pv 0) (ao (pv 1) ae)))))
   (ag (aS 3 sc_sLblock.nd (bv (jd rfl) rfl M.n_list ck (ao (xO rfl M.n_range (ao ah (ao (aI (bC (K:=K) rfl) (pv 2) ah) ae))) ae)))
   (ag (aS 4 sc_sLblock.nd (cw (ao ah (ao (aI di ah (aI ce ah (bv fk rfl M.n_int dN (ao (ia (oQ (K:=K) rfl hr.units) (aR c10 hr rfl (ao (pv 0) (ao ah ae))) ah (br _)) ae)))) ae))))
   (ag (aS 5 sc_sLblock.nd (cw (ao ah ae)))
   (ag (cj Aj rfl (dM rfl M.n_range (ao (pv 2) ae)) (bB 6 sc_sLblock.nd) (au (cc (gC PySem.F.plainAttrs_list PySem.F.slot_list_append PySem.F.type_list_append cL (pv 5) (ao (aI ce (gC PySem.F.plainAttrs_list PySem.F.slot_list_pop PySem.F.type_list_pop wr (pv 3) (ao (aR c10 hr rfl (ao (pv 0) (ao (aA (bi (K:=K) rfl) rfl M.n_len PySem.boot_len (ao (pv 3) ae)) ae))) ae)) (bO (aW (K:=K) rfl) (pv 4) (aR c10 hr rfl (ao (pv 0) (ao ah ae))) (fun _ _=>rfl))) ae)))))
   (au (bq (aI (bC (K:=K) rfl) (pv 5) (cw (ao (aI (bC (K:=K) rfl) (pv 2) ah) ae)))))))))),
  (ax (aE (ak bD (ai _) (gp (aa (ac 1) af))))
   (ax (aE (Gv (aa (ai _) (aa (ak bD (ac 2) (ai _)) af))))
   (ax (aE (bY (aa (ai _) (aa (ak dm (ai _) (ak cg (ai _) (aO jz (aa (ak ro_eqA (gp (aa (ai _) af)) (ai _)) af)))) af))))
   (ax (aE (bY (aa (ai _) af)))
   (ax (cA (ie (aa (ac 2) af)) (aQ 6) (cV (lZ cN (aa (ak cg (lZ wU (aa (gp (aa (aO bZ (aa (ac 3) af)) af)) af)) (ak bG (ac 4) (gp (aa (ai _) af)))) af))))
   (bz (ak bD (ac 5) (bY (aa (ak bD (ac 2) (ai _)) af)))))))))⟩
theorem mX (M:Md P w K mg) (c10:gm P w K mg base) (c12:jV P w K mg base) (c13:kQ P w K mg base):mv P w K mg base "_law_numbers" kB ["_law_deal_here","_law_most","_law_numbers_here","_law_k","_law_room","_law_block_here","_law_at"] 2 iI:=fun hr=>⟨_,(ag (aS 2 sc_sLnumbers.nd (cw (ao ah (ao ah ae))))
   (ag (cZ (be (oQ (K:=K) rfl hr.units) (aR c10 hr rfl (ao (pv 0) (ao ah ae))) ah (br _)) (au (aS 2 sc_sLnumbers.nd (aR c13 hr rfl (ao (pv 0) (ao (aA (uP rfl) rfl M.n_min PyProof.Rows.boot_min (ao (pv 1) (ao ah ae))) ae))))) bV)
   (ag (cj Aj rfl (dM rfl M.n_range (ao (aI (bC (K:=K) rfl) ah (aR c10 hr rfl (ao (pv 0) (ao ah ae)))) ae)) (bB 3 sc_sLnumbers.nd) (ag (aS 4 sc_sLnumbers.nd (aI di (aI (bC (K:=K) rfl) (pv 1) ah) (aA (bi (K:=K) rfl) rfl M.n_len PySem.boot_len (ao (pv 2) ae))))
   (ag (aS 5 sc_sLnumbers.nd (aR c13 hr rfl (ao (pv 0) (ao (sk (sh (aW (K:=K) rfl) (o9 (iB ah (iB ah (iB (pv 1) o8 rfl) rfl) rfl)) (aR c10 hr rfl (ao (pv 0) (ao ah ae))) (fun _ _=>rfl))) ae))))
   (ag (aS 6 sc_sLnumbers.nd (aR c10 hr rfl (ao (pv 0) (ao (aA (bi (K:=K) rfl) rfl M.n_len PySem.boot_len (ao (pv 2) ae)) ae))))
   (au (cZ (be Hv (aI di (aA (bi (K:=K) rfl) rfl M.n_len PySem.boot_len (ao (pv 5) ae)) ah) (pv 4) (br _)) (au (aS 2 sc_sLnumbers.nd (aR c12 hr rfl (ao (pv 2) (ao (pv 6) (ao (pv 5) ae)))))) bV))))))
   (au (bq (pv 2)))))),
  (ax (aE (bY (aa (ai _) (aa (ai _) af))))
   (ax (dR (bb (ak ro_eqA (gp (aa (ai _) af)) (ai _))) (aE (gp (aa (aO zS (aa (ac 1) (aa (ai _) af))) af))) cz)
   (ax (cA (ie (aa (ak bD (ai _) (gp (aa (ai _) af))) af)) (aQ 3) (ax (aE (ak dm (ak bD (ac 1) (ai _)) (aO bZ (aa (ac 2) af))))
   (ax (aE (gp (aa (ak bG (bY (aa (ai _) (aa (ai _) (aa (ac 1) af)))) (gp (aa (ai _) af))) af)))
   (ax (aE (gp (aa (aO bZ (aa (ac 2) af)) af)))
   (dR (bb (ak HQ (ak dm (aO bZ (aa (ac 5) af)) (ai _)) (ac 4))) (aE (bP (aa (ac 2) (aa (ac 6) (aa (ac 5) af))))) cz)))))
   (bz (ac 2)))))⟩
theorem pI (M:Md P w K mg):mv P w K mg base "_law_rings" lI ["_law_numbers_here","_law_points","_law_k","_law_found","_law_met","_law_ring","_law_there","_law_point"] 0 kM:=fun hr=>⟨_,(ag (aS 1 sc_sLrings.nd gB)
   (ag (cj Aj rfl (dM rfl M.n_range (ao (aI di (aA (bi (K:=K) rfl) rfl M.n_len PySem.boot_len (ao (pv 0) ae)) ah) ae)) (bB 2 sc_sLrings.nd) (ag (df (pv 2) (eK (pv 1) (fL (ao (aA db rfl M.n_abs At (ao (bO (aW (K:=K) rfl) (pv 0) (pv 2) (fun _ _=>rfl)) ae)) (ao (bv fk rfl M.n_int dN (ao (ia nu (bO (aW (K:=K) rfl) (pv 0) (pv 2) (fun _ _=>rfl)) ah (br _)) ae)) ae))) (cS (dB hr))))
   (au (df (pv 2) (eK (pv 1) (fL (ao (aA db rfl M.n_abs At (ao (bO (aW (K:=K) rfl) (pv 0) (aI (bC (K:=K) rfl) (pv 2) ah) (fun _ _=>rfl)) ae)) (ao (bv fk rfl M.n_int dN (ao (ia oN (bO (aW (K:=K) rfl) (pv 0) (aI (bC (K:=K) rfl) (pv 2) ah) (fun _ _=>rfl)) ah (br _)) ae)) ae))) (cS (dB hr)))))))
   (ag (aS 3 sc_sLrings.nd (cw ae))
   (ag (aS 4 sc_sLrings.nd (cw ae))
   (ag (cj Aj rfl (dM rfl M.n_range (ao (aI di (aA (bi (K:=K) rfl) rfl M.n_len PySem.boot_len (ao (pv 0) ae)) ah) ae)) (bB 2 sc_sLrings.nd) (au (cZ (be (nR (K:=K) rfl hr.units) (pv 2) (pv 4) (by with_unfolding_all rfl)) (ag (aS 5 sc_sLrings.nd (cw ae))
   (ag (aS 6 sc_sLrings.nd (fL (ao (aA db rfl M.n_abs At (ao (bO (aW (K:=K) rfl) (pv 0) (pv 2) (fun _ _=>rfl)) ae)) (ao (bv fk rfl M.n_int dN (ao (ia nu (bO (aW (K:=K) rfl) (pv 0) (pv 2) (fun _ _=>rfl)) ah (br _)) ae)) ae))))
   (ag (aS 7 sc_sLrings.nd (pv 2))
   (ag (pR Aj (be (nR (K:=K) rfl hr.units) (pv 7) (pv 5) (by with_unfolding_all rfl)) (ag (cc (gC PySem.F.plainAttrs_list PySem.F.slot_list_append PySem.F.type_list_append cL (pv 5) (ao (pv 7) ae)))
   (ag (aS 6 sc_sLrings.nd (fL (ao (aI di (aI (bC (K:=K) rfl) (bO (aW (K:=K) rfl) (pv 6) ah (fun _ _=>rfl)) (aI ce ah (bO (aW (K:=K) rfl) (pv 6) ah (fun _ _=>rfl)))) ah) (ao (aI di ah (bO (aW (K:=K) rfl) (pv 6) ah (fun _ _=>rfl))) ae))))
   (ag (aS 7 sc_sLrings.nd (gO (dB hr) (pv 1) (pv 6) (fun _ _=>rfl)))
   (au (aS 6 sc_sLrings.nd (bO (aW (K:=K) rfl) (cy (dO (osc:=(ay lI)) (ON:=["_law_numbers_here","_law_points","_law_k","_law_found","_law_met","_law_ring","_law_there","_law_point"]) (N:=["_law_one","_law_points","_law_point","_law_there"]) (k:=1) (caps:=[1,7,6]) (by decide +kernel) rfl rfl) rfl (ub (pv 1)) (fun _ _ _ _=>(bB 0 (by show(["_law_one","_law_points","_law_point","_law_there"]:List Str).Nodup;decide +kernel))) (fun _ _ _ _=>tf (PW.pt (Eu (be (xp (K:=K) rfl hr.units) (gO (dB hr) (pv 1) (pv 0) (fun _ _=>rfl)) (pv 2) (br _)) (y8 (be (mf (K:=K) rfl hr.units) (pv 0) (pv 3) (br _)))))) (fun _ _ _ _=>(pv 0))) ah (fun _ _=>rfl))))))))
   (ag (cc (gC PySem.F.plainAttrs_list PySem.F.slot_list_extend PySem.F.type_list_extend (ja (K:=K) rfl rfl) (pv 4) (ao (pv 5) ae)))
   (au (cc (gC PySem.F.plainAttrs_list PySem.F.slot_list_append PySem.F.type_list_append cL (pv 3) (ao (aA (cQ (K:=K) rfl hr) rfl M.n_sorted boot_sorted (ao (pv 5) ae)) ae))))))))) bV)))
   (au (bq (aA (cQ (K:=K) rfl hr) rfl M.n_sorted boot_sorted (ao (pv 3) ae))))))))),
  (ax (aE gM)
   (ax (cA (ie (aa (ak dm (aO bZ (aa (ac 0) af)) (ai _)) af)) (aQ 2) (ax (eO cR (ac 2) (fQ (aa (aO gL (aa (ak bG (ac 0) (ac 2)) af)) (aa (aO jz (aa (ak nK (ak bG (ac 0) (ac 2)) (ai _)) af)) af))))
   (eO cR (ac 2) (fQ (aa (aO gL (aa (ak bG (ac 0) (ak bD (ac 2) (ai _))) af)) (aa (aO jz (aa (ak oO (ak bG (ac 0) (ak bD (ac 2) (ai _))) (ai _)) af)) af))))))
   (ax (aE (bY af))
   (ax (aE (bY af))
   (ax (cA (ie (aa (ak dm (aO bZ (aa (ac 0) af)) (ai _)) af)) (aQ 2) (dR (bb (ak nS (ac 2) (ac 4))) (ax (aE (bY af))
   (ax (aE (fQ (aa (aO gL (aa (ak bG (ac 0) (ac 2)) af)) (aa (aO jz (aa (ak nK (ak bG (ac 0) (ac 2)) (ai _)) af)) af))))
   (ax (aE (ac 2))
   (ax (qi 1000 (bb (ak nS (ac 7) (ac 5))) (ax (cV (lZ cN (aa (ac 7) af)))
   (ax (aE (fQ (aa (ak dm (ak bD (ak bG (ac 6) (ai _)) (ak cg (ai _) (ak bG (ac 6) (ai _)))) (ai _)) (aa (ak dm (ai _) (ak bG (ac 6) (ai _))) af))))
   (ax (aE (ak jE (ac 1) (ac 6)))
   (aE (ak bG (cB (uc (ac 1)) (aQ 0) (by decide) (zp (bb (ak xq (ak jE (ac 1) (ac 0)) (ac 2))) (bb (ak mi (ac 0) (ac 3)))) (ac 0)) (ai _)))))))
   (ax (cV (lZ kl (aa (ac 5) af)))
   (cV (lZ cN (aa (aO fB (aa (ac 5) af)) af)))))))) cz))
   (bz (aO fB (aa (ac 3) af))))))))⟩
theorem re (M:Md P w K mg):mv P w K mg base "_law_back" ss ["_law_numbers_here","_law_found","_law_k","_law_number"] 0 mD:=fun hr=>⟨_,(ag (aS 1 sc_sLback.nd (bv (md (K:=K) rfl rfl) rfl M.n_list ck (ao (pv 0) ae)))
   (ag (cj Aj rfl (ud (K:=K) rfl rfl M.n_enumerate (pv 0)) (oS (K:=K) (n:=2) rfl rfl (eZ (bB 2 sc_sLback.nd) (eZ (bB 3 sc_sLback.nd) om))) (au (df (bO (aW (K:=K) rfl) (cw (ao (pv 2) (ao (aI di ah (pv 2)) ae))) (bv fk rfl M.n_int dN (ao (ia oN (pv 3) ah (br _)) ae)) (fun _ _=>rfl)) (eK (pv 1) (aA db rfl M.n_abs At (ao (pv 3) ae)) set_list))))
   (au (bq (pv 1))))),
  (ax (aE (aO qq (aa (ac 0) af)))
   (ax (cA (ue (aa (ac 0) af)) (rT (fq (aQ 2) (fq (aQ 3) oG))) (eO ki (ak bG (bY (aa (ac 2) (aa (ak dm (ai _) (ac 2)) af))) (aO jz (aa (ak oO (ac 3) (ai _)) af))) (aO gL (aa (ac 3) af))))
   (bz (ac 1))))⟩
theorem pJ (M:Md P w K mg) (c8:iR P w K mg base) (c15:kR P w K mg base) (c16:mT P w K mg base):mv P w K mg base "_law_right" jL ["_law_numbers_here","_law_handed","_law_due","_law_found","_law_ring"] 4 kN:=fun hr=>⟨_,(ag (aS 1 sc_sLright.nd (bv (md (K:=K) rfl rfl) rfl M.n_list ck (ao (pv 0) ae)))
   (ag (aS 2 sc_sLright.nd (aR c15 hr rfl (ao (pv 0) ae)))
   (ag (aS 3 sc_sLright.nd (aR c8 hr rfl (ao (pv 1) ae))) (ag (cZ (PW.pt (sJ (ol (oj (aA (dH (K:=K) rfl) rfl M.n_isinstance boot_isinstance (ao (pv 3) (ao (tN rfl M.n_list ck) ae))))) (sJ (be (mf (K:=K) rfl hr.units) (pv 3) (pv 2) (br _)) (rz (be (mf (K:=K) rfl hr.units) (pv 1) (pv 0) (br _)))))) (au (bq jn)) bV) (ag (cj Aj rfl (xQ (K:=K) rfl (pv 3)) (bB 4 sc_sLright.nd) (ag (cZ (PW.pt (sJ (ol (oj (aA (dH (K:=K) rfl) rfl M.n_isinstance boot_isinstance (ao (pv 4) (ao (tN rfl M.n_list ck) ae))))) (rz (ol (oj (aA (ww rfl) rfl M.n_all boot_all (ao (cy (dO (osc:=(ay jL)) (ON:=["_law_numbers_here","_law_handed","_law_due","_law_found","_law_ring"]) (N:=["_law_k"]) (k:=1) (caps:=[]) (by decide +kernel) rfl rfl) rfl (cO (K:=K) rfl (pv 4)) (fun _ _ _ _=>(bB 0 (by show(["_law_k"]:List Str).Nodup;decide +kernel))) (fun _ _ _ _=>dF) (fun _ _ _ _=>(Ew (aA (dH (K:=K) rfl) rfl M.n_isinstance boot_isinstance (ao (pv 0) (ao (tN rfl M.n_int dN) ae))) (Ev (Ex (aA (dH (K:=K) rfl) rfl M.n_isinstance boot_isinstance (ao (pv 0) (ao (tN rfl M.n_bool rO) ae)))))))) ae))))))) (au (bq jn)) bV)
   (au (cc (rL PySem.F.plainAttrs_list PySem.F.slot_list_clear PySem.F.type_list_clear p8 (pv 4)))))) (ag (cc (rL PySem.F.plainAttrs_list PySem.F.slot_list_clear PySem.F.type_list_clear p8 (pv 3)))
   (ag (cZ (PW.pt (sJ (be (mf (K:=K) rfl hr.units) (aR c8 hr rfl (ao (pv 1) ae)) (pv 2) (br _)) (rz (be (mf (K:=K) rfl hr.units) (aA (bi (K:=K) rfl) rfl M.n_len PySem.boot_len (ao (aR c8 hr rfl (ao (aR c16 hr rfl (ao (pv 0) ae)) ae)) ae)) (aA (bi (K:=K) rfl) rfl M.n_len PySem.boot_len (ao (pv 2) ae)) (br _))))) (au (bq jn)) bV)
   (ag (df (bv (jd rfl) rfl M.n_list ck (ao (qI rfl M.n_range (ao (aA (bi (K:=K) rfl) rfl M.n_len PySem.boot_len (ao (pv 0) ae)) ae)) ae)) (Gx (pv 1)))
   (au (bq (ia (xp (K:=K) rfl hr.units) (aR c8 hr rfl (ao (pv 1) ae)) (cy (dO (osc:=(ay jL)) (ON:=["_law_numbers_here","_law_handed","_law_due","_law_found","_law_ring"]) (N:=["_law_k"]) (k:=1) (caps:=[]) (by decide +kernel) rfl rfl) rfl (dM rfl M.n_range (ao (aI di (aA (bi (K:=K) rfl) rfl M.n_len PySem.boot_len (ao (pv 0) ae)) ah) ae)) (fun _ _ _ _=>(bB 0 (by show(["_law_k"]:List Str).Nodup;decide +kernel))) (fun _ _ _ _=>dF) (fun _ _ _ _=>(cw (ao (pv 0) ae)))) (br _)))))))))))),
  (ax (aE (aO qq (aa (ac 0) af)))
   (ax (aE (bP (aa (ac 0) af)))
   (CF (m:=2) (oE (lA (tF (aO ig (aa (ac 3) (aa (u5 fun _ _=>.ty _) af))))) (oE (bb (ak mi (ac 3) (ac 2))) (bb (ak mi (ac 1) (ac 0))))) (oE (lA (tF (aO ig (aa (ac 4) (aa (u5 fun _ _=>.ty _) af))))) (lA (tF (aO FQ (aa (cB (cP (ac 4)) (aQ 0) (by decide) fP (zq (aO ig (aa (ac 0) (aa (u5 fun _ _=>.ty _) af))) (zr (aO ig (aa (ac 0) (aa (u5 fun _ _=>.ty _) af)))))) af)))))
   (ax (dR (oE (bb (ak mi qK (ac 2))) (bb (ak mi (aO bZ (aa (bP (aa (bP (aa (ac 0) af)) af)) af)) (aO bZ (aa (ac 2) af))))) (bz (nH _)) cz)
   (ax (Gy (xP (aa (aO bZ (aa (ac 0) af)) af)))
   (bz (ak xq qK (cB (ie (aa (ak dm (aO bZ (aa (ac 0) af)) (ai _)) af)) (aQ 0) (by decide) fP (bY (aa (ac 0) af))))))))))⟩
theorem G7 (M:Md P w K mg) (c9:mS P w K mg base) (c10:gm P w K mg base) (c14:iT P w K mg base) (c17:kS P w K mg base):mv P w K mg base "law" GG ["_law_script","_law_k","_law_deal_here"] 5 DW:=fun hr=>⟨_,(ag (cj Aj rfl (dM rfl M.n_range (ao ah ae)) (bB 1 sc_slaw.nd) (ag (aS 2 sc_slaw.nd (aR c9 hr rfl (ao (pv 0) (ao (pv 1) ae))))
   (au (cZ (ol (oj (aR c17 hr rfl (ao (aR c14 hr rfl (ao (pv 2) (ao (sk (sh (aW (K:=K) rfl) (o9 (iB (sk (sh (aW (K:=K) rfl) CH (aR c10 hr rfl (ao (pv 2) (ao ah ae))) (fun _ _=>rfl))) (iB ah (iB ah o8 rfl) rfl) rfl)) (pv 1) (fun _ _=>rfl))) ae))) ae)))) (au (bq jn)) bV))))
   (au (bq jn))),
  (ax (cA (ie (aa (ai _) af)) (aQ 1) (ax (aE (bP (aa (ac 0) (aa (ac 1) af))))
   (dR (lA (tF (fm (aa (gp (aa (ak bG (bY (aa (ak bG (bY (aa (ai _) (aa (ai _) (aa (ai _) (aa (ai _) af))))) (gp (aa (ai _) af))) (aa (ai _) (aa (ai _) af)))) (ac 1)) af)) af)))) (bz (nH _)) cz)))
   (bz (nH _)))⟩
end
set_option maxHeartbeats 0 in
theorem all_mk {l:PySem.W.OpenLaw} {w:World} {K:PySem.W.Frag} {h:Heap} {mg:Str->Option Value} {fa:Addr} (X:K.In h) (G:h.Ns mainGlobals mg) (hfa:mg "law"=some (.ref fa))
  (h1:FH K "joint_of" mE) (h2:FH K "joints_at" kz) (h3:FH K "count_free" gc) (h4:FH K "part_round" d8) (h5:FH K "parts_of" mF) (h6:FH K "number_left" hU) (h7:FH K "number_right" gd) (h8:FH K "point_joints" dJ) (h9:FH K "point_rings" eG) (h10:FH K "_law_deal" sn) (h11:FH K "_law_draw" sr) (h12:FH K "_law_farther" kA) (h13:FH K "_law_put_in" jK) (h14:FH K "_law_block" pi) (h15:FH K "_law_numbers" kB) (h16:FH K "_law_rings" lI) (h17:FH K "_law_back" ss) (h18:FH K "_law_right" jL) (h19:FH K "law" GG) {cA_KINDS:Addr} (ca_KINDS:PySem.W.nsIn K mainGlobals "KINDS"=some (some (.ref cA_KINDS))) (cg_KINDS:CC l.prog w K mg "KINDS" sj)
  (z_abs:PySem.W.nsIn K mainGlobals "abs"=some none) (z_all:PySem.W.nsIn K mainGlobals "all"=some none) (z_bool:PySem.W.nsIn K mainGlobals "bool"=some none) (z_enumerate:PySem.W.nsIn K mainGlobals "enumerate"=some none) (z_int:PySem.W.nsIn K mainGlobals "int"=some none) (z_isinstance:PySem.W.nsIn K mainGlobals "isinstance"=some none) (z_len:PySem.W.nsIn K mainGlobals "len"=some none) (z_list:PySem.W.nsIn K mainGlobals "list"=some none) (z_min:PySem.W.nsIn K mainGlobals "min"=some none) (z_range:PySem.W.nsIn K mainGlobals "range"=some none) (z_reversed:PySem.W.nsIn K mainGlobals "reversed"=some none) (z_sorted:PySem.W.nsIn K mainGlobals "sorted"=some none) (z_tuple:PySem.W.nsIn K mainGlobals "tuple"=some none) (z_zip:PySem.W.nsIn K mainGlobals "zip"=some none) :
  ∃fd:FuncData,(∀(s:Shared) (v:Value),BindsTo s fd ⟨[v],[]⟩ [("_law_script",v)])/\∀base:Heap,K.In base->base.Ns mainGlobals mg->FnOk l.prog w K mg base yX 6 fa fd ["_law_script"] (tO K):=by
 have M:Md l.prog w K mg:=⟨PySem.W.mg_none_of X G z_abs,PySem.W.mg_none_of X G z_all,PySem.W.mg_none_of X G z_bool,PySem.W.mg_none_of X G z_enumerate,PySem.W.mg_none_of X G z_int,PySem.W.mg_none_of X G z_isinstance,PySem.W.mg_none_of X G z_len,PySem.W.mg_none_of X G z_list,PySem.W.mg_none_of X G z_min,PySem.W.mg_none_of X G z_range,PySem.W.mg_none_of X G z_reversed,PySem.W.mg_none_of X G z_sorted,PySem.W.mg_none_of X G z_tuple,PySem.W.mg_none_of X G z_zip,cg_KINDS⟩;refine h19.law X G hfa sc_slaw (fun _ _ _ _ _ _=>vN fun _=>rfl) Db fun base=>?_;have c0:mQ l.prog w K mg base:=h1.cal X G qP (fun _ _ _ _ _ _=>vN fun _=>rfl) (q8 M);have c1:kP l.prog w K mg base:=h2.cal X G sc_sjointsat (fun _ _ _ _ _ _=>vN fun _=>rfl) (pG M);have c2:jT l.prog w K mg base:=h3.cal X G nc (fun _ _ _ _ _ _=>vN fun _=>rfl) (nh M);have c3:jU l.prog w K mg base:=h4.cal X G sc_spartround (fun _ _ _ _ _ _=>Kf fun _ _ _=>rfl) (ni M c2);have c4:mR l.prog w K mg base:=h5.cal X G sc_spartsof (fun _ _ _ _ _ _=>GA fun _ _=>rfl) (q9 M c1 c3);have c5:iQ l.prog w K mg base:=h6.cal X G mG (fun _ _ _ _ _ _=>vN fun _=>rfl) (mU M);have c6:hY l.prog w K mg base:=h7.cal X G ld (fun _ _ _ _ _ _=>vN fun _=>rfl) (lq M);have c7:hZ l.prog w K mg base:=h8.cal X G lf (fun _ _ _ _ _ _=>vN fun _=>rfl) (lw M c0 c5 c6);have c8:iR l.prog w K mg base:=h9.cal X G sc_spointrings (fun _ _ _ _ _ _=>vN fun _=>rfl) (mV M c4 c7);have c9:mS l.prog w K mg base:=h10.cal X G sc_sLdeal (fun _ _ _ _ _ _=>GA fun _ _=>rfl) (rb M);have c10:gm l.prog w K mg base:=h11.calI X G sc_sLdraw (fun _ _ _ _ _ _=>GA fun _ _=>rfl) (rd M);have c11:iS l.prog w K mg base:=h12.cal X G pk (fun _ _ _ _ _ _=>GA fun _ _=>rfl) (mW M);have c12:jV l.prog w K mg base:=h13.cal X G sc_sLputin (fun _ _ _ _ _ _=>Kf fun _ _ _=>rfl) (nk M c11);have c13:kQ l.prog w K mg base:=h14.calI X G sc_sLblock (fun _ _ _ _ _ _=>GA fun _ _=>rfl) (pH M c10);have c14:iT l.prog w K mg base:=h15.calI X G sc_sLnumbers (fun _ _ _ _ _ _=>GA fun _ _=>rfl) (mX M c10 c12 c13);have c15:kR l.prog w K mg base:=h16.cal X G sc_sLrings (fun _ _ _ _ _ _=>vN fun _=>rfl) (pI M);have c16:mT l.prog w K mg base:=h17.cal X G sc_sLback (fun _ _ _ _ _ _=>vN fun _=>rfl) (re M);have c17:kS l.prog w K mg base:=h18.cal X G sc_sLright (fun _ _ _ _ _ _=>vN fun _=>rfl) (pJ M c8 c15 c16);intro _ _ _ _ _ _ _;exact G7 M c9 c10 c14 c17
end K40
open PySem PySem.W PyProof.Rows
set_option maxRecDepth 100000 in
set_option maxHeartbeats 0 in
theorem PySem.Challenge.cw_strandwright_k40_rings_of_points_holds : PySem.Challenge.rw_strandwright_k40_rings_of_points.Holds := by
 w_on;o_law;z_head;(case hw=>w_witness2)
 k_fill
 refine VF.walkZ (l:=PySem.Challenge.rw_strandwright_k40_rings_of_points) (k:=6) rfl rfl ⟨rfl,by decide,by decide⟩ (by decide) ?K ?F
 case K=>intro _;rfl
 case F =>
  intro w mg fa h KX G hmg;refine' K40.all_mk KX G hmg (VF.fh ?a1 ?l1 ?c1 ?k1) (VF.fh ?a2 ?l2 ?c2 ?k2) (VF.fh ?a3 ?l3 ?c3 ?k3) (VF.fh ?a4 ?l4 ?c4 ?k4) (VF.fh ?a5 ?l5 ?c5 ?k5) (VF.fh ?a6 ?l6 ?c6 ?k6) (VF.fh ?a7 ?l7 ?c7 ?k7) (VF.fh ?a8 ?l8 ?c8 ?k8) (VF.fh ?a9 ?l9 ?c9 ?k9) (VF.fh ?a10 ?l10 ?c10 ?k10) (VF.fh ?a11 ?l11 ?c11 ?k11) (VF.fh ?a12 ?l12 ?c12 ?k12) (VF.fh ?a13 ?l13 ?c13 ?k13) (VF.fh ?a14 ?l14 ?c14 ?k14) (VF.fh ?a15 ?l15 ?c15 ?k15) (VF.fh ?a16 ?l16 ?c16 ?k16) (VF.fh ?a17 ?l17 ?c17 ?k17) (VF.fh ?a18 ?l18 ?c18 ?k18) (VF.fh ?a19 ?l19 ?c19 ?k19) ?ca_KINDS (VF22.ktab_mk4 (PySem.W.mg_of KX G ?cm_KINDS) ?cb_KINDS ?cs_KINDS ?cl_KINDS_0 ?ch_KINDS_0 ?cl_KINDS_1 ?ch_KINDS_1 ?cl_KINDS_2 ?ch_KINDS_2 ?cl_KINDS_3 ?ch_KINDS_3) ?z_abs ?z_all ?z_bool ?z_enumerate ?z_int ?z_isinstance ?z_len ?z_list ?z_min ?z_range ?z_reversed ?z_sorted ?z_tuple ?z_zip
  (case a1=>k_is)
  (case l1=>k_is)
  (case c1=>k_is)
  (case k1=>k_is)
  (case a2=>k_is)
  (case l2=>k_is)
  (case c2=>k_is)
  (case k2=>k_is)
  (case a3=>k_is)
  (case l3=>k_is)
  (case c3=>k_is)
  (case k3=>k_is)
  (case a4=>k_is)
  (case l4=>k_is)
  (case c4=>k_is)
  (case k4=>k_is)
  (case a5=>k_is)
  (case l5=>k_is)
  (case c5=>k_is)
  (case k5=>k_is)
  (case a6=>k_is)
  (case l6=>k_is)
  (case c6=>k_is)
  (case k6=>k_is)
  (case a7=>k_is)
  (case l7=>k_is)
  (case c7=>k_is)
  (case k7=>k_is)
  (case a8=>k_is)
  (case l8=>k_is)
  (case c8=>k_is)
  (case k8=>k_is)
  (case a9=>k_is)
  (case l9=>k_is)
  (case c9=>k_is)
  (case k9=>k_is)
  (case a10=>k_is)
  (case l10=>k_is)
  (case c10=>k_is)
  (case k10=>k_is)
  (case a11=>k_is)
  (case l11=>k_is)
  (case c11=>k_is)
  (case k11=>k_is)
  (case a12=>k_is)
  (case l12=>k_is)
  (case c12=>k_is)
  (case k12=>k_is)
  (case a13=>k_is)
  (case l13=>k_is)
  (case c13=>k_is)
  (case k13=>k_is)
  (case a14=>k_is)
  (case l14=>k_is)
  (case c14=>k_is)
  (case k14=>k_is)
  (case a15=>k_is)
  (case l15=>k_is)
  (case c15=>k_is)
  (case k15=>k_is)
  (case a16=>k_is)
  (case l16=>k_is)
  (case c16=>k_is)
  (case k16=>k_is)
  (case a17=>k_is)
  (case l17=>k_is)
  (case c17=>k_is)
  (case k17=>k_is)
  (case a18=>k_is)
  (case l18=>k_is)
  (case c18=>k_is)
  (case k18=>k_is)
  (case a19=>k_is)
  (case l19=>k_is)
  (case c19=>k_is)
  (case k19=>k_is)
  (case ca_KINDS=>k_is)
  (case cm_KINDS=>k_is)
  (case cb_KINDS=>k_is)
  (case cl_KINDS_0=>k_is)
  (case cl_KINDS_1=>k_is)
  (case cl_KINDS_2=>k_is)
  (case cl_KINDS_3=>k_is)
  (case z_abs=>k_is)
  (case z_all=>k_is)
  (case z_bool=>k_is)
  (case z_enumerate=>k_is)
  (case z_int=>k_is)
  (case z_isinstance=>k_is)
  (case z_len=>k_is)
  (case z_list=>k_is)
  (case z_min=>k_is)
  (case z_range=>k_is)
  (case z_reversed=>k_is)
  (case z_sorted=>k_is)
  (case z_tuple=>k_is)
  (case z_zip=>k_is)
  (case cs_KINDS=>decide)
  (case ch_KINDS_0=>decide)
  (case ch_KINDS_1=>decide)
  (case ch_KINDS_2=>decide)
  (case ch_KINDS_3=>decide)

import PyProof.Rows.All
import Wide.All
import OpenK.AllK
import Wide.FinOn
import Lean
import PyProof.EqAt
import PyProof.EqKinds
import PyProof.TupleCall
import KE.KRevIter
import KE.KUnpack
import KE.KIntText
import PyProof.StrLawsReplace
import PySem.Challenge.RW_strandwright_k04_whole_written_and_read
set_option maxHeartbeats 2000000
set_option Elab.async false
set_option linter.all false
set_option maxRecDepth 100000
set_option genSizeOfSpec false
set_option tactic.hygienic false
noncomputable abbrev Za:=@List.length_append
noncomputable abbrev Ya:=@Option.bind_some
noncomputable abbrev Xa:=@List.length_map
noncomputable abbrev Wa:=@Nat.le_refl
noncomputable abbrev Va:=@List.mem_cons_of_mem
noncomputable abbrev Qa:=@List.size_toArray
noncomputable abbrev Yb:=@Nat.lt_of_lt_of_le
noncomputable abbrev Xb:=@List.mem_cons_self
noncomputable abbrev Wb:=@Nat.le_trans
noncomputable abbrev Vb:=@List.append_assoc
noncomputable abbrev Qb:=@Bool.false_ne_true
noncomputable abbrev Zc:=@List.append_nil
noncomputable abbrev Yc:=@List.map_cons
noncomputable abbrev Xc:=@List.flatMap_cons
noncomputable abbrev Wc:=@List.getElem?_append_right
noncomputable abbrev Vc:=@List.map_append
noncomputable abbrev Qc:=@List.getElem?_eq_some_iff
noncomputable abbrev Zd:=@List.mem_singleton
noncomputable abbrev Yd:=@List.length_cons
noncomputable abbrev Xd:=@List.mem_cons
noncomputable abbrev Wd:=@List.getElem?_eq_getElem
noncomputable abbrev Vd:=@List.getElem?_map
noncomputable abbrev Qd:=@Bool.false_eq_true
noncomputable abbrev Ze:=@List.mem_append_right
noncomputable abbrev Ye:=@List.getElem?_append_left
noncomputable abbrev Xe:=@Bool.and_eq_true
noncomputable abbrev We:=@List.mem_map
noncomputable abbrev Ve:=@List.length_replicate
noncomputable abbrev Qe:=@List.flatMap_append
noncomputable abbrev Zf:=@Nat.lt_irrefl
noncomputable abbrev Yf:=@Nat.ne_of_lt
noncomputable abbrev Xf:=@Nat.succ_pos
noncomputable abbrev Wf:=@List.getElem?_drop
noncomputable abbrev Vf:=@List.getElem?_replicate
noncomputable abbrev Qf:=@List.map_map
noncomputable abbrev Zg:=@Option.map_eq_some_iff
noncomputable abbrev Yg:=@Array.toList_append
noncomputable abbrev Xg:=@List.mem_append
noncomputable abbrev Wg:=@List.find?_cons
noncomputable abbrev Vg:=@List.nodup_cons
noncomputable abbrev Qg:=@Array.length_toList
noncomputable abbrev Zh:=@List.length_singleton
noncomputable abbrev Yh:=@List.eq_nil_of_length_eq_zero
noncomputable abbrev Xh:=@List.getElem?_set
noncomputable abbrev Wh:=@List.getElem?_of_mem
noncomputable abbrev Vh:=@List.all_eq_true
noncomputable abbrev Qh:=@List.map_congr_left
noncomputable abbrev Zi:=@List.nil_append
noncomputable abbrev Yi:=@Nat.le_succ_of_le
noncomputable abbrev Xi:=@List.mem_of_getElem?
noncomputable abbrev Wi:=@List.any_cons
noncomputable abbrev Vi:=@Bool.eq_iff_iff
noncomputable abbrev Qi:=@List.map_singleton
noncomputable abbrev Zj:=@Int.eq_ofNat_of_zero_le
noncomputable abbrev Yj:=@Option.bind_eq_some_iff
noncomputable abbrev Xj:=@Option.isSome_map
noncomputable abbrev Wj:=@List.nodup_append
noncomputable abbrev Vj:=@Nat.zero_le
noncomputable abbrev Qj:=@List.all_cons
noncomputable abbrev Zk:=@List.length_drop
noncomputable abbrev Yk:=@List.cons_append
noncomputable abbrev Xk:=@List.not_mem_nil
noncomputable abbrev Wk:=@Nat.ne_of_gt
namespace PySem
theorem Runs.toks{M:Model}{Γ:Ctx}{p:Pos}{t:Sem Fin}{fs:List Frame}{s s':Shared}{e:End}(h:Runs M Γ p t fs s e s'):s.toks<=s'.toks:=by
 induction h with
 | done=>exact Wa _
 | raise=>exact Wa _
 | yield=>exact Wa _
 | fresh _ ih=>exact Nat.le_of_succ_le ih
 | call _ _ ih1 ih2=>exact Wb ih1 ih2
 | resumeFresh _ _ _ _ ih1 ih2=>exact Wb ih1 ih2
 | resumeSuspended _ _ _ _ ih1 ih2=>exact Wb ih1 ih2
 | segRet _ _ ih1 ih2=>exact Wb ih1 ih2
 | segGen _ _ ih1 ih2=>exact Wb ih1 ih2
 | segSuspGen _ _ _ _ ih1 ih2=>exact Wb ih1 ih2
 | _=>assumption
theorem Wakes.toks{M:Model}{Γ:Ctx}{p:Pos}{g:Nat}{r:Resume}{s s':Shared}{res:GenResult}(h:Wakes M Γ p g r s res s'):s.toks<=s'.toks:=by
 unfold Wakes at h;split at h
 ·exact h.elim
 ·split at h
  ·obtain⟨e,s1,h1,_,_,rfl⟩:=h;exact h1.toks
  ·rw[h.2];exact Wa _
  ·rw[h.2];exact Wa _
 ·obtain⟨e,s1,h1,_,_,rfl⟩:=h;exact h1.toks
 ·rw[h.2];exact Wa _
 ·rw[h.2];exact Wa _
open Sem in
theorem xZ{α:Type}{M:Model}{Γ:Ctx}{Q:α->Pos->Shared->Prop}{E:Value->Pos->Shared->Prop}{n:Nat}(t:Sem α):∀{p:Pos}{s:Shared},n<=s.toks->wp M Γ t (fun a p' s'=>n<=s'.toks->Q a p' s') (fun e p' s'=>n<=s'.toks->E e p' s') p s->wp M Γ t Q E p s:=by
 induction t with
 | pure a=>intro p s hs h;rw[wp]at h ⊢;exact h hs
 | raise e=>intro p s hs h;rw[wp]at h ⊢;exact h hs
 | unsupported w=>intro p s hs h;rw[wp]at h;exact h.elim
 | finish e=>intro p s hs h;rw[wp]at h;exact h.elim
 | rule tag k ih=>intro p s hs h;rw[wp]at h ⊢;exact ih _ hs h
 | «at» pos k ih=>intro p s hs h;rw[wp]at h ⊢;exact ih _ hs h
 | load a part k ih=>intro p s hs h;rw[wp]at h ⊢;obtain⟨o,e,h⟩:=h;exact⟨o,e,ih _ hs h⟩
 | update a part f k ih=>intro p s hs h;rw[wp]at h ⊢;exact⟨h.1,ih _ hs h.2⟩
 | alloc o k ih=>intro p s hs h;rw[wp]at h ⊢;exact ih _ hs h
 | loadIfAlive a k ih=>intro p s hs h;rw[wp]at h ⊢;exact ih _ hs h
 | point l k ih=>intro p s hs h;rw[wp]at h ⊢;exact ih _ hs h
 | register a k ih=>intro p s hs h;rw[wp]at h;exact h.elim
 | fresh k ih=>intro p s hs h;rw[wp]at h ⊢;exact ih _ (Yi hs) h
 | ask k ih=>intro p s hs h;rw[wp]at h ⊢;exact ih _ hs h
 | choose src n k ih=>intro p s hs h;rw[wp]at h ⊢;exact⟨h.1,ih _ hs h.2⟩
 | os q l k ih=>intro p s hs h;rw[wp]at h ⊢;exact ih _ hs h
 | call c hd g l k ih=>intro p s hs h;rw[wp]at h ⊢;obtain⟨r,s',h1,h2⟩:=h;exact⟨r,s',h1,ih _ (Wb hs h1.toks) h2⟩
 | handled own k ih=>intro p s hs h;rw[wp]at h ⊢;exact ih _ hs h
 | newGen c k ih=>intro p s hs h;rw[wp]at h ⊢;exact ih _ hs h
 | genState g k ih=>intro p s hs h;rw[wp]at h ⊢;obtain⟨st,e,h⟩:=h;exact⟨st,e,ih _ hs h⟩
 | resume g r l k ih=>intro p s hs h;rw[wp]at h ⊢;obtain⟨res,s',h1,h2⟩:=h;exact⟨res,s',h1,ih _ (Wb hs h1.toks) h2⟩
 | yield v g l k ih=>intro p s hs h;rw[wp]at h;exact h.elim
 | stack k ih=>intro p s hs h;rw[wp]at h ⊢;exact ih _ hs h
 | fork c k ih=>intro p s hs h;rw[wp]at h;exact h.elim
 | thread k ih=>intro p s hs h;rw[wp]at h ⊢;exact ih _ hs h
 | await a t b l k ih=>intro p s hs h;rw[wp]at h;exact h.elim
theorem bu{α:Type}{M:Model}{A:Around}{t:Sem α}{Q:α->Shared->Prop}{E:Value->Shared->Prop}{s:Shared}(h:wpAny M A t (fun a s'=>s.toks<=s'.toks->Q a s') (fun e s'=>s.toks<=s'.toks->E e s') s):wpAny M A t Q E s :=
 fun Γ p hi=>xZ t (Wa _) (h Γ p hi)
theorem oz{M:Model}{A:Around}{c:Code}{R:Result->Shared->Prop}{s:Shared}(h:codeAny M A c (fun r s'=>s.toks<=s'.toks->R r s') s):codeAny M A c R s:=fun Γ p hc hb=>by
 obtain⟨r,s',h1,h2⟩:=h Γ p hc hb;exact⟨r,s',h1,h2 h1.toks⟩
end PySem
namespace L2
open PySem PySem.Spec PyProof.Rows
noncomputable abbrev Key:=Sum Int Str
noncomputable def kT:Key->Value->Bool
 | .inl k,v=>Value.isInt k v
 | .inr x,v=>Value.isStrOf x v
noncomputable def zv(w:World):Key->Int
 | .inl k=>hashInt k
 | .inr x=>hashStr w x
theorem bD:∀{k:Key}{v:Value},kT k v=true->(∃i t,k=Sum.inl i/\v=Value.int i t)∨(∃x t,k=Sum.inr x/\v=Value.str x t)
 | .inl i,v,h=>by
  obtain⟨t,e⟩:=Value.isInt_shape (k:=i) (v:=v) h;exact .inl ⟨i,t,rfl,e⟩
 | .inr x,v,h=>by
  obtain⟨t,e⟩:=Value.isStrOf_shape (x:=x) (v:=v) h;exact .inr ⟨x,t,rfl,e⟩
theorem qD(i:Int)(t:Tok):kT (.inl i) (.int i t)=true:=by simp[kT,Value.isInt]
theorem qE(x:Str)(t:Tok):kT (.inr x) (.str x t)=true:=by simp[kT,Value.isStrOf]
theorem we(a b:Int):decide ((Sum.inl a:Key)=Sum.inl b)=(a == b):=by
 by_cases e:a=b
 ·subst e;simp
 ·have h:¬ (Sum.inl a:Key)=Sum.inl b:=fun q=>e (Sum.inl.inj q);rw[decide_eq_false h];exact(beq_eq_false_iff_ne.mpr e).symm
theorem wf(a b:Str):decide ((Sum.inr a:Key)=Sum.inr b)=decide (a=b):=by
 by_cases e:a=b
 ·subst e;simp
 ·have h:¬ (Sum.inr a:Key)=Sum.inr b:=fun q=>e (Sum.inr.inj q);rw[decide_eq_false h,decide_eq_false e]
theorem wg(a:Int)(b:Str):decide ((Sum.inl a:Key)=Sum.inr b)=false:=decide_eq_false (fun q=>nomatch q)
theorem wj(a:Str)(b:Int):decide ((Sum.inr a:Key)=Sum.inl b)=false:=decide_eq_false (fun q=>nomatch q)
noncomputable def bE(prog:Program)(w:World):PySem.KeyKind prog w Key where
 is:=kT
 hash:=zv w
 inj:=fun v a b ha hb=>by
  rcases bD ha with⟨i,t,rfl,rfl⟩|⟨x,t,rfl,rfl⟩
  ·rcases bD hb with⟨j,u,rfl,e⟩|⟨y,u,rfl,e⟩
   ·injection e with e1 _;rw[e1]
   ·exact nomatch e
  ·rcases bD hb with⟨j,u,rfl,e⟩|⟨y,u,rfl,e⟩
   ·exact nomatch e
   ·injection e with e1 _;rw[e1]
 byValue:=fun k v h=>by
  rcases bD h with⟨i,t,rfl,rfl⟩|⟨x,t,rfl,rfl⟩<;>rfl
 pyHash:=fun hv h=>by
  rcases bD hv with⟨i,t,rfl,rfl⟩|⟨x,t,rfl,rfl⟩
  ·exact wpAny_pyHash_int h
  ·exact wpAny_pyHash_str h
 eqBool:=fun hu hv h=>by
  rcases bD hu with⟨i,t,rfl,rfl⟩|⟨x,t,rfl,rfl⟩
  ·rcases bD hv with⟨j,u,rfl,rfl⟩|⟨y,u,rfl,rfl⟩
   ·rw[we]at h;exact wpAny_eqBool_int h
   ·rw[wg]at h;exact SeqAt.EqAt.int_str i t y u _ _ _ _ h
  ·rcases bD hv with⟨j,u,rfl,rfl⟩|⟨y,u,rfl,rfl⟩
   ·rw[wj]at h;exact SeqAt.EqAt.str_int x t j u _ _ _ _ h
   ·rw[wf]at h;exact wpAny_eqBool_str h
 «strs»:=fun k x t v h=>by
  rcases bD h with⟨i,u,rfl,e⟩|⟨y,u,rfl,e⟩
  ·exact nomatch e
  ·injection e with e1 _
   subst e1;cases v<;>rfl
theorem ni(prog:Program)(w:World)(i:Int)(t:Tok):(bE prog w).is (.inl i) (.int i t)=true:=qD i t
theorem cH(prog:Program)(w:World)(x:Str)(t:Tok):(bE prog w).is (.inr x) (.str x t)=true:=qE x t
end L2
namespace L2
open PySem PySem.Spec PyProof.Rows
inductive V where
 | non|bl (b:Bool)|int (i:Int)|str (x:Str)|byt (b:Array UInt8)|flt (b:UInt64)|ref (a:Addr)|ty (n:String)
 deriving DecidableEq
noncomputable def RelV:V->Value->Prop
 | .non,u=>u=Value.none
 | .bl b,u=>u=Value.bool b
 | .int i,u=>∃t,u=Value.int i t
 | .str x,u=>∃t,u=Value.str x t
 | .byt b,u=>∃t,u=Value.bytes b t
 | .flt b,u=>∃t,u=Value.float b t
 | .ref a,u=>u=Value.ref a
 | .ty n,u=>u=Value.type n
noncomputable abbrev Vals:List V->List Value->Prop:=Paired RelV
theorem Vals.length{xs:List V}{us:List Value}(r:Vals xs us):xs.length=us.length:=Paired.length r
theorem Vals.get:∀{xs:List V}{us:List Value}{i:Nat}{x:V},Vals xs us->xs[i]?=some x->∃u,us[i]?=some u/\RelV x u
 | _,_,_,_,.nil,e=>by simp at e
 | _,_,0,_,.cons r _,e=>by simp at e;subst e;exact⟨_,rfl,r⟩
 | _,_,i+1,x,.cons _ t,e=>by
  obtain⟨u,h1,h2⟩:=Vals.get (i:=i) (x:=x) t (by simpa using e)
  exact⟨u,by simpa using h1,h2⟩
theorem Vals.set{x:V}{u:Value}(r:RelV x u):∀{xs:List V}{us:List Value}(i:Nat),Vals xs us->Vals (xs.set i x) (us.set i u)
 | _,_,_,.nil=>.nil
 | _,_,0,.cons _ t=>.cons r t
 | _,_,i+1,.cons q t=>.cons q (Vals.set r i t)
theorem Vals.append:∀{xs ys:List V}{us ws:List Value},Vals xs us->Vals ys ws->Vals (xs++ys) (us++ws)
 | _,_,_,_,.nil,s=>s
 | _,_,_,_,.cons r t,s=>.cons r (Vals.append t s)
theorem Vals.take:∀{xs:List V}{us:List Value}(n:Nat),Vals xs us->Vals (xs.take n) (us.take n)
 | _,_,0,_=>.nil
 | _,_,_+1,.nil=>.nil
 | _,_,n+1,.cons r t=>.cons r (Vals.take n t)
theorem Vals.drop:∀{xs:List V}{us:List Value}(n:Nat),Vals xs us->Vals (xs.drop n) (us.drop n)
 | _,_,0,r=>r
 | _,_,_+1,.nil=>.nil
 | _,_,n+1,.cons _ t=>Vals.drop n t
noncomputable def RelO:Option V->Option Value->Prop
 | some v,some u=>RelV v u
 | none,none=>True
 | _,_=>False
noncomputable def KV{κ:Type}:List (κ×V)->List (κ×Value)->Prop:=Paired fun(p:κ×V) (q:κ×Value)=>p.1=q.1/\RelV p.2 q.2
noncomputable def kV:Key->V
 | .inl i=>.int i
 | .inr x=>.str x
inductive HO where
  | lst (xs:List V)
  | tup (xs:List V)
  | dK (kvs:List (Key×V))|dT (ep:Nat×List Addr) (kvs:List (List Key×V))
  | set (S:Int->Bool) (n:Nat)
  | ins (C dx:Addr) (fs:List (Str×V))
  | own (x:Addr)
  | xd (fs:List (Str×V))
  | met (f x:Addr)
  | rng (lo hi:Int)
  | frz (o:Obj) (u:HO)
  | tbl (ps:Array Value)
  | ext (φ:Heap->Prop)
noncomputable abbrev Hp:=Addr->Option HO
noncomputable def upd(H:Hp)(a:Addr)(o:HO):Hp:=fun b=>if b=a then some o else H b
theorem aZ{H:Hp}{a:Addr}{o:HO}:upd H a o a=some o:=by unfold upd;rw[if_pos rfl]
theorem aM{H:Hp}{a b:Addr}{o:HO}(h:b≠a):upd H a o b=H b:=by unfold upd;rw[if_neg h]
theorem x6{H:Hp}{a b:Addr}{o u:HO}(h:H a=some o)(h':H b=some u)(d:o≠u):a≠b:=by
 intro e;subst e;rw[h]at h';exact d (Option.some.inj h')
theorem aU{H:Hp}{a b:Addr}{o:HO}(h:H a=some o)(h':H b=none):a≠b:=by
 intro e;subst e;rw[h]at h';cases h'
section
variable (P:Program)(w:World)
noncomputable def ObjOk(H:Hp)(h:Heap)(a:Addr):HO->Prop
 | .lst xs=>xs.length<=sizeLine/\∃(its:List Value)(n:Nat),Vals xs its/\h.get? a=some { cls:=.type "list",data:=.seq its.toArray n }
 | .tup xs=>xs.length<=sizeLine/\∃its:List Value,Vals xs its/\IsTup h a its.toArray
 | .dK kvs=>kvs.length<=sizeLine/\(a == sysModules)=false/\∃vs,KV kvs vs/\h.DictOf (bE P w) a vs
 | .dT ep kvs=>kvs.length<=sizeLine/\(a == sysModules)=false/\∃xs:List (List Key×Addr×Value),
   Paired (fun(p:List Key×V) (q:List Key×Addr×Value)=>p.1=q.1/\H q.2.1=some (.tup (p.1.map kV))/\RelV p.2 q.2.2) kvs xs /\
   xs.map (·.2.1)=ep.2/\∃o es,h.get? a=some o/\o.ExactDict/\o.data=.dict es ep.1/\es.toList=xs.map (entryOfKey (tupleKind (bE P w)))/\(xs.map (·.1)).Nodup
 | .set S n=>h.SetOf (intKind P w) a S n
 | .ins C dx fs=>H dx=some (.own a)/\fs.length<=1000/\dx≠a/\h.get? a=some (PySem.W.instObj C dx) /\
   ∃mA,h.Ns1 dx mA/\(∀f,RelO (fs.lookup f) (mA f))/\PySem.Within mA (fs.map (·.1))
 | .own _=>∃o,h.get? a=some o
 | .xd fs=>∃mA,h.Ns1 a mA/\∀f,RelO (fs.lookup f) (mA f)
 | .rng lo hi=>∃t u v,h.get? a=some { cls:=.type "range",data:=.fields #[.int lo t,.int hi u,.int 1 v] }
 | .frz o u=>h.get? a=some o/\ObjOk H h a u
 | .tbl ps=>h.get? a=some { cls:=.none,data:=.fields ps }
 | .met f x=>h.get? a=some (PySem.W.methodObj (.ref f) (.ref x))
 | .ext φ=>φ h/\(∃o,h.get? a=some o)/\∀h1 h2:Heap,φ h1->(∀o,h1.get? a=some o->h2.get? a=some o)->φ h2
noncomputable def HOk(H:Hp)(h:Heap):Prop:=∀a o,H a=some o->ObjOk P w H h a o
end
section
variable {P:Program}{w:World}{H H':Hp}{h h':Heap}{a:Addr}{o:HO}
theorem ObjOk.lt(x:ObjOk P w H h a o):a<h.objs.size:=by
 cases o with
 | lst xs=>obtain⟨_,_,_,_,e⟩:=x;exact Heap.lt_size e
 | tup xs=>obtain⟨_,_,_,p⟩:=x;exact p.lt
 | dK kvs=>obtain⟨_,_,_,_,o,_,_,e,_⟩:=x;exact Heap.lt_size e
 | dT ep kvs=>obtain⟨_,_,_,_,_,o,_,e,_⟩:=x;exact Heap.lt_size e
 | set S n=>obtain⟨o,_,_,_,e,_⟩:=x;exact Heap.lt_size e
 | ins C dx fs=>obtain⟨_,_,_,e,_⟩:=x;exact Heap.lt_size e
 | own y=>obtain⟨_,e⟩:=x;exact Heap.lt_size e
 | xd fs=>obtain⟨_,⟨_,_,_,e,_⟩,_⟩:=x;exact Heap.lt_size e
 | rng lo hi=>obtain⟨_,_,_,e⟩:=x;exact Heap.lt_size e
 | frz ob u=>obtain⟨e,_⟩:=x;exact Heap.lt_size e
 | tbl ps=>exact Heap.lt_size (show h.get? a=some _ from x)
 | met f y=>exact Heap.lt_size (show h.get? a=some _ from x)
 | ext φ=>obtain⟨_,⟨_,e⟩,_⟩:=x;exact Heap.lt_size e
theorem Paired.mapP{α β:Type}{F G:α->β->Prop}:∀{l₁:List α}{l₂:List β},Paired F l₁ l₂->(∀a b,F a b->G a b)->Paired G l₁ l₂
 | _,_,.nil,_=>.nil
 | _,_,.cons r t,f=>.cons (f _ _ r) (Paired.mapP t f)
theorem ObjOk.stay(x:ObjOk P w H h a o)(k:∀b u,(b=a∨H b=some (.own a))->h.get? b=some u->h'.get? b=some u)
  (ho:∀b,H b=some (.own a)->H' b=some (.own a))(ht:∀b xs,H b=some (.tup xs)->H' b=some (.tup xs)):ObjOk P w H' h' a o:=by
 induction o with
 | lst xs=>obtain⟨z,its,n,r,e⟩:=x;exact⟨z,its,n,r,k _ _ (.inl rfl) e⟩
 | tup xs=>obtain⟨z,its,r,ob,e,c⟩:=x;exact⟨z,its,r,ob,k _ _ (.inl rfl) e,c⟩
 | dK kvs=>obtain⟨z,y,vs,r,ob,es,ep,e,c⟩:=x;exact⟨z,y,vs,r,ob,es,ep,k _ _ (.inl rfl) e,c⟩
 | dT ep kvs =>
  obtain⟨z,y,xs,r,ra,ob,es,e,c⟩:=x;exact⟨z,y,xs,Paired.mapP r fun p q z=>⟨z.1,ht _ _ z.2.1,z.2.2⟩,ra,ob,es,k _ _ (.inl rfl) e,c⟩
 | set S n=>obtain⟨ob,es,ep,t,e,c⟩:=x;exact⟨ob,es,ep,t,k _ _ (.inl rfl) e,c⟩
 | ins C dx fs =>
  obtain⟨d,z,ne,e,mA,⟨od,es,ep,e2,c⟩,r⟩:=x;exact⟨ho _ d,z,ne,k _ _ (.inl rfl) e,mA,⟨od,es,ep,k _ _ (.inr d) e2,c⟩,r⟩
 | own y=>obtain⟨ob,e⟩:=x;exact⟨ob,k _ _ (.inl rfl) e⟩
 | xd fs=>obtain⟨mA,⟨od,es,ep,e,c⟩,r⟩:=x;exact⟨mA,⟨od,es,ep,k _ _ (.inl rfl) e,c⟩,r⟩
 | rng lo hi=>obtain⟨t,u,v,e⟩:=x;exact⟨t,u,v,k _ _ (.inl rfl) e⟩
 | frz ob u ih=>obtain⟨e,q⟩:=x;exact⟨k _ _ (.inl rfl) e,ih q⟩
 | tbl ps =>
  have e:h.get? a=some { cls:=.none,data:=.fields ps }:=x;show h'.get? a=some { cls:=.none,data:=.fields ps };exact k a _ (.inl rfl) e
 | met f y =>
  have e:h.get? a=some (PySem.W.methodObj (.ref f) (.ref y)):=x;show h'.get? a=some (PySem.W.methodObj (.ref f) (.ref y));exact k a _ (.inl rfl) e
 | ext φ=>obtain⟨p,⟨o,e⟩,st⟩:=x;exact⟨st _ _ p fun o q=>k _ _ (.inl rfl) q,⟨o,k _ _ (.inl rfl) e⟩,st⟩
theorem HOk.lt(x:HOk P w H h)(e:H a=some o):a<h.objs.size:=(x a o e).lt
theorem HOk.fresh(x:HOk P w H h)(e:h.objs.size<=a):H a=none:=by
 cases q:H a with
 | none=>rfl
 | some u=>exact absurd (Yb (x.lt q) e) (Zf _)
theorem HOk.kept(x:HOk P w H h)(k:∀b u,h.get? b=some u->h'.get? b=some u):HOk P w H h':=fun a o e =>
 (x a o e).stay (fun b u _ q=>k b u q) (fun _ q=>q) fun _ _ q=>q
theorem HOk.laid(x:HOk P w H h)(k:∀b u,h.get? b=some u->h'.get? b=some u)(hp:h.objs.size<=a)(new:ObjOk P w (upd H a o) h' a o):HOk P w (upd H a o) h':=fun b u e=>by
 have hn:=x.fresh hp;by_cases hb:b=a
 ·subst hb;rw[aZ]at e;cases e;exact new
 ·rw[aM hb]at e;exact(x b u e).stay (fun c v _ q=>k c v q) (fun c q=>by rw[aM (aU q hn)];exact q) fun c xs q=>by rw[aM (aU q hn)];exact q
end
noncomputable def Rd(H:Hp)(a:Addr)(u:HO):Prop:=H a=some u∨∃o,H a=some (.frz o u)
theorem Rd.ok{P:Program}{w:World}{H:Hp}{h:Heap}{a:Addr}{u:HO}(r:Rd H a u)(x:HOk P w H h):ObjOk P w H h a u:=by
 rcases r with r|⟨o,r⟩
 ·exact x a u r
 ·obtain⟨_,q⟩:=x a _ r;exact q
noncomputable def Mut:Option HO->Prop
 | some (.lst _)=>True
 | some (.dK _)=>True
 | some (.dT _ _)=>True
 | some (.set _ _)=>True
 | some (.ins _ _ _)=>True
 | some (.ext _)=>True
 | _=>False
section
variable {P:Program}{w:World}{H:Hp}{h h':Heap}{x e:Addr}{o':HO}
theorem HOk.write(ok:HOk P w H h)(mu:Mut (H x))(he:e=x∨H e=some (.own x))(k:∀b u,b≠e->h.get? b=some u->h'.get? b=some u)(heo:∃u,h'.get? e=some u)
  (new:ObjOk P w (upd H x o') h' x o'):HOk P w (upd H x o') h':=fun b u q=>by
 have nown:∀c y,H c=some (.own y)->c≠x:=fun c y r z=>by subst z;rw[r]at mu;exact mu
 have ntup:∀c xs,H c=some (.tup xs)->c≠x:=fun c xs r z=>by subst z;rw[r]at mu;exact mu
 by_cases hb:b=x
 ·subst hb;rw[aZ]at q;cases q;exact new
 ·rw[aM hb]at q;by_cases hbe:b=e
  ·have q':H b=some (.own x):=by
    rcases he with z|z
    ·exact absurd (hbe.trans z) hb
    ·rw[hbe];exact z
   rw[q]at q';cases q';obtain⟨v,hv⟩:=heo;exact⟨v,by rw[hbe];exact hv⟩
  ·refine(ok b u q).stay (fun c v hc r=>k c v ?_ r) (fun c r=>by rw[aM (nown c b r)];exact r) fun c xs r=>by rw[aM (ntup c xs r)];exact r
   rcases hc with rfl|hc
   ·exact hbe
   ·rintro rfl;rcases he with z|z
    ·exact nown c b hc z
    ·rw[hc]at z;cases z;exact hb rfl
end
structure Un(fs ex:List Addr)(H H':Hp)(h h':Heap):Prop where
 keep:∀b o,h.get? b=some o->H b=none->b∉fs->b∉ex->h'.get? b=some o
 slot:∀b o,h.get? b=some o->H b=none->b∈fs->b∉ex->∃sl,h'.get? b=some { o with slots:=sl }
 free:∀b o,h.get? b=some o->H b=none->b∉ex->H' b=none
 there:∀b o,h.get? b=some o->b∉ex->∃o',h'.get? b=some o'
 tups:∀b xs,H b=some (.tup xs)->H' b=some (.tup xs)
 frzs:∀b o u,H b=some (.frz o u)->H' b=some (.frz o u)
 tbls:∀b ps,H b=some (.tbl ps)->∃more,H' b=some (.tbl (ps++more))
section
variable {fs fs' ex ex':List Addr}{H H1 H2:Hp}{h h1 h2 h':Heap}{a x e:Addr}{o:HO}
theorem Un.any(u:Un fs ex H H1 h h1){b:Addr}{ob:Obj}(q:h.get? b=some ob)(n:H b=none)(hx:b∉ex):∃sl,h1.get? b=some { ob with slots:=sl }:=by
 by_cases hb:b∈fs
 ·exact u.slot b ob q n hb hx
 ·exact⟨ob.slots,u.keep b ob q n hb hx⟩
theorem Un.kept(k:∀b u,h.get? b=some u->h'.get? b=some u):Un fs ex H H h h' :=
 ⟨fun b ob q _ _ _=>k b ob q,fun b ob q _ _ _=>⟨ob.slots,k b ob q⟩,fun _ _ _ n _=>n,fun b ob q _=>⟨ob,k b ob q⟩,fun _ _ q=>q,fun _ _ _ q=>q,fun _ ps q=>⟨#[],by rw[q];simp⟩⟩
theorem Un.refl:Un fs ex H H h h:=Un.kept fun _ _ q=>q
theorem Un.laid(k:∀b u,h.get? b=some u->h'.get? b=some u)(hp:h.objs.size<=a)(hn:H a=none):Un fs ex H (upd H a o) h h' where
 keep:=fun b u q _ _ _=>k b u q
 slot:=fun b u q _ _ _=>⟨u.slots,k b u q⟩
 free:=fun b u q n _=>by rw[aM (Yf (Yb (Heap.lt_size q) hp))];exact n
 there:=fun b u q _=>⟨u,k b u q⟩
 tups:=fun b xs q=>by rw[aM (aU q hn)];exact q
 frzs:=fun b u xs q=>by rw[aM (aU q hn)];exact q
 tbls:=fun b ps q=>⟨#[],by rw[aM (aU q hn),q];simp⟩
theorem Un.write(mu:Mut (H x))(he:e=x∨H e=some (.own x))(k:∀b u,b≠e->h.get? b=some u->h'.get? b=some u)(heo:∃u,h'.get? e=some u):Un fs ex H (upd H x o) h h':=by
 have hx:∀b,H b=none->b≠x:=fun b n z=>by subst z;rw[n]at mu;exact mu
 have hb:∀b,H b=none->b≠e:=fun b n z=>by
  subst z;rcases he with r|r
  ·exact hx b n r
  ·rw[n]at r;cases r
 have hm:∀b u,H b=some u->¬ Mut (some u)->b≠x:=fun b u q nm z=>by subst z;rw[q]at mu;exact nm mu
 refine⟨fun b u q n _ _=>k b u (hb b n) q,fun b u q n _ _=>⟨u.slots,k b u (hb b n) q⟩,fun b u q n _=>by rw[aM (hx b n)];exact n,fun b u q _=>?_,
  fun b xs q=>by rw[aM (hm b _ q fun z=>z)];exact q,fun b u xs q=>by rw[aM (hm b _ q fun z=>z)];exact q,fun b ps q=>⟨#[],by rw[aM (hm b _ q fun z=>z),q];simp⟩⟩
 by_cases hbe:b=e
 ·subst hbe;exact heo
 ·exact⟨u,k b u hbe q⟩
end
noncomputable def trk(h:Heap)(H:Hp):List Addr:=(List.range h.objs.size).filter fun a=>(H a).isSome
noncomputable def lU(h:Heap)(H:Hp):Heap:=PySem.W.hideAll h (trk h H)
theorem qF(h:Heap)(H:Hp):(lU h H).objs.size=h.objs.size:=PySem.W.hideAll_size _ _
theorem rE{h:Heap}{H:Hp}{b:Addr}{o:Obj}(e:h.get? b=some o)(n:H b=none):(lU h H).get? b=some o :=
 PySem.W.hideAll_get _ e fun hm=>by
  have q:(H b).isSome=true:=(List.mem_filter.mp hm).2;rw[n]at q;simp at q
theorem ul{h:Heap}{H:Hp}{b:Addr}{o:Obj}(e:(lU h H).get? b=some o):h.get? b=some o/\H b=none:=by
 have e':h.get? b=some o:=PySem.W.of_hideAll (trk h H) e;refine⟨e',?_⟩;cases q:H b with
 | none=>rfl
 | some x =>
  have hm:b∈trk h H:=List.mem_filter.mpr ⟨List.mem_range.mpr (Heap.lt_size e'),by simp[q]⟩
  have z:(lU h H).get? b=none:=PySem.W.hideAll_none (trk h H) hm;rw[z]at e;cases e
end L2
namespace L2
open PySem PySem.Spec PyProof.Rows
structure Mod(K:PySem.W.Frag)(mg:Str->Option Value)(base:Heap):Prop where
 kin:K.In base
 glob:base.Ns mainGlobals mg
 blt:∃mb,base.Ns builtinsNs mb/\∀x:Str,x≠"__name__"->mb x=bootBuiltins x
 nolimit:base.NoLimit
structure Cx where
 prog:Program
 w:World
 K:PySem.W.Frag
 mg:Str->Option Value
 base:Heap
 A:Around
 N:List Str
 s₀:Shared
 H₀:Hp
 env:Env
 outer:List Env
 stack:List Env
 ex:List Addr
 fn:Str->Bool
 calm:Bool
 pn:List (Addr×Obj)
 xe:Value->Shared->Prop
noncomputable def frs(l:List Env):List Addr:=l.filterMap (·.frame)
noncomputable abbrev Cx.fs(X:Cx):List Addr:=frs X.outer
noncomputable def Vis(sc:Scope)(x:Str):Prop:=sc.names.lookup x=some .local∨sc.names.lookup x=some .cell∨sc.names.lookup x=some .free
noncomputable def Loc(sc:Scope)(x:Str):Prop:=sc.names.lookup x=some .local∨sc.names.lookup x=some .cell
noncomputable def Look(env:Env)(h:Heap)(m:Str->Option Value)(x:Str)(u:Value):Prop :=
 (env.kindOf x=some .local/\m x=some u)∨((env.kindOf x=some .cell∨env.kindOf x=some .free)/\∃c,env.cells.lookup x=some c/\h.IsCell c (some u))
structure Cx.Ok(X:Cx):Prop where
 mod:Mod X.K X.mg X.base
 kind:X.env.scope.kind=.function
 glob:X.env.globals=mainGlobals
 blt:X.env.builtins=builtinsNs
 above:X.s₀.heap.objs.size<=X.env.locals
 inj:∀x y c,X.env.cells.lookup x=some c->X.env.cells.lookup y=some c->x=y
 has:∀x,(X.env.kindOf x=some .cell∨X.env.kindOf x=some .free)->∃c,X.env.cells.lookup x=some c
 cab:∀x c,X.fn x=true->X.env.cells.lookup x=some c->X.s₀.heap.objs.size<=c
 hd:X.calm=true->X.A.handled=none
 frames:X.A.frames=some X.stack
 stk:X.stack=X.outer∨(X.stack=X.env::X.outer/\X.env.frame=some X.env.locals)
 exf:∀b∈X.ex,b≠X.env.locals/\∀x c,X.env.cells.lookup x=some c->c≠b
 bs:∀b o,X.base.get? b=some o->X.s₀.heap.get? b=some o/\X.H₀ b=none
 bsz:X.base.objs.size<=X.s₀.heap.objs.size
 noex:∀b o,X.base.get? b=some o->b∉X.ex
 exfs:∀b∈X.ex,b∉X.fs
 funs:X.s₀.heap.FunFrames X.base X.outer
 frf:∀b∈X.fs,X.H₀ b=none
structure Inv(X:Cx)(pins:List (Addr×Obj))(σ:List (Option V))(H:Hp)(s:Shared):Prop where
 ok:X.Ok
 os:s.os=X.s₀.os
 bare:AllBare s.gens
 base:Un X.fs X.ex X.H₀ H X.s₀.heap s.heap
 loc:∃m,s.heap.Ns X.env.locals m/\∀(i:Nat)(x:Str)(v:V),X.N[i]?=some x->σ[i]?=some (some v)->Vis X.env.scope x->∃u,RelV v u/\Look X.env s.heap m x u
 cell:∀x c,X.env.cells.lookup x=some c->∃v,s.heap.IsCell c v
 free:H X.env.locals=none
 freeC:∀x c,X.env.cells.lookup x=some c->H c=none
 pin:∀p∈X.pn++pins,s.heap.get? p.1=some p.2/\H p.1=none/\p.1≠X.env.locals/\p.1∉X.fs/\∀v,p.2.data≠.cell v
 hok:HOk X.prog X.w H s.heap
 len:σ.length=X.N.length
 tk:0<s.toks
theorem Inv.tkl'{X:Cx}{pins:List (Addr×Obj)}{σ:List (Option V)}{H:Hp}{s:Shared}{n:Nat}(I:Inv X pins σ H s)(h:s.toks<=n):0<n:=Yb I.tk h
theorem Inv.tkl{X:Cx}{pins:List (Addr×Obj)}{σ:List (Option V)}{H:Hp}{s:Shared}{n:Nat}(h:s.toks<=n)(I:Inv X pins σ H s):0<n:=Yb I.tk h
section
variable {X:Cx}{pins:List (Addr×Obj)}{σ:List (Option V)}{H H':Hp}{s:Shared}{h':Heap}
theorem Cx.Ok.nofr(ok:X.Ok){b:Addr}{o:Obj}(e:X.base.get? b=some o):b∉X.fs:=fun hb=>by
 have:=(ok.funs.mem hb).1;rw[e]at this;cases this
theorem Inv.bs(I:Inv X pins σ H s):∀b o,X.base.get? b=some o->s.heap.get? b=some o/\H b=none:=fun b o e =>
 ⟨I.base.keep b o (I.ok.bs b o e).1 (I.ok.bs b o e).2 (I.ok.nofr e) (I.ok.noex b o e),I.base.free b o (I.ok.bs b o e).1 (I.ok.bs b o e).2 (I.ok.noex b o e)⟩
theorem Inv.bk(I:Inv X pins σ H s):∀b o,X.base.get? b=some o->s.heap.get? b=some o:=fun b o e=>(I.bs b o e).1
theorem Inv.mod(I:Inv X pins σ H s):Mod X.K X.mg X.base:=I.ok.mod
theorem Inv.kIn(I:Inv X pins σ H s):X.K.In s.heap:=I.ok.mod.kin.keeps I.bk
theorem Inv.lt(I:Inv X pins σ H s):X.env.locals<s.heap.objs.size:=let ⟨_,hn,_⟩:=I.loc;hn.lt
theorem Inv.sz(I:Inv X pins σ H s):X.s₀.heap.objs.size<=s.heap.objs.size:=Wb I.ok.above (Nat.le_of_lt I.lt)
theorem Inv.nofs(I:Inv X pins σ H s){a:Addr}(h:s.heap.objs.size<=a):a∉X.fs:=fun hb=>by
 obtain⟨_,o,ho,_⟩:=I.ok.funs.mem hb;exact absurd (Yb (Heap.lt_size ho) (Wb I.sz h)) (Zf _)
theorem Inv.cne(I:Inv X pins σ H s):∀x c,X.env.cells.lookup x=some c->c≠X.env.locals:=fun x c e z=>by
 obtain⟨v,o,ho,hd⟩:=I.cell x c e;obtain⟨m,⟨o',es,ep,ho',hd',_⟩,_⟩:=I.loc;rw[z,ho']at ho;cases ho;rw[hd']at hd;cases hd
theorem Inv.funs(I:Inv X pins σ H s):s.heap.FunFrames X.base X.outer:=by
 have all:∀(l:List Env),(∀b∈frs l,b∈X.fs)->X.s₀.heap.FunFrames X.base l->s.heap.FunFrames X.base l:=by
  intro l;induction l with
  | nil=>intro _ _;trivial
  | cons env r ih =>
   intro hs hl;obtain⟨hk,⟨L,o,hf,hn,ho,hd⟩,hr⟩:=hl;have hL:L∈X.fs:=hs L (by unfold frs;rw[List.filterMap_cons,hf];exact Xb)
   obtain⟨sl,e⟩:=I.base.slot L o ho (I.ok.frf L hL) hL fun z=>I.ok.exfs L z hL;exact⟨hk,⟨L,_,hf,hn,e,hd⟩,ih (fun b hb=>hs b (by unfold frs;rw[List.filterMap_cons,hf];exact Va _ hb)) hr⟩
 exact all X.outer (fun _ hb=>hb) I.ok.funs
theorem Inv.stack(I:Inv X pins σ H s):s.heap.FunFrames X.base X.stack:=by
 rcases I.ok.stk with e|⟨e,hf⟩
 ·rw[e];exact I.funs
 ·rw[e];obtain⟨m,hn,_⟩:=I.loc;refine .cons (by rw[I.ok.kind];decide) hf hn ?_ I.funs
  exact Heap.get?_none_of_le (Wb I.ok.bsz I.ok.above)
theorem Inv.stkSub(I:Inv X pins σ H s):∀b∈frs X.stack,b∈X.env.locals::X.fs:=fun b hb=>by
 rcases I.ok.stk with e|⟨e,hf⟩
 ·rw[e]at hb;exact Va _ hb
 ·rw[e]at hb;unfold frs at hb;rw[List.filterMap_cons,hf]at hb;exact hb
theorem Inv.stkFree(I:Inv X pins σ H s):∀b∈frs X.stack,H b=none:=fun b hb=>by
 rcases Xd.mp (I.stkSub b hb) with e|hb
 ·rw[e];exact I.free
 ·obtain⟨_,o,ho,_⟩:=I.ok.funs.mem hb;exact I.base.free b o ho (I.ok.frf b hb) fun z=>I.ok.exfs b z hb
theorem Inv.step{g':Array GenState}{t':Nat}{d':Drawn}{ch:List Addr}(I:Inv X pins σ H s)
  (hch:∀b∈ch,(b∈X.ex∨X.s₀.heap.objs.size<=b)/\b≠X.env.locals/\(∀x c,X.env.cells.lookup x=some c->c≠b)/\∀p∈X.pn++pins,p.1≠b)
  (keep:∀b o,b≠X.env.locals->b∉X.fs->b∉ch->s.heap.get? b=some o->H b=none->h'.get? b=some o)
  (slot:∀b o,b≠X.env.locals->b∈X.fs->b∉ch->s.heap.get? b=some o->H b=none->∃sl,h'.get? b=some { o with slots:=sl }) (free:∀b o,b∉ch->s.heap.get? b=some o->H b=none->H' b=none)
  (there:∀b o,b∉ch->s.heap.get? b=some o->∃o',h'.get? b=some o')
  (tups:∀b xs,H b=some (.tup xs)->H' b=some (.tup xs)) (frzs:∀b o u,H b=some (.frz o u)->H' b=some (.frz o u)) (tbls:∀b ps,H b=some (.tbl ps)->∃more,H' b=some (.tbl (ps++more)))
  (ns:∀m,s.heap.Ns X.env.locals m->h'.Ns X.env.locals m) (hok:HOk X.prog X.w H' h') (hg:AllBare g') (ht:0<t':=by first|assumption|exact Xf _|exact Inv.tk (by assumption)|exact Inv.tkl (by assumption) (by assumption)|lia) :
  Inv X pins σ H' { s with heap:=h',gens:=g',drawn:=d',toks:=t' }:=by
 have neL:∀b o,X.s₀.heap.get? b=some o->b≠X.env.locals:=fun b o e=>Yf (Yb (Heap.lt_size e) I.ok.above);have neC:∀b o,X.s₀.heap.get? b=some o->b∉X.ex->b∉ch:=fun b o e hx hb=>by
  rcases(hch b hb).1 with z|z
  ·exact hx z
  ·exact absurd (Yb (Heap.lt_size e) z) (Zf _)
 have cellK:∀x c,X.env.cells.lookup x=some c->∀v,s.heap.IsCell c v->h'.IsCell c v:=fun x c e v ⟨o,ho,hd⟩=>by
  have nch:c∉ch:=fun z=>(hch c z).2.2.1 x c e rfl;by_cases hc:c∈X.fs
  ·obtain⟨sl,q⟩:=slot c o (I.cne x c e) hc nch ho (I.freeC x c e);exact⟨_,q,hd⟩
  ·exact⟨o,keep c o (I.cne x c e) hc nch ho (I.freeC x c e),hd⟩
 refine⟨I.ok,I.os,hg,⟨fun b o e n hb hx=>?_,fun b o e n hb hx=>?_,fun b o e n hx=>?_,fun b o e hx=>?_,fun b xs e=>tups b xs (I.base.tups b xs e),fun b o xs e=>frzs b o xs (I.base.frzs b o xs e),fun b ps e=>?_⟩,?_,fun x c e=>?_,?_,fun x c e=>?_,fun p hp=>?_,hok,I.len,ht⟩
 ·exact keep b o (neL b o e) hb (neC b o e hx) (I.base.keep b o e n hb hx) (I.base.free b o e n hx)
 ·obtain⟨sl,e1⟩:=I.base.slot b o e n hb hx;obtain⟨sl',e2⟩:=slot b _ (neL b o e) hb (neC b o e hx) e1 (I.base.free b o e n hx);exact⟨sl',e2⟩
 ·obtain⟨o',e1⟩:=I.base.there b o e hx;exact free b o' (neC b o e hx) e1 (I.base.free b o e n hx)
 ·obtain⟨o',e1⟩:=I.base.there b o e hx;exact there b o' (neC b o e hx) e1
 ·obtain⟨m1,e1⟩:=I.base.tbls b ps e;obtain⟨m2,e2⟩:=tbls b _ e1;exact⟨m1++m2,by rw[e2,Array.append_assoc]⟩
 ·obtain⟨m,hn,hl⟩:=I.loc;refine⟨m,ns m hn,fun i x v e1 e2 e3=>?_⟩;obtain⟨u,r,l⟩:=hl i x v e1 e2 e3;refine⟨u,r,?_⟩;rcases l with l|⟨k,c,e,z⟩
  ·exact .inl l
  ·exact .inr ⟨k,c,e,cellK x c e _ z⟩
 ·obtain⟨v,z⟩:=I.cell x c e;exact⟨v,cellK x c e v z⟩
 ·obtain⟨m,⟨o,_,_,ho,_⟩,_⟩:=I.loc;exact free _ o (fun z=>(hch _ z).2.1 rfl) ho I.free
 ·obtain⟨v,o,ho,hd⟩:=I.cell x c e;exact free c o (fun z=>(hch c z).2.2.1 x c e rfl) ho (I.freeC x c e)
 ·obtain⟨e,n,ne,nf,d⟩:=I.pin p hp;have nch:p.1∉ch:=fun z=>(hch p.1 z).2.2.2 p hp rfl;exact⟨keep p.1 p.2 ne nf nch e n,free p.1 p.2 nch e n,ne,nf,d⟩
theorem Inv.un{t':Nat}(I:Inv X pins σ H s)(u:Un X.fs [] H H' s.heap h')(hok:HOk X.prog X.w H' h')(ht:0<t':=by first|assumption|exact Xf _|exact Inv.tk (by assumption)|exact Inv.tkl (by assumption) (by assumption)|lia):Inv X pins σ H' { s with heap:=h',toks:=t' }:=by
 obtain⟨m,⟨o,es,ep,ho,r⟩,_⟩:=id I.loc;obtain⟨sl,hL⟩:=u.any ho I.free (by simp)
 exact I.step (g':=s.gens) (d':=s.drawn) (ch:=[]) (fun _ z=>nomatch z) (fun b o _ hb _ e n=>u.keep b o e n hb (by simp)) (fun b o _ hb _ e n=>u.slot b o e n hb (by simp)) (fun b o _ e n=>u.free b o e n (by simp)) (fun b o _ e=>u.there b o e (by simp)) u.tups u.frzs u.tbls (fun m' hm=>by
  obtain⟨o',es',ep',ho',r'⟩:=hm;rw[ho]at ho';cases ho'
  exact⟨_,es',ep',hL,r'⟩) hok I.bare
theorem Inv.call{g':Array GenState}{t':Nat}{d':Drawn}{ch:List Addr}(I:Inv X pins σ H s)(u:Un (frs X.stack) ch H H' s.heap h')(hok:HOk X.prog X.w H' h')(hg:AllBare g')
  (hch:∀b∈ch,(b∈X.ex∨X.s₀.heap.objs.size<=b)/\b≠X.env.locals/\(∀x c,X.env.cells.lookup x=some c->c≠b)/\∀p∈X.pn++pins,p.1≠b)(ht:0<t':=by first|assumption|exact Xf _|exact Inv.tk (by assumption)|exact Inv.tkl (by assumption) (by assumption)|lia) :
  Inv X pins σ H' { s with heap:=h',gens:=g',drawn:=d',toks:=t' }:=by
 obtain⟨m,⟨o,es,ep,ho,r⟩,_⟩:=id I.loc;obtain⟨sl,hL⟩:=u.any ho I.free fun z=>(hch _ z).2.1 rfl
 exact I.step (ch:=ch) hch (fun b o hL hb hc e n=>u.keep b o e n (fun z=>(Xd.mp (I.stkSub b z)).elim hL hb) hc) (fun b o _ _ hc e n=>u.any e n hc) (fun b o hc e n=>u.free b o e n hc) (fun b o hc e=>u.there b o e hc) u.tups u.frzs u.tbls (fun m' hm=>by
  obtain⟨o',es',ep',ho',r'⟩:=hm;rw[ho]at ho';cases ho'
  exact⟨_,es',ep',hL,r'⟩) hok hg
theorem Inv.turned{t':Nat}{it:Addr}(I:Inv X pins σ H s)(k:∀b o,b≠it->s.heap.get? b=some o->h'.get? b=some o)(hn:H it=none)(hL:it≠X.env.locals)
  (h1:it∈X.ex∨X.s₀.heap.objs.size<=it)(h2:∀x c,X.env.cells.lookup x=some c->c≠it)(h3:∀p∈X.pn++pins,p.1≠it)(ht:0<t':=by first|assumption|exact Xf _|exact Inv.tk (by assumption)|exact Inv.tkl (by assumption) (by assumption)|lia):Inv X pins σ H { s with heap:=h',toks:=t' }:=by
 have nit:∀b u,H b=some u->b≠it:=fun b u e z=>by rw[z,hn]at e;cases e
 refine I.step (g':=s.gens) (d':=s.drawn) (ch:=[it]) (fun b hb=>?_) (fun b o _ _ hc e _=>k b o (fun z=>hc (by simp[z])) e) (fun b o _ _ hc e _=>⟨o.slots,k b o (fun z=>hc (by simp[z])) e⟩) (fun _ _ _ _ n=>n)
  (fun b o hc e=>⟨o,k b o (fun z=>hc (by simp[z])) e⟩) (fun _ _ e=>e) (fun _ _ _ e=>e) (fun b ps e=>⟨#[],by rw[e];simp⟩) (fun m hm=>?_) (fun b u e=>?_) I.bare
 ·have e:b=it:=by simpa using hb
  subst e;exact⟨h1,hL,h2,h3⟩
 ·obtain⟨o,es,ep,ho,r⟩:=hm;exact⟨o,es,ep,k _ o (Ne.symm hL) ho,r⟩
 ·refine(I.hok b u e).stay (fun c v hc q=>k c v ?_ q) (fun _ q=>q) fun _ _ q=>q;rcases hc with z|z
  ·rw[z];exact nit b u e
  ·exact nit c _ z
theorem Inv.tok(I:Inv X pins σ H s)(t':Nat)(ht:0<t':=by first|assumption|exact Xf _|exact Inv.tk (by assumption)|exact Inv.tkl (by assumption) (by assumption)|lia):Inv X pins σ H { s with toks:=t' }:=I.un (h':=s.heap) (t':=t') Un.refl I.hok
theorem Inv.kept{t':Nat}(I:Inv X pins σ H s)(k:∀b u,s.heap.get? b=some u->h'.get? b=some u)(ht:0<t':=by first|assumption|exact Xf _|exact Inv.tk (by assumption)|exact Inv.tkl (by assumption) (by assumption)|lia):Inv X pins σ H { s with heap:=h',toks:=t' }:=I.un (Un.kept k) (I.hok.kept k)
theorem Inv.laid{a:Addr}{o:HO}{t':Nat}(I:Inv X pins σ H s)(k:∀b u,s.heap.get? b=some u->h'.get? b=some u)(hp:s.heap.objs.size<=a)(new:ObjOk X.prog X.w (upd H a o) h' a o)(ht:0<t':=by first|assumption|exact Xf _|exact Inv.tk (by assumption)|exact Inv.tkl (by assumption) (by assumption)|lia) :
  Inv X pins σ (upd H a o) { s with heap:=h',toks:=t' }:=I.un (Un.laid k hp (I.hok.fresh hp)) (I.hok.laid k hp new)
theorem Inv.write{x e:Addr}{o:HO}{t':Nat}(I:Inv X pins σ H s)(mu:Mut (H x))(he:e=x∨H e=some (.own x))(k:∀b u,b≠e->s.heap.get? b=some u->h'.get? b=some u)(heo:∃u,h'.get? e=some u)
  (new:ObjOk X.prog X.w (upd H x o) h' x o)(ht:0<t':=by first|assumption|exact Xf _|exact Inv.tk (by assumption)|exact Inv.tkl (by assumption) (by assumption)|lia):Inv X pins σ (upd H x o) { s with heap:=h',toks:=t' }:=I.un (Un.write mu he k heo) (I.hok.write mu he k heo new)
theorem Inv.weak{σ':List (Option V)}(I:Inv X pins σ H s)(hl:σ'.length=σ.length)(w:∀(i:Nat) v,σ'[i]?=some (some v)->σ[i]?=some (some v)):Inv X pins σ' H s :=
 ⟨I.ok,I.os,I.bare,I.base,let ⟨m,hn,hl'⟩:=I.loc;⟨m,hn,fun i x v e1 e2 e3=>hl' i x v e1 (w i v e2) e3⟩,I.cell,I.free,I.freeC,I.pin,I.hok,hl.trans I.len,I.tk⟩
theorem Inv.pins_of{pins':List (Addr×Obj)}(I:Inv X pins σ H s)(h:∀p∈pins',s.heap.get? p.1=some p.2/\H p.1=none/\p.1≠X.env.locals/\p.1∉X.fs/\∀v,p.2.data≠.cell v):Inv X pins' σ H s :=
 ⟨I.ok,I.os,I.bare,I.base,I.loc,I.cell,I.free,I.freeC,fun p hp=>(Xg.mp hp).elim (fun z=>I.pin p (List.mem_append_left _ z)) (h p),I.hok,I.len,I.tk⟩
theorem nj{N:List Str}(hN:N.Nodup){i j:Nat}{x:Str}(a:N[i]?=some x)(b:N[j]?=some x):i=j:=by
 obtain⟨h1,e1⟩:=Qc.mp a;obtain⟨h2,e2⟩:=Qc.mp b;exact(List.getElem_inj hN).mp (e1.trans e2.symm)
theorem kU{M:Model}{A:Around}{E:Value->Shared->Prop}{i:Nat}{x:Str}{v:V}{u:Value}{Q:Unit->Shared->Prop}(I:Inv X pins σ H s)(hN:X.N.Nodup)(hi:X.N[i]?=some x)(hx:Loc X.env.scope x)(r:RelV v u)
  (h:∀s',Inv X pins (σ.set i (some v)) H s'->(∃a,Heap.SameBut a s.heap s'.heap/\(a=X.env.locals∨X.env.cells.lookup x=some a))->(∃m,s'.heap.Ns X.env.locals m/\Look X.env s'.heap m x u)->Q () s')(hf:X.fn x=true∨X.env.scope.names.lookup x=some .local:=by first|exact .inl rfl|exact .inr rfl|assumption):wpAny M A (storeName X.env x u) Q E s:=by
 obtain⟨m,hn,hl⟩:=id I.loc;have hcls:(X.env.scope.kind == .class||(X.env.scope.kind == .module&&X.env.locals != X.env.globals))=false:=by rw[I.ok.kind];rfl
 have hiσ:i<σ.length:=by rw[I.len];exact(Qc.mp hi).1
 have cne:=I.cne;have tracked:∀{a:Addr}{h':Heap},(∃o,s.heap.get? a=some o/\H a=none)->Heap.SameBut a s.heap h'->HOk X.prog X.w H h':=fun {a h'} ha hs b ob e=>by
  obtain⟨_,_,hfree⟩:=ha;refine(I.hok b ob e).stay (fun c w' hc q=>(hs.2 c ?_).trans q) (fun _ q=>q) fun _ _ q=>q;rintro rfl;rcases hc with rfl|hc
  ·rw[hfree]at e;cases e
  ·rw[hfree]at hc;cases hc
 rcases hx with hk|hk
 ·refine wpAny_storeName_local hk hn (fun h' hn' hs=>?_) hcls;obtain⟨oL,_,_,hoL,_⟩:=id hn;refine h _ ⟨I.ok,I.os,I.bare,⟨fun b o e n hb hx=>?_,fun b o e n hb hx=>?_,I.base.free,fun b o e hx=>?_,I.base.tups,I.base.frzs,I.base.tbls⟩,⟨_,hn',fun j y v' e1 e2 e3=>?_⟩,fun y c e=>?_,I.free,I.freeC,fun p hp=>?_,tracked ⟨oL,hoL,I.free⟩ hs,by simpa using I.len,Xf _⟩ ⟨_,hs,.inl rfl⟩ ⟨_,hn',.inl ⟨hk,by simp⟩⟩
  ·exact(hs.2 b (Yf (Yb (Heap.lt_size e) I.ok.above))).trans (I.base.keep b o e n hb hx)
  ·obtain⟨sl,e1⟩:=I.base.slot b o e n hb hx;exact⟨sl,(hs.2 b (Yf (Yb (Heap.lt_size e) I.ok.above))).trans e1⟩
  ·obtain⟨o',e1⟩:=I.base.there b o e hx;exact⟨o',(hs.2 b (Yf (Yb (Heap.lt_size e) I.ok.above))).trans e1⟩
  ·by_cases hj:j=i
   ·subst hj;rw[hi]at e1;cases e1;rw[List.getElem?_set_self hiσ]at e2;cases e2;exact⟨u,r,.inl ⟨hk,by simp⟩⟩
   ·rw[List.getElem?_set_ne (Ne.symm hj)]at e2;obtain⟨u',r',q⟩:=hl j y v' e1 e2 e3;refine⟨u',r',?_⟩;rcases q with⟨k,e⟩|⟨k,c,e,z⟩
    ·refine .inl ⟨k,?_⟩;have:y≠x:=fun e=>hj (nj hN e1 (e ▸ hi));simp[this,e]
    ·exact .inr ⟨k,c,e,z.sameBut hs (cne y c e)⟩
  ·obtain⟨w',z⟩:=I.cell y c e;exact⟨w',z.sameBut hs (cne y c e)⟩
  ·obtain⟨e,n,ne,nf,d⟩:=I.pin p hp;exact⟨(hs.2 p.1 ne).trans e,n,ne,nf,d⟩
 ·have hfn:X.fn x=true:=by
   rcases hf with z|z
   ·exact z
   ·rw[z]at hk;cases hk
  obtain⟨c,hc⟩:=I.ok.has x (.inl hk);obtain⟨w',z⟩:=I.cell x c hc;refine wpAny_storeName_cell I.ok.kind hk hc z (fun h' hc' hs=>?_);obtain⟨oc,hoc,hocd⟩:=id z;refine h { s with heap:=h' } ⟨I.ok,I.os,I.bare,⟨fun b o e n hb hx=>?_,fun b o e n hb hx=>?_,I.base.free,fun b o e hx=>?_,I.base.tups,I.base.frzs,I.base.tbls⟩,⟨m,hn.sameBut hs (Ne.symm (cne x c hc)),fun j y v' e1 e2 e3=>?_⟩,fun y c' e=>?_,I.free,I.freeC,fun p hp=>?_,tracked ⟨oc,hoc,I.freeC x c hc⟩ hs,by simpa using I.len,I.tk⟩ ⟨c,hs,.inr hc⟩ ⟨m,hn.sameBut hs (Ne.symm (cne x c hc)),.inr ⟨.inl hk,c,hc,hc'⟩⟩
  ·exact(hs.2 b (Yf (Yb (Heap.lt_size e) (I.ok.cab x c hfn hc)))).trans (I.base.keep b o e n hb hx)
  ·obtain⟨sl,e1⟩:=I.base.slot b o e n hb hx;exact⟨sl,(hs.2 b (Yf (Yb (Heap.lt_size e) (I.ok.cab x c hfn hc)))).trans e1⟩
  ·obtain⟨o',e1⟩:=I.base.there b o e hx;exact⟨o',(hs.2 b (Yf (Yb (Heap.lt_size e) (I.ok.cab x c hfn hc)))).trans e1⟩
  ·by_cases hj:j=i
   ·subst hj;rw[hi]at e1;cases e1;rw[List.getElem?_set_self hiσ]at e2;cases e2;exact⟨u,r,.inr ⟨.inl hk,c,hc,hc'⟩⟩
   ·rw[List.getElem?_set_ne (Ne.symm hj)]at e2;obtain⟨u',r',q⟩:=hl j y v' e1 e2 e3;refine⟨u',r',?_⟩;rcases q with q|⟨k,c',e,z'⟩
    ·exact .inl q
    ·refine .inr ⟨k,c',e,z'.sameBut hs ?_⟩;rintro rfl;exact hj (nj hN e1 (I.ok.inj _ _ _ e hc ▸ hi))
  ·by_cases hcc:c'=c
   ·subst hcc;exact⟨_,hc'⟩
   ·obtain⟨w2,z2⟩:=I.cell y c' e;exact⟨w2,z2.sameBut hs hcc⟩
  ·obtain⟨e,n,ne,nf,d⟩:=I.pin p hp;refine⟨(hs.2 p.1 ?_).trans e,n,ne,nf,d⟩;intro q;rw[q,hoc]at e;have q':oc=p.2:=Option.some.inj e;exact d w' (by rw[← q'];exact hocd)
theorem nk{M:Model}{A:Around}{E:Value->Shared->Prop}{i:Nat}{x:Str}{v:V}{u:Value}{Q:Unit->Shared->Prop}(I:Inv X pins σ H s)(hN:X.N.Nodup)(hi:X.N[i]?=some x)(hx:Loc X.env.scope x)(r:RelV v u)
  (h:∀s',Inv X pins (σ.set i (some v)) H s'->Q () s')(hf:X.fn x=true∨X.env.scope.names.lookup x=some .local:=by first|exact .inl rfl|exact .inr rfl|assumption):wpAny M A (storeName X.env x u) Q E s :=
 kU I hN hi hx r (fun s' I' _ _=>h s' I') hf
theorem Inv.call'{s':Shared}{ch:List Addr}(I:Inv X pins σ H s)(ho:s'.os=s.os)(u:Un (frs X.stack) ch H H' s.heap s'.heap)(hok:HOk X.prog X.w H' s'.heap)(hg:AllBare s'.gens)
  (hch:∀b∈ch,(b∈X.ex∨X.s₀.heap.objs.size<=b)/\b≠X.env.locals/\(∀x c,X.env.cells.lookup x=some c->c≠b)/\∀p∈X.pn++pins,p.1≠b)(ht:0<s'.toks):Inv X pins σ H' s':=by
 obtain⟨h',g',d',t',o'⟩:=s';have e:o'=s.os:=ho;subst e;exact I.call (g':=g') (t':=t') (d':=d') u hok hg hch ht
end
noncomputable abbrev XK:=Value->Option Addr->Hp->Prop
noncomputable abbrev St:=List (Option V)
noncomputable abbrev VK:=V->Hp->Prop
noncomputable abbrev TE:=St->Hp->VK->Prop
noncomputable abbrev TT:=St->Hp->(Bool->Hp->Prop)->Prop
noncomputable abbrev TA:=St->Hp->(List V->Hp->Prop)->Prop
structure Ends where
 nx:St->Hp->Prop
 rt:VK
 bk:St->Hp->Prop:=fun _ _=>False
 ct:St->Hp->Prop:=fun _ _=>False
noncomputable abbrev TS:=Ends->St->Hp->Prop
inductive EP(X:Cx)(pins:List (Addr×Obj))(σ:St)(Q:VK)(u:Value)(s':Shared):Prop
 | mk (v:V) (H':Hp) (I:Inv X pins σ H' s') (r:RelV v u) (q:Q v H')
noncomputable def TP(X:Cx)(pins:List (Addr×Obj))(σ:St)(Q:Bool->Hp->Prop)(b:Bool)(s':Shared):Prop:=∃H',Inv X pins σ H' s'/\Q b H'
inductive AP(X:Cx)(pins:List (Addr×Obj))(σ:St)(Q:List V->Hp->Prop)(us:List Value)(s':Shared):Prop
 | mk (vs:List V) (H':Hp) (I:Inv X pins σ H' s') (r:Vals vs us) (q:Q vs H')
noncomputable def SP(X:Cx)(pins:List (Addr×Obj))(D:Ends)(f:Flow)(s':Shared):Prop :=
 match f with
 | .next=>∃σ' H',Inv X pins σ' H' s'/\D.nx σ' H'
 | .brk=>∃σ' H',Inv X pins σ' H' s'/\D.bk σ' H'
 | .cont=>∃σ' H',Inv X pins σ' H' s'/\D.ct σ' H'
 | .ret u=>∃v σ' H',Inv X pins σ' H' s'/\RelV v u/\D.rt v H'
noncomputable def PE(X:Cx)(e:Expr)(t:TE):Prop :=
 ∀(pins:List (Addr×Obj))(s:Shared)(σ:St)(H:Hp)(Q:VK),Inv X pins σ H s->t σ H Q->wpAny (model X.prog X.w) X.A (eval e X.env) (EP X pins σ Q) X.xe s
noncomputable def PT(X:Cx)(e:Expr)(t:TT):Prop :=
 ∀(pins:List (Addr×Obj))(s:Shared)(σ:St)(H:Hp)(Q:Bool->Hp->Prop),Inv X pins σ H s->t σ H Q->wpAny (model X.prog X.w) X.A (isTrue e X.env (eval e X.env)) (TP X pins σ Q) X.xe s
noncomputable def PW(X:Cx)(e:Expr)(t:TT):Prop :=
 ∀(whole:Sem Value)(pins:List (Addr×Obj))(s:Shared)(σ:St)(H:Hp)(Q:Bool->Hp->Prop),Inv X pins σ H s->t σ H Q->wpAny (model X.prog X.w) X.A (isTrue e X.env whole) (TP X pins σ Q) X.xe s
theorem PW.pt{X:Cx}{e:Expr}{t:TT}(h:PW X e t):PT X e t:=h _
noncomputable def PA(X:Cx)(es:List Expr)(t:TA):Prop :=
 ∀(pos:Pos)(pins:List (Addr×Obj))(s:Shared)(σ:St)(H:Hp)(Q:List V->Hp->Prop),Inv X pins σ H s->t σ H Q->wpAny (model X.prog X.w) X.A (spliced (backTo pos (starEach es X.env))) (AP X pins σ Q) X.xe s
noncomputable def PS(X:Cx)(st:Stmt)(t:TS):Prop :=
 ∀(pins:List (Addr×Obj))(s:Shared)(σ:St)(H:Hp)(D:Ends),Inv X pins σ H s->t D σ H->wpAny (model X.prog X.w) X.A (exec st X.env) (SP X pins D) X.xe s
noncomputable def PSs(X:Cx)(st:List Stmt)(t:TS):Prop :=
 ∀(pins:List (Addr×Obj))(s:Shared)(σ:St)(H:Hp)(D:Ends),Inv X pins σ H s->t D σ H->wpAny (model X.prog X.w) X.A (execs st X.env) (SP X pins D) X.xe s
theorem thn{α:Type}{t:Sem α}{Q Q':α->Shared->Prop}{M:Model}{A:Around}{E:Value->Shared->Prop}{s:Shared}(h:wpAny M A t Q E s)(hQ:∀a s,Q a s->Q' a s):wpAny M A t Q' E s:=wpAny_mono h hQ fun _ _ x=>x
end L2
namespace L2
open PySem PySem.Spec PyProof.Rows
section
variable {X:Cx}
noncomputable def oA(i:Nat):TE:=fun σ H Q=>∃v,σ[i]?=some (some v)/\Q v H
noncomputable def tC(v:V):TE:=fun _ H Q=>Q v H
theorem wl{i:Nat}{x:Str}{pos:Pos}(hN:X.N[i]?=some x)(hv:Vis X.env.scope x)(hd:(x == ("__debug__":Str))=false:=by decide)(hcd:(x == ("__classdict__":Str))=false:=by decide):PE X (.Name x pos) (oA i):=by
 intro pins s σ H Q I h;obtain⟨v,e,h⟩:=h;obtain⟨m,hn,hl⟩:=I.loc;obtain⟨u,r,l⟩:=hl i x v hN e hv;have fin:EP X pins σ Q u s:=⟨v,H,I,r,h⟩;rcases l with⟨hk,hm⟩|⟨hk,c,hc,hcell⟩
 ·exact wpAny_Name (wpAny_loadName_local I.ok.kind hk hn hm fin) hd
 ·rcases hk with hk|hk
  ·exact wpAny_Name (wpAny_loadName_cell I.ok.kind hk hc hcell fin) hd
  ·exact wpAny_Name (wpAny_loadName_free I.ok.kind hk hc hcell fin hcd) hd
theorem ai{i j pos}:PE X (.Constant (.int i) j pos) (tC (.int i)):=fun _ _ _ H _ I h=>wpAny_Constant_int ⟨.int i,H,I.tok _,⟨_,rfl⟩,h⟩
theorem gH{b j pos}:PE X (.Constant (.bool b) j pos) (tC (.bl b)):=fun _ _ _ H _ I h=>Constant_bool ⟨.bl b,H,I,rfl,h⟩
theorem rF{j pos}:PE X (.Constant .none j pos) (tC .non):=fun _ _ _ H _ I h=>Constant_none ⟨.non,H,I,rfl,h⟩
theorem aD{x j pos}:PE X (.Constant (.str x) j pos) (tC (.str x)):=fun _ _ _ H _ I h=>Calls.Constant_str ⟨.str x,H,I.tok _,⟨_,rfl⟩,h⟩
noncomputable def Gl(X:Cx)(x:Str):Prop:=X.env.kindOf x=some .globalImplicit
theorem jF{E:Value->Shared->Prop}{pins:List (Addr×Obj)}{s:Shared}{σ:St}{H:Hp}{x:Str}{u:Value}{pos:Pos}{Q:Value->Shared->Prop}(I:Inv X pins σ H s)(hg:Gl X x)(hm:X.mg x=some u)(h:Q u s)
  (hd:(x == ("__debug__":Str))=false:=by decide):wpAny (model X.prog X.w) X.A (eval (.Name x pos) X.env) Q E s :=
 Calls.Name_function_global I.ok.kind hg (Calls.loadGlobal_global (by rw[I.ok.glob];exact I.mod.glob.keeps I.bk) hm h) hd
theorem lV{E:Value->Shared->Prop}{pins:List (Addr×Obj)}{s:Shared}{σ:St}{H:Hp}{x:Str}{u:Value}{pos:Pos}{Q:Value->Shared->Prop}(I:Inv X pins σ H s)(hg:Gl X x)(hm:X.mg x=none)(hv:bootBuiltins x=some u)(h:Q u s)
  (hn:x≠"__name__":=by decide)(hd:(x == ("__debug__":Str))=false:=by decide):wpAny (model X.prog X.w) X.A (eval (.Name x pos) X.env) Q E s:=by
 obtain⟨mb,h1,h2⟩:=I.mod.blt;exact Calls.Name_function_global I.ok.kind hg (Calls.loadGlobal_builtin (by rw[I.ok.glob];exact I.mod.glob.keeps I.bk) hm (by rw[I.ok.blt];exact h1.keeps I.bk) ((h2 x hn).trans hv) h) hd
theorem pH{x:Str}{v:V}{u:Value}{pos:Pos}(hg:Gl X x)(hm:X.mg x=some u)(r:RelV v u)(hd:(x == ("__debug__":Str))=false:=by decide):PE X (.Name x pos) (tC v) :=
 fun _ _ _ H _ I h=>jF I hg hm ⟨v,H,I,r,h⟩ hd
theorem um{x:Str}{v:V}{u:Value}{pos:Pos}(hg:Gl X x)(hm:X.mg x=none)(hv:bootBuiltins x=some u)(r:RelV v u)(hn:x≠"__name__":=by decide)(hd:(x == ("__debug__":Str))=false:=by decide):PE X (.Name x pos) (tC v) :=
 fun _ _ _ H _ I h=>lV I hg hm hv ⟨v,H,I,r,h⟩ hn hd
variable {a b:Expr}{ta tb:TE}{pos:Pos}
noncomputable def tB(t:TE):TT:=fun σ H Q=>t σ H fun x H1=>∃c,x=.bl c/\Q c H1
theorem bP{e:Expr}{t:TE}(h:PE X e t)(he:∀whole,isTrue e X.env whole=(do let v ← whole;standAt e.pos;holding [v] (truthy v)):=by intro _;rfl):PT X e (tB t):=by
 intro pins s σ H Q I hw;refine isTrue_plain (thn (h pins s σ H _ I hw) fun v s1 zz9=>?_) (he _);obtain⟨x,H1,I1,r1,q1⟩:=zz9;obtain⟨d,rfl,q⟩:=q1;cases r1;exact wpAny_truthy_bool ⟨H1,I1,q⟩
variable {tA tB':TT}{rest:List Expr}
noncomputable def x8(t u:TT):TT:=fun σ H Q=>t σ H fun c H1=>if c=true then u σ H1 Q else Q false H1
noncomputable def tOr(t u:TT):TT:=fun σ H Q=>t σ H fun c H1=>if c=true then Q true H1 else u σ H1 Q
noncomputable def x9(t:TT):TT:=fun σ H Q=>t σ H fun c H1=>Q (!c) H1
theorem lW(ha:PT X a tA):PW X (.BoolOp .And [a] pos) tA:=by
 intro wh pins s σ H Q I h;refine isTrue_and (thn (ha pins s σ H Q I h) fun c s1 e=>?_);cases c with
 | true=>exact isTrue_and_nil e
 | false=>exact e
theorem fv(ha:PT X a tA):PW X (.BoolOp .Or [a] pos) tA:=by
 intro wh pins s σ H Q I h;refine isTrue_or (thn (ha pins s σ H Q I h) fun c s1 e=>?_);cases c with
 | false=>exact isTrue_or_nil e
 | true=>exact e
theorem oB(ha:PT X a tA)(hb:PW X (.BoolOp .And (b::rest) pos) tB'):PW X (.BoolOp .And (a::b::rest) pos) (x8 tA tB'):=by
 intro wh pins s σ H Q I h;refine isTrue_and (thn (ha pins s σ H _ I h) fun c s1 zz9=>?_);obtain⟨H1,I1,q1⟩:=zz9;cases c with
 | true=>exact hb wh pins s1 σ H1 Q I1 q1
 | false=>exact⟨H1,I1,q1⟩
theorem gI(ha:PT X a tA)(hb:PW X (.BoolOp .Or (b::rest) pos) tB'):PW X (.BoolOp .Or (a::b::rest) pos) (tOr tA tB'):=by
 intro wh pins s σ H Q I h;refine isTrue_or (thn (ha pins s σ H _ I h) fun c s1 zz9=>?_);obtain⟨H1,I1,q1⟩:=zz9;cases c with
 | true=>exact⟨H1,I1,q1⟩
 | false=>exact hb wh pins s1 σ H1 Q I1 q1
theorem cw(ha:PT X a tA):PT X (.UnaryOp .Not a pos) (x9 tA):=by
 intro pins s σ H Q I h;exact isTrue_not (ha pins s σ H (fun c H1=>Q (!c) H1) I h)
noncomputable def vt(ta tb:TE):TE:=fun σ H Q=>ta σ H fun x H1=>∃c,x=.bl c/\if c=true then tb σ H1 Q else Q (.bl false) H1
theorem jO{op}{t:TE}(h:PE X a t):PE X (.BoolOp op [a] pos) t:=fun pins s σ H Q I hw=>BoolOp_one (h pins s σ H Q I hw)
theorem iS(ha:PE X a ta)(hb:PE X (.BoolOp .And (b::rest) pos) tb):PE X (.BoolOp .And (a::b::rest) pos) (vt ta tb):=by
 intro pins s σ H Q I h;refine BoolOp_and (thn (ha pins s σ H _ I h) fun v s1 zz9=>?_);obtain⟨x,H1,I1,r1,q1⟩:=zz9;obtain⟨c,rfl,q1⟩:=q1;cases r1;refine wpAny_truthy_bool ?_;cases c with
 | true=>exact hb pins s1 σ H1 Q I1 q1
 | false=>exact⟨.bl false,H1,I1,rfl,q1⟩
noncomputable def tIf(t:TT)(ta tb:TE):TE:=fun σ H Q=>t σ H fun c H1=>if c=true then ta σ H1 Q else tb σ H1 Q
theorem nl{c:Expr}(hc:PT X c tA)(ha:PE X a ta)(hb:PE X b tb):PE X (.IfExp c a b pos) (tIf tA ta tb):=by
 intro pins s σ H Q I h;refine wpAny_IfExp (thn (hc pins s σ H _ I h) fun d s1 zz9=>?_);obtain⟨H1,I1,q1⟩:=zz9;cases d with
 | true=>exact ha pins s1 σ H1 Q I1 q1
 | false=>exact hb pins s1 σ H1 Q I1 q1
end
end L2
namespace L2
open PySem PySem.Spec PyProof.Rows
noncomputable def SqL(K:PySem.W.Frag)(H:Hp)(a:Addr)(xs:List V):Prop :=
 Rd H a (.lst xs) ∨
  ∃(o:Obj)(its:Array Value)(n:Nat),K.lookup a=some o/\o.cls=.type "list"/\o.dict=none/\o.data=.seq its n/\its.size<=sizeLine/\Vals xs its.toList
noncomputable def SqT(K:PySem.W.Frag)(H:Hp)(a:Addr)(xs:List V):Prop :=
 Rd H a (.tup xs) ∨
  ∃(o:Obj)(its:Array Value)(n:Nat),K.lookup a=some o/\o.cls=.type "tuple"/\o.data=.seq its n/\its.size<=sizeLine/\Vals xs its.toList
noncomputable def zw:Value->Option V
 | .none=>some .non
 | .bool b=>some (.bl b)
 | .int i _=>some (.int i)
 | .str x _=>some (.str x)
 | .bytes b _=>some (.byt b)
 | .float b _=>some (.flt b)
 | .ref a=>some (.ref a)
 | .type n=>some (.ty n)
 | _=>none
theorem RelV.abs{x:V}{u:Value}(r:RelV x u):zw u=some x:=by
 cases x with
 | non=>cases r;rfl
 | bl _=>cases r;rfl
 | int _=>obtain⟨t,rfl⟩:=r;rfl
 | str _=>obtain⟨t,rfl⟩:=r;rfl
 | byt _=>obtain⟨t,rfl⟩:=r;rfl
 | flt _=>obtain⟨t,rfl⟩:=r;rfl
 | ref _=>cases r;rfl
 | ty _=>cases r;rfl
theorem RelV.inj{x y:V}{u:Value}(r:RelV x u)(q:RelV y u):x=y:=Option.some.inj (r.abs.symm.trans q.abs)
theorem Vals.inj:∀{xs ys:List V}{us:List Value},Vals xs us->Vals ys us->xs=ys
 | _,_,_,.nil,.nil=>rfl
 | _,_,_,.cons r t,.cons r' t'=>by rw[r.inj r',Vals.inj t t']
section
variable {X:Cx}{pins:List (Addr×Obj)}{σ:St}{H:Hp}{s:Shared}{a:Addr}{xs ys:List V}
theorem Inv.list(I:Inv X pins σ H s)(h:SqL X.K H a xs):∃its:List Value,Vals xs its/\PlainL s.heap a its.toArray/\xs.length<=sizeLine:=by
 rcases h with h|⟨o,its,n,hk,hc,hd,hs,hz,r⟩
 ·obtain⟨z,its,n,r,e⟩:=h.ok I.hok;exact⟨its,r,⟨_,n,e,rfl,rfl,rfl⟩,z⟩
 ·refine⟨its.toList,r,⟨o,n,I.kIn a o hk,hc,hd,by simpa using hs⟩,?_⟩
  have e:=r.length;simp only[Qg]at e;lia
theorem Inv.tuple(I:Inv X pins σ H s)(h:SqT X.K H a xs):∃its:List Value,Vals xs its/\IsTup s.heap a its.toArray/\xs.length<=sizeLine:=by
 rcases h with h|⟨o,its,n,hk,hc,hs,hz,r⟩
 ·obtain⟨z,its,r,p⟩:=h.ok I.hok;exact⟨its,r,p,z⟩
 ·refine⟨its.toList,r,⟨o,I.kIn a o hk,hc,n,by simpa using hs⟩,?_⟩
  have e:=r.length;simp only[Qg]at e;lia
theorem Inv.list_inj(I:Inv X pins σ H s)(h:SqL X.K H a xs)(h':SqL X.K H a ys):xs=ys:=by
 obtain⟨its,r,⟨o,n,e,_,_,d⟩,_⟩:=I.list h;obtain⟨its',r',⟨o',n',e',_,_,d'⟩,_⟩:=I.list h';rw[e]at e';cases e';rw[d]at d';injection d' with d1 _;have:its=its':=by simpa using congrArg Array.toList d1
 subst this;exact r.inj r'
theorem Inv.tuple_inj(I:Inv X pins σ H s)(h:SqT X.K H a xs)(h':SqT X.K H a ys):xs=ys:=by
 obtain⟨its,r,⟨o,e,_,n,d⟩,_⟩:=I.tuple h;obtain⟨its',r',⟨o',e',_,n',d'⟩,_⟩:=I.tuple h';rw[e]at e';cases e';rw[d]at d';injection d' with d1 _;have:its=its':=by simpa using congrArg Array.toList d1
 subst this;exact r.inj r'
end
noncomputable abbrev Cx.wish(X:Cx)(E:Value->Shared->Prop):Cx:={ X with xe:=E }
noncomputable abbrev Cx.nox(X:Cx):Cx:=X.wish fun _ _=>False
theorem Cx.Ok.wish{X:Cx}(ok:X.Ok)(E:Value->Shared->Prop):(X.wish E).Ok :=
 ⟨ok.mod,ok.kind,ok.glob,ok.blt,ok.above,ok.inj,ok.has,ok.cab,ok.hd,ok.frames,ok.stk,ok.exf,ok.bs,ok.bsz,ok.noex,ok.exfs,ok.funs,ok.frf⟩
theorem Cx.Ok.unwish{X:Cx}{E:Value->Shared->Prop}(ok:(X.wish E).Ok):X.Ok :=
 ⟨ok.mod,ok.kind,ok.glob,ok.blt,ok.above,ok.inj,ok.has,ok.cab,ok.hd,ok.frames,ok.stk,ok.exf,ok.bs,ok.bsz,ok.noex,ok.exfs,ok.funs,ok.frf⟩
section
variable {X:Cx}{pins:List (Addr×Obj)}{σ:St}{H:Hp}{s:Shared}{E:Value->Shared->Prop}
theorem Inv.wish(I:Inv X pins σ H s)(E:Value->Shared->Prop):Inv (X.wish E) pins σ H s:=⟨I.ok.wish E,I.os,I.bare,I.base,I.loc,I.cell,I.free,I.freeC,I.pin,I.hok,I.len,I.tk⟩
theorem Inv.unwish(I:Inv (X.wish E) pins σ H s):Inv X pins σ H s:=⟨I.ok.unwish,I.os,I.bare,I.base,I.loc,I.cell,I.free,I.freeC,I.pin,I.hok,I.len,I.tk⟩
theorem SP.unwish{D:Ends}{f:Flow}{s':Shared}(h:SP (X.wish E) pins D f s'):SP X pins D f s':=by
 cases f with
 | next=>obtain⟨σ',H',I,q⟩:=h;exact⟨σ',H',I.unwish,q⟩
 | brk=>obtain⟨σ',H',I,q⟩:=h;exact⟨σ',H',I.unwish,q⟩
 | cont=>obtain⟨σ',H',I,q⟩:=h;exact⟨σ',H',I.unwish,q⟩
 | ret u=>obtain⟨v,σ',H',I,r,q⟩:=h;exact⟨v,σ',H',I.unwish,r,q⟩
theorem PSs.nox{st:List Stmt}{t:TS}(h:PSs X.nox st t):PSs X st t:=fun pins s σ H D I hw =>
 wpAny_mono (h pins s σ H D (I.wish _) hw) (fun _ _ q=>q.unwish) fun _ _ z=>False.elim z
end
section
variable {X:Cx}{st:Stmt}{rest:List Stmt}{t u:TS}{e:Expr}{te:TE}{pos:Pos}
noncomputable def vv:TS:=fun D σ H=>D.nx σ H
noncomputable def ya(t u:TS):TS:=fun D σ H=>t { D with nx:=u D } σ H
theorem aN:PSs X [] vv:=fun _ _ σ H _ I h=>wpAny_execs_nil ⟨σ,H,I,h⟩
theorem ae(h1:PS X st t)(h2:PSs X rest u):PSs X (st::rest) (ya t u):=by
 intro pins s σ H D I h;refine wpAny_execs_cons (thn (h1 pins s σ H { D with nx:=u D } I h) fun f s1 q=>?_);cases f with
 | next =>
  obtain⟨σ',H',I',q⟩:=q;exact h2 pins s1 σ' H' D I' q
 | ret v=>exact q
 | brk=>exact q
 | cont=>exact q
theorem ak(h1:PS X st t):PSs X [st] t:=by
 intro pins s σ H D I h;refine wpAny_execs_cons (thn (h1 pins s σ H D I h) fun f s1 q=>?_);cases f with
 | next=>exact wpAny_execs_nil q
 | ret v=>exact q
 | brk=>exact q
 | cont=>exact q
theorem Inv.quiet{pins:List (Addr×Obj)}{σ:St}{H:Hp}{s:Shared}(I:Inv X pins σ H s):interactive X.env=false:=by simp[interactive,I.ok.kind]
noncomputable def vw(te:TE):TS:=fun D σ H=>te σ H fun _ H1=>D.nx σ H1
theorem bZ(he:PE X e te)(hs:swapsWith e none pos.line X.env=pure false:=by rfl):PS X (.Expr e pos) (vw te):=by
 intro pins s σ H D I h;exact wpAny_Expr_any (thn (he pins s σ H _ I h) fun v s1 ⟨x,H1,I1,r1,q1⟩=>⟨σ,H1,I1,q1⟩) I.quiet hs
noncomputable def yb(te:TE):TS:=fun D σ H=>te σ H D.rt
theorem aI(he:PE X e te):PS X (.Return (some e) pos) (yb te):=by
 intro pins s σ H D I h;exact wpAny_Return_some (thn (he pins s σ H _ I h) fun v s1 ⟨x,H1,I1,r1,q1⟩=>⟨x,σ,H1,I1,r1,q1⟩)
noncomputable def yc(c:TT)(t u:TS):TS:=fun D σ H=>c σ H fun b H1=>if b=true then t D σ H1 else u D σ H1
theorem bp{c:Expr}{a b:List Stmt}{tc:TT}(hc:PT X c tc)(ha:PSs X a t)(hb:PSs X b u):PS X (.If c a b pos) (yc tc t u):=by
 intro pins s σ H D I h;refine wpAny_If (thn (hc pins s σ H _ I h) fun d s1 zz9=>?_);obtain⟨H1,I1,q1⟩:=zz9;cases d with
 | true=>exact ha pins s1 σ H1 D I1 q1
 | false=>exact hb pins s1 σ H1 D I1 q1
noncomputable def rG:TS:=fun _ _ _=>False
theorem fw:PS X st rG:=fun _ _ _ _ _ _ h=>h.elim
end
noncomputable abbrev TG:=V->St->Hp->(St->Hp->Prop)->Prop
noncomputable abbrev TGs:=List V->St->Hp->(St->Hp->Prop)->Prop
noncomputable def PG(X:Cx)(target:Expr)(t:TG):Prop :=
 ∀(pins:List (Addr×Obj))(s:Shared)(σ:St)(H:Hp)(v:V)(u:Value)(Q:St->Hp->Prop),Inv X pins σ H s->RelV v u->t v σ H Q ->
  wpAny (model X.prog X.w) X.A (assign target X.env u) (fun _ s'=>∃σ' H',Inv X pins σ' H' s'/\Q σ' H') X.xe s
noncomputable def PGs(X:Cx)(ts:List Expr)(t:TGs):Prop :=
 ∀(pins:List (Addr×Obj))(s:Shared)(σ:St)(H:Hp)(vs:List V)(us:List Value)(Q:St->Hp->Prop),Inv X pins σ H s->Vals vs us->t vs σ H Q ->
  wpAny (model X.prog X.w) X.A (assignInOrder ((assignEach ts X.env).map (·.2)) us) (fun _ s'=>∃σ' H',Inv X pins σ' H' s'/\Q σ' H') X.xe s
noncomputable abbrev qG:=V->V->V->Hp->(Hp->Prop)->Prop
noncomputable def wm(X:Cx)(t:qG):Prop :=
 ∀(pins:List (Addr×Obj))(s:Shared)(σ:St)(H:Hp)(o i v:V)(ov iv u:Value)(Q:Hp->Prop),Inv X pins σ H s->RelV o ov->RelV i iv->RelV v u->t o i v H Q ->
  wpAny (model X.prog X.w) X.A (setItem ov iv u) (fun _ s'=>∃H',Inv X pins σ H' s'/\Q H') X.xe s
section
variable {X:Cx}{pos:Pos}
noncomputable def nq(i:Nat):TG:=fun v σ H Q=>Q (σ.set i (some v)) H
theorem pI{i:Nat}{x:Str}(hN:X.N.Nodup)(hi:X.N[i]?=some x)(hx:Loc X.env.scope x)(hf:X.fn x=true∨X.env.scope.names.lookup x=some .local:=by first|exact .inl rfl|exact .inr rfl|assumption):PG X (.Name x pos) (nq i):=by
 intro pins s σ H v u Q I r h;exact wpAny_assign_Name (nk I hN hi hx r (fun s' I'=>⟨_,H,I',h⟩) hf)
noncomputable def yd:TGs:=fun vs σ H Q=>vs=[]/\Q σ H
noncomputable def vx(t:TG)(u:TGs):TGs:=fun vs σ H Q=>∃v r,vs=v::r/\t v σ H fun σ' H'=>u r σ' H' Q
theorem uo:PGs X [] yd:=by
 intro pins s σ H vs us Q I r h;obtain⟨e,h⟩:=h;subst e;cases r;exact assignInOrder_nil ⟨σ,H,I,h⟩
theorem nr{e:Expr}{es:List Expr}{t:TG}{u:TGs}(h1:PG X e t)(h2:PGs X es u)
  (hs:(assignEach (e::es) X.env).map (·.2)=assign e X.env::(assignEach es X.env).map (·.2):=by rfl):PGs X (e::es) (vx t u):=by
 intro pins s σ H vs us Q I r h;obtain⟨v,vr,e1,h⟩:=h;subst e1;cases r with
 | cons r rr =>
  rw[hs];refine assignInOrder_cons (thn (h1 pins s σ H _ _ _ I r h) fun _ s1 zz9=>?_);obtain⟨σ1,H1,I1,q1⟩:=zz9;exact h2 pins s1 σ1 H1 _ _ Q I1 rr q1
noncomputable def wn(K:PySem.W.Frag)(n:Nat)(t:TGs):TG:=fun v σ H Q=>∃a xs,v=.ref a/\SqT K H a xs/\xs.length=n/\t xs σ H Q
theorem wo{es:List Expr}{k:Nat}{t:TGs}{n:Nat}(hc:X.calm=true)(h:PGs X es t)
  (hn:(assignEach es X.env).length=n:=by rfl)(hst:(assignEach es X.env).findIdx? (·.1)=none:=by rfl):PG X (.Tuple es k pos) (wn X.K n t):=by
 intro pins s σ H v u Q I r hw;obtain⟨a,xs,e1,hq,hl,hw⟩:=hw;subst e1;cases r;obtain⟨its,rv,ht,hz⟩:=I.tuple hq;refine assign_Tuple_tuple (I.ok.hd hc) ht (by simp[hn,← hl,rv.length]) hst fun h' hx=>?_
 have I1:Inv X pins σ H { s with heap:=h' }:=I.kept (t':=s.toks) fun b o e=>hx b o (Yf (Heap.lt_size e)) e;exact h pins _ σ H xs _ Q I1 (by simpa using rv) hw
noncomputable def ye(to ti:TE)(t:qG):TG:=fun v σ H Q=>to σ H fun o H1=>ti σ H1 fun i H2=>t o i v H2 fun H3=>Q σ H3
theorem gU{o i:Expr}{to ti:TE}{t:qG}(ho:PE X o to)(hi:PE X i ti)(hs:wm X t)
  (ha:∀v,assign (.Subscript o i pos) X.env v=(do
   let ov ← holding [v] (eval o X.env)
   let iv ← holding [v,ov] (eval i X.env)
   standAt pos
   holding [v,ov,iv] (setItem ov iv v)
   release [v,ov,iv] []):=by intro _;rfl):PG X (.Subscript o i pos) (ye to ti t):=by
 intro pins s σ H v u Q I r h;rw[ha];refine wpAny_bind (wpAny_holding (thn (ho pins s σ H _ I h) fun ov s1 zz9=>?_));obtain⟨x,H1,I1,r1,q1⟩:=zz9;refine wpAny_bind (wpAny_holding (thn (hi pins s1 σ H1 _ I1 q1) fun iv s2 zz9=>?_));obtain⟨y,H2,I2,r2,q2⟩:=zz9;refine wpAny_bind (wpAny_standAt (wpAny_bind (wpAny_holding (thn (hs pins s2 σ H2 x y v ov iv u _ I2 r1 r2 r q2) fun _ s3 zz9=>?_))));obtain⟨H3,I3,q3⟩:=zz9;exact wpAny_release ⟨σ,H3,I3,q3⟩
noncomputable def uq(te:TE)(g:TG):TS:=fun D σ H=>te σ H fun x H1=>g x σ H1 D.nx
theorem fz{tg e:Expr}{te:TE}{g:TG}(he:PE X e te)(hg:PG X tg g)(hs:swapsWithSole [tg] e pos.line X.env=pure false:=by rfl)(hw:swappedStores [tg] e X.env=pure none:=by rfl)
  (h1:(assignEach [tg] X.env).map (·.2)=[assign tg X.env]:=by rfl):PS X (.Assign [tg] e pos) (uq te g):=by
 intro pins s σ H D I h;refine wpAny_Assign_stores (thn (he pins s σ H _ I h) fun v s1 zz9=>?_) hs hw;obtain⟨x,H1,I1,r1,q1⟩:=zz9;rw[h1];exact thn (hg pins s1 σ H1 x v _ I1 r1 q1) fun _ s2 q=>q
end
section
variable {X:Cx}{pos:Pos}
noncomputable def rH(c:TT)(tb:TS):TS:=fun D σ H=>∃W:Nat->St->Hp->Prop,(∃m,W m σ H)/\∀m σ H,W m σ H ->
 c σ H fun b H1=>if b=true then ∃N:St->Hp->Prop,(∀σ' H',N σ' H'->∃m',m'<m/\W m' σ' H')/\tb { D with nx:=N,ct:=N,bk:=D.nx } σ H1 else D.nx σ H1
theorem nu{c:Expr}{body:List Stmt}{tc:TT}{tb:TS}(hp:PassesOwn (model X.prog X.w) X.A X.env X.xe)(hc:PT X c tc)(hb:PSs X body tb):PS X (.While c body [] pos) (rH tc tb):=by
 intro pins s σ H D I h;obtain⟨W,⟨m0,w0⟩,turn⟩:=h;refine wpAny_While (codeAny_whileLoop (fun n s'=>∃σ' H',Inv X pins σ' H' s'/\W n σ' H') ?_ m0 ⟨σ,H,I,w0⟩);rintro n s1 ⟨σ1,H1,I1,w1⟩;refine wpAny_passesOwn hp (thn (hc pins s1 σ1 H1 _ I1 (turn n σ1 H1 w1)) fun b s2 zz9=>?_);obtain⟨H2,I2,q2⟩:=zz9;cases b with
 | true =>
  obtain⟨N,hN,q2⟩:=q2;rw[if_pos rfl];refine wpAny_passesOwn hp (thn (hb pins s2 σ1 H2 _ I2 q2) fun f s3 q3=>?_);cases f with
  | next =>
   obtain⟨σ3,H3,I3,n3⟩:=q3;obtain⟨m',hm,w3⟩:=hN σ3 H3 n3;exact⟨m',hm,σ3,H3,I3,w3⟩
  | cont =>
   obtain⟨σ3,H3,I3,n3⟩:=q3;obtain⟨m',hm,w3⟩:=hN σ3 H3 n3;exact⟨m',hm,σ3,H3,I3,w3⟩
  | brk=>exact q3
  | ret v=>exact q3
 | false =>
  rw[if_neg Qb];exact wpAny_execs_nil ⟨σ1,H2,I2,q2⟩
end
structure It where
 go:Nat->Hp->Prop
 yld:Nat->Hp->V->Hp->Prop
 stop:Nat->Hp->Prop
noncomputable def kM(X:Cx)(pins:List (Addr×Obj))(H:Hp)(b:Addr):Prop :=
 H b=none/\b≠X.env.locals/\b∉X.fs/\(b∈X.ex∨X.s₀.heap.objs.size<=b)/\(∀x c,X.env.cells.lookup x=some c->c≠b)/\∀p∈X.pn++pins,p.1≠b
theorem Inv.fpOk{X:Cx}{pins:List (Addr×Obj)}{σ:St}{H H':Hp}{s:Shared}{b:Addr}(I:Inv X pins σ H s)(hb:s.heap.objs.size<=b)(hn:H' b=none):kM X pins H' b:=by
 refine⟨hn,Wk (Yb I.lt hb),I.nofs hb,.inr (Wb I.sz hb),fun x c e z=>?_,fun p hp z=>?_⟩
 ·obtain⟨v,q⟩:=I.cell x c e;exact absurd (Yb q.lt (by rw[z];exact hb)) (Zf _)
 ·exact absurd (Yb (Heap.lt_size (I.pin p hp).1) (by rw[z];exact hb)) (Zf _)
structure Turn(P:Program)(w:World)(K:PySem.W.Frag)(tg:Expr)(J:It)(fp:List Addr)(it:Addr)(tn:Nat->Heap->Prop):Prop where
 mem:it∈fp
 obj:∀i h,tn i h->∀b∈fp,∃o,h.get? b=some o/\∀v,o.data≠.cell v
 keep:∀i h h',tn i h->(∀b∈fp,∀o,h.get? b=some o->h'.get? b=some o)->tn i h'
 item:∀(X:Cx),X.prog=P->X.w=w->X.K=K->X.calm=true->∀(i:Nat)(pins:List (Addr×Obj))(s:Shared)(σ:St)(H:Hp)(E:Value->Shared->Prop),Inv X pins σ H s->(∀b∈fp,kM X pins H b)->tn i s.heap->J.go i H ->
  wpAny (model P w) X.A (pyNext (.ref it)) (fun r s1=>∃u,r=some u /\
   wpAny (model P w) X.A (letOwnedTupleGo tg (.ref it) u) (fun _ s2=>∃x H',Inv X pins σ H' s2/\RelV x u/\J.yld i H x H'/\tn (i+1) s2.heap/\∀b∈fp,H' b=none) E s1) E s
 done:∀(X:Cx),X.prog=P->X.w=w->X.K=K->X.calm=true->∀(i:Nat)(pins:List (Addr×Obj))(s:Shared)(σ:St)(H:Hp)(E:Value->Shared->Prop),Inv X pins σ H s->(∀b∈fp,kM X pins H b)->tn i s.heap->J.stop i H ->
  wpAny (model P w) X.A (pyNext (.ref it)) (fun r s1=>r=none/\Inv X pins σ H s1) E s
 self:∀(A:Around)(i:Nat)(s:Shared)(Q:Value->Shared->Prop)(E:Value->Shared->Prop),tn i s.heap->Q (.ref it) s->wpAny (model P w) A (pyIter (.ref it)) Q E s
noncomputable abbrev TI:=St->Hp->(It->Hp->Prop)->Prop
inductive PIE(X:Cx)(pins:List (Addr×Obj))(σ:St)(tg:Expr)(R:It->Hp->Prop)(itv:Value)(s2:Shared):Prop
 | mk (it:Addr) (fp:List Addr) (tn:Nat->Heap->Prop) (J:It) (H':Hp) (e:itv=.ref it) (I:Inv X pins σ H' s2) (T:Turn X.prog X.w X.K tg J fp it tn) (t0:tn 0 s2.heap) (fo:∀b∈fp,kM X pins H' b) (r:R J H')
noncomputable def PI(X:Cx)(tg iter:Expr)(wi:TI):Prop :=
 ∀(pins:List (Addr×Obj))(s:Shared)(σ:St)(H:Hp)(R:It->Hp->Prop),Inv X pins σ H s->wi σ H R ->
  wpAny (model X.prog X.w) X.A (eval iter X.env) (fun v s1=>wpAny (model X.prog X.w) X.A (pyIter v) (PIE X pins σ tg R) X.xe s1) X.xe s
theorem kW{M : Model}{A : Around}{E : Value → Shared → Prop}{s : Shared}{tg : Expr}{it : Addr}{u : Value}{o : Obj}{n : String}{vs : Array Value}{Q : Unit → Shared → Prop}(ho : s.heap.get? it = some o)(hc : o.cls = .type n)(hd : o.data = .fields vs)
    (hn : ["enumerate", "zip", "dict_itemiterator", "dict_reverseitemiterator", "odict_iterator", "itertools.zip_longest", "itertools.pairwise"].contains n = false)(hQ : Q () s) : wpAny M A (letOwnedTupleGo tg (.ref it) u) Q E s := by
  unfold letOwnedTupleGo;cases tg <;> first
    | exact wpAny_pure hQ
    | (cases u <;> first
        | exact wpAny_pure hQ
        | (refine wpAny_bind (wpAny_load ho ?_)
           rw [hc, hd];show wpAny M A (if (["enumerate", "zip", "dict_itemiterator", "dict_reverseitemiterator", "odict_iterator", "itertools.zip_longest", "itertools.pairwise"].contains n && vs[0]? == some (rawInt _)) = true then _ else _) Q E s;rw [if_neg (by intro h; rw [hn, Bool.false_and] at h; cases h)]
           exact wpAny_pure hQ))
noncomputable def Itl(K:PySem.W.Frag)(a:Addr):It :=
 ⟨fun i H=>∃xs x,SqL K H a xs/\xs[i]?=some x,fun i H x H'=>H'=H/\∀xs,SqL K H a xs->xs[i]?=some x,fun i H=>∃xs,SqL K H a xs/\xs.length<=i⟩
noncomputable def Itt(K:PySem.W.Frag)(a:Addr):It :=
 ⟨fun i H=>∃xs x,SqT K H a xs/\xs[i]?=some x,fun i H x H'=>H'=H/\∀xs,SqT K H a xs->xs[i]?=some x,fun i H=>∃xs,SqT K H a xs/\xs.length<=i⟩
noncomputable def Itr(lo:Int)(n:Nat):It:=⟨fun i _=>i<n,fun i H x H'=>H'=H/\x=.int (lo+i),fun i _=>n<=i⟩
theorem qH{P:Program}{w:World}{K:PySem.W.Frag}{tg:Expr}(a it:Addr):Turn P w K tg (Itl K a) [it] it (fun i h=>h.IsListIter it a i) where
 mem:=by simp
 obj:=fun i h st b hb=>by
  have e:b=it:=by simpa using hb
  subst e;obtain⟨o,e,c,d⟩:=st;exact⟨o,e,fun v z=>by rw[d]at z;cases z⟩
 keep:=fun i h h' st k=>st.at fun o e=>k it (by simp) o e
 item:=by
  intro X hP hw hK hc i pins s σ H E I hf st hg;subst hP hw hK;obtain⟨xs,x,hq,hx⟩:=hg;obtain⟨its,rv,p,hz⟩:=I.list hq;obtain⟨u,hu,ru⟩:=rv.get hx;obtain⟨f0,f1,f2,f3,f4,f5⟩:=hf it (by simp)
  refine wpAny_pyNext_list_item st p.isList (x:=u) (by simpa using hu) fun h' st' sb=>?_
  have I1:Inv X pins σ H { s with heap:=h' }:=I.turned (t':=s.toks) (fun b o hb e=>(sb.2 b hb).trans e) f0 f1 f3 f4 f5;obtain⟨o,e,c,d⟩:=id st';exact⟨u,rfl,kW (s:={ s with heap:=h' }) e c d (by decide) ⟨x,H,I1,ru,⟨rfl,fun ys hy=>by rw[I.list_inj hy hq];exact hx⟩,st',fun b hb=>(hf b hb).1⟩⟩
 done:=by
  intro X hP hw hK hc i pins s σ H E I hf st hg;subst hP hw hK;obtain⟨xs,hq,hx⟩:=hg;obtain⟨its,rv,p,hz⟩:=I.list hq;obtain⟨f0,f1,f2,f3,f4,f5⟩:=hf it (by simp)
  have hl:=rv.length;exact wpAny_pyNext_list_end (I.ok.hd hc) st p.isList (by simp;lia) fun h' eb=>⟨rfl,I.turned (t':=s.toks) (fun b o hb e=>eb b o hb e) f0 f1 f3 f4 f5⟩
 self:=fun _ _ _ _ _ st h=>wpAny_pyIter_listiter st h
theorem oC{P:Program}{w:World}{K:PySem.W.Frag}{tg:Expr}(a it:Addr):Turn P w K tg (Itt K a) [it] it (fun i h=>h.IsTupleIter it a i) where
 mem:=by simp
 obj:=fun i h st b hb=>by
  have e:b=it:=by simpa using hb
  subst e;obtain⟨o,e,c,d⟩:=st;exact⟨o,e,fun v z=>by rw[d]at z;cases z⟩
 keep:=fun i h h' st k=>st.at fun o e=>k it (by simp) o e
 item:=by
  intro X hP hw hK hc i pins s σ H E I hf st hg;subst hP hw hK;obtain⟨xs,x,hq,hx⟩:=hg;obtain⟨its,rv,p,hz⟩:=I.tuple hq;obtain⟨u,hu,ru⟩:=rv.get hx;obtain⟨f0,f1,f2,f3,f4,f5⟩:=hf it (by simp)
  refine wpAny_pyNext_tuple_item st (show s.heap.IsTuple a its.toArray from p) (x:=u) (by simpa using hu) fun h' st' sb=>?_
  have I1:Inv X pins σ H { s with heap:=h' }:=I.turned (t':=s.toks) (fun b o hb e=>(sb.2 b hb).trans e) f0 f1 f3 f4 f5;obtain⟨o,e,c,d⟩:=id st';exact⟨u,rfl,kW (s:={ s with heap:=h' }) e c d (by decide) ⟨x,H,I1,ru,⟨rfl,fun ys hy=>by rw[I.tuple_inj hy hq];exact hx⟩,st',fun b hb=>(hf b hb).1⟩⟩
 done:=by
  intro X hP hw hK hc i pins s σ H E I hf st hg;subst hP hw hK;obtain⟨xs,hq,hx⟩:=hg;obtain⟨its,rv,p,hz⟩:=I.tuple hq;obtain⟨f0,f1,f2,f3,f4,f5⟩:=hf it (by simp)
  have hl:=rv.length;exact wpAny_pyNext_tuple_end (I.ok.hd hc) st (show s.heap.IsTuple a its.toArray from p) (by simp;lia) fun h' eb=>⟨rfl,I.turned (t':=s.toks) (fun b o hb e=>eb b o hb e) f0 f1 f3 f4 f5⟩
 self:=fun _ _ _ _ _ st h=>wpAny_pyIter_tupleiter st h
theorem oD{P:Program}{w:World}{K:PySem.W.Frag}{tg:Expr}(it:Addr)(lo:Int)(n:Nat):Turn P w K tg (Itr lo n) [it] it (fun i h=>IsRangeIter h it (lo+(i:Nat)*1) ((n:Int)-(i:Nat)) 1) where
 mem:=by simp
 obj:=fun i h st b hb=>by
  have e:b=it:=by simpa using hb
  subst e
  exact⟨_,st,fun v z=>by
   have z':Data.fields _=Data.cell v:=z
   cases z'⟩
 keep:=fun i h h' st k=>k it (by simp) _ st
 item:=by
  intro X hP hw hK hc i pins s σ H E I hf st hg;subst hP hw hK;obtain⟨f0,f1,f2,f3,f4,f5⟩:=hf it (by simp)
  have W:=Walks.range (prog:=X.prog) (w:=X.w) (I.ok.hd hc) it lo 1 n;refine bu (W.item i s _ _ hg st fun v h' tk hv st' kk hle=>?_);have hle:s.toks<=tk:=hle;obtain⟨t,rfl⟩:=hv;have I1:Inv X pins σ H { s with heap:=h',toks:=tk }:=I.turned (fun b o hb e=>kk b o (by simpa using hb) e) f0 f1 f3 f4 f5
  refine⟨_,rfl,kW (s:={ s with heap:=h',toks:=tk }) (n:="range_iterator") st' rfl rfl (by decide) ⟨.int (lo+i),H,I1,⟨t,?_⟩,⟨rfl,rfl⟩,st',fun b hb=>(hf b hb).1⟩⟩
  rw[Int.mul_one]
 done:=by
  intro X hP hw hK hc i pins s σ H E I hf st hg;subst hP hw hK;obtain⟨f0,f1,f2,f3,f4,f5⟩:=hf it (by simp)
  exact wpAny_pyNext_range_end (I.ok.hd hc) st (by have:n<=i:=hg;lia) fun h' eb=>⟨rfl,I.turned (t':=s.toks) (fun b o hb e=>eb b o hb e) f0 f1 f3 f4 f5⟩
 self:=fun _ _ _ _ _ st h=>wpAny_pyIter_rangeiter st h
end L2
namespace L2
open PySem PySem.Spec PyProof.Rows
section
variable {X:Cx}{tg:Expr}
noncomputable def pJ(K:PySem.W.Frag)(tl:TE):TI:=fun σ H R=>tl σ H fun x H1=>∃a,x=.ref a/\(∃xs,SqL K H1 a xs)/\R (Itl K a) H1
noncomputable def wq(K:PySem.W.Frag)(tl:TE):TI:=fun σ H R=>tl σ H fun x H1=>∃a,x=.ref a/\(∃xs,SqT K H1 a xs)/\R (Itt K a) H1
theorem ur{l:Expr}{tl:TE}(hl:PE X l tl):PI X tg l (pJ X.K tl):=by
 intro pins s σ H R I h;refine thn (hl pins s σ H _ I h) fun v s1 zz9=>?_;obtain⟨x,H1,I1,r1,q1⟩:=zz9;obtain⟨a,e,⟨xs,hq⟩,q⟩:=q1;subst e;cases r1;obtain⟨its,rv,p,hz⟩:=I1.list hq;refine wpAny_pyIter_list p.isList ?_;refine⟨s1.heap.objs.size,[s1.heap.objs.size],_,_,H1,rfl,I1.kept (t':=s1.toks) fun b o e=>Heap.get?_push_of_some _ e,qH a _,⟨_,Heap.get?_push_size _ rfl,rfl,rfl⟩,fun b hb=>?_,q⟩;have e:b=s1.heap.objs.size:=by simpa using hb
 subst e;exact I1.fpOk (Wa _) (I1.hok.fresh (Wa _))
theorem wr{l:Expr}{tl:TE}(hl:PE X l tl):PI X tg l (wq X.K tl):=by
 intro pins s σ H R I h;refine thn (hl pins s σ H _ I h) fun v s1 zz9=>?_;obtain⟨x,H1,I1,r1,q1⟩:=zz9;obtain⟨a,e,⟨xs,hq⟩,q⟩:=q1;subst e;cases r1;obtain⟨its,rv,p,hz⟩:=I1.tuple hq;refine wpAny_pyIter_tuple (show s1.heap.IsTuple a its.toArray from p) ?_;refine⟨s1.heap.objs.size,[s1.heap.objs.size],_,_,H1,rfl,I1.kept (t':=s1.toks) fun b o e=>Heap.get?_push_of_some _ e,oC a _,⟨_,Heap.get?_push_size _ rfl,rfl,rfl⟩,fun b hb=>?_,q⟩;have e:b=s1.heap.objs.size:=by simpa using hb
 subst e;exact I1.fpOk (Wa _) (I1.hok.fresh (Wa _))
theorem rJ{pins:List (Addr×Obj)}{σ:St}{H:Hp}{s:Shared}{R:It->Hp->Prop}{E:Value->Shared->Prop}{lo hi:Int}{t u v:Tok}{tk:Nat}(I:Inv X pins σ H s)(h1:-(2 ^ 62)<=lo)(h2:lo<2 ^ 62)(h3:-(2 ^ 62)<=hi)(h4:hi<2 ^ 62)(ht:0<tk)
  (q:R (Itr lo (hi-lo).toNat) H):wpAny (model X.prog X.w) X.A (pyIter (.ref s.heap.objs.size)) (PIE X pins σ tg R) E { s with heap:=s.heap.push { cls:=.type "range",data:=.fields #[.int lo t,.int hi u,.int 1 v] },toks:=tk }:=by
 refine wpAny_pyIter_range (IsRange.new ..) (small_one h1 h2 h3 h4) ?_;have I1:Inv X pins σ H { s with heap:=s.heap.push { cls:=.type "range",data:=.fields #[.int lo t,.int hi u,.int 1 v] },toks:=tk }:=I.kept fun b o e=>Heap.get?_push_of_some _ e
 refine⟨(s.heap.push { cls:=.type "range",data:=.fields #[.int lo t,.int hi u,.int 1 v] }).objs.size,[(s.heap.push { cls:=.type "range",data:=.fields #[.int lo t,.int hi u,.int 1 v] }).objs.size],_,_,H,rfl,
  I1.kept (t':=tk) fun b o e=>Heap.get?_push_of_some _ e,oD _ lo (hi-lo).toNat,?_,fun b hb=>?_,q⟩
 ·have e1:lo+((0:Nat):Int)*1=lo:=by simp
  have e2:(((hi-lo).toNat:Nat):Int)-((0:Nat):Int)=Builtin.Range.rangeSize lo hi 1:=by rw[rangeSize_one];split<;>lia
  show IsRangeIter _ _ (lo+((0:Nat):Int)*1) ((((hi-lo).toNat:Nat):Int)-((0:Nat):Int)) 1;rw[e1,e2];exact Heap.get?_push_size _ rfl
 ·have e:b=(s.heap.push { cls:=.type "range",data:=.fields #[.int lo t,.int hi u,.int 1 v] }).objs.size:=by simpa using hb
  subst e;exact I1.fpOk (Wa _) (I1.hok.fresh (Wa _))
noncomputable def vy(ta:TA):TI:=fun σ H R=>ta σ H fun vs H1=>∃j:Int,vs=[.int j]/\-(2 ^ 62)<=j/\j<2 ^ 62/\R (Itr 0 j.toNat) H1
theorem iT{a:Expr}{ta:TA}{p pos:Pos}(hg:Gl X "range")(hm:X.mg "range"=none)(ha:PA X [a] ta)(hs:starEach [a] X.env=[(false,eval a X.env)]:=by rfl):PI X tg (.Call (.Name "range" p) [a] [] pos) (vy ta):=by
 intro pins s σ H R I h;refine Call_ (lV I hg hm boot_range (PyProof.Rows.callWith_type1 (thn (ha pos pins s σ H _ I h) fun us s1 zz9=>?_) hs rfl));obtain⟨vs,H1,I1,r1,q1⟩:=zz9;obtain⟨j,e,q1,q2,q⟩:=q1;subst e;cases r1 with
 | cons r rr =>
  cases rr;obtain⟨t,rfl⟩:=r;exact call_range_1 (rJ I1 (by lia) (by lia) q1 q2 (Yb I1.tk (by first|exact Wa _|lia)) (by simpa using q))
noncomputable def yf(wi:TI)(g:TG)(tb:TS):TS:=fun D σ H=>wi σ H fun J H1=>∃W:Nat->Nat->St->Hp->Prop,(∃m,W 0 m σ H1)/\∀i m σ H,W i m σ H ->
 (J.stop i H/\D.nx σ H)∨(J.go i H/\∃N:St->Hp->Prop,(∀σ' H',N σ' H'->∃m',m'<m/\W (i+1) m' σ' H')/\∀x H',J.yld i H x H'->g x σ H' fun σ2 H2=>tb { D with nx:=N,ct:=N,bk:=D.nx } σ2 H2)
noncomputable def jP(fp:List Addr)(h:Heap):List (Addr×Obj):=fp.filterMap fun b=>(h.get? b).map fun o=>(b,o)
theorem cZ{fp:List Addr}{h:Heap}{b:Addr}{o:Obj}(hb:b∈fp)(e:h.get? b=some o):(b,o)∈jP fp h:=List.mem_filterMap.mpr ⟨b,hb,by rw[e];rfl⟩
theorem qI{fp:List Addr}{h:Heap}{p:Addr×Obj}(hp:p∈jP fp h):p.1∈fp/\h.get? p.1=some p.2:=by
 obtain⟨b,hb,e⟩:=List.mem_filterMap.mp hp;cases q:h.get? b with
 | none=>rw[q]at e;cases e
 | some o =>
  rw[q]at e;have e':(b,o)=p:=Option.some.inj e;subst e';exact⟨hb,q⟩
theorem Inv.pinned{pins:List (Addr×Obj)}{σ:St}{H:Hp}{s:Shared}{fp:List Addr}(I:Inv X pins σ H s)(hf:∀b∈fp,kM X pins H b)(ho:∀b∈fp,∃o,s.heap.get? b=some o/\∀v,o.data≠.cell v):Inv X (pins++jP fp s.heap) σ H s :=
 I.pins_of fun p hp=>(Xg.mp hp).elim (fun z=>I.pin p (Ze _ z)) fun z=>by
  obtain⟨hb,e⟩:=qI z;obtain⟨f0,f1,f2,_⟩:=hf p.1 hb;obtain⟨o,e',d⟩:=ho p.1 hb;rw[e]at e';cases e';exact⟨e,f0,f1,f2,d⟩
theorem Inv.unpinned{pins pl:List (Addr×Obj)}{σ:St}{H:Hp}{s:Shared}(I:Inv X (pins++pl) σ H s):Inv X pins σ H s:=I.pins_of fun p hp=>I.pin p (Ze _ (List.mem_append_left _ hp))
theorem fA{iter:Expr}{body:List Stmt}{wi:TI}{g:TG}{tb:TS}{pos:Pos}(hp:PassesOwn (model X.prog X.w) X.A X.env X.xe)(hc:X.calm=true)(hi:PI X tg iter wi)(hg:PG X tg g)(hb:PSs X body tb)
  (hs:∀x,foldedSetIterable iter X.env x=pure x:=by intro _;rfl):PS X (.For tg iter body [] pos) (yf wi g tb):=by
 intro pins s σ H D I h;refine wpAny_For (thn (hi pins s σ H _ I h) fun v s1 h1=>thn h1 fun itv s2 h2=>?_) hs;obtain⟨it,fp,tn,J,H2,e,I2,T,st2,f2,W,⟨m0,w0⟩,turn⟩:=h2;subst e;have stat:∀{H':Hp},(∀b∈fp,H' b=none)->∀b∈fp,kM X pins H' b:=fun hn b hb=>⟨hn b hb,(f2 b hb).2⟩;refine codeAny_forLoop_any (fun n s'=>∃i σ' H',Inv X pins σ' H' s'/\tn i s'.heap/\(∀b∈fp,H' b=none)/\W i n σ' H') ?_ m0 ⟨0,σ,H2,I2,st2,fun b hb=>(f2 b hb).1,w0⟩;rintro n s3 ⟨i,σ3,H3,I3,st3,fr3,w3⟩;rcases turn i n σ3 H3 w3 with⟨stop,qn⟩|⟨go,N,hN,step⟩
 ·refine wpAny_passesOwn hp (thn (T.done X rfl rfl rfl hc i pins s3 σ3 H3 X.xe I3 (stat fr3) st3 stop) fun r s4 zz9=>?_);obtain⟨hr,I4⟩:=zz9;subst hr;exact wpAny_execs_nil ⟨σ3,H3,I4,qn⟩
 ·refine wpAny_passesOwn hp (thn (T.item X rfl rfl rfl hc i pins s3 σ3 H3 X.xe I3 (stat fr3) st3 go) fun r s4 zz9=>?_);obtain⟨u,hr,h4⟩:=zz9;subst hr;refine wpAny_passesOwn hp (thn h4 fun _ s5 zz9=>?_);obtain⟨x,H5,I5,r5,y5,st5,fr5⟩:=zz9;have I5':=I5.pinned (stat fr5) (T.obj _ _ st5);refine wpAny_passesOwn hp (thn (hg _ s5 σ3 H5 x u _ I5' r5 (step x H5 y5)) fun _ s6 zz9=>?_);obtain⟨σ6,H6,I6,q6⟩:=zz9;refine wpAny_passesOwn hp (thn (hb _ s6 σ6 H6 _ I6 q6) fun f s7 q7=>?_);have again:∀{σ7:St}{H7:Hp},Inv X (pins++jP fp s5.heap) σ7 H7 s7->N σ7 H7->∃m,m<n/\∃i σ' H',Inv X pins σ' H' s7/\tn i s7.heap/\(∀b∈fp,H' b=none)/\W i m σ' H':=fun {σ7 H7} I7 n7=>by
   obtain⟨m',hm,w7⟩:=hN σ7 H7 n7;refine⟨m',hm,i+1,σ7,H7,I7.unpinned,T.keep _ _ _ st5 fun b hb o e=>(I7.pin (b,o) (Ze _ (Ze _ (cZ hb e)))).1,fun b hb=>?_,w7⟩;obtain⟨o,e,d⟩:=T.obj _ _ st5 b hb;exact(I7.pin (b,o) (Ze _ (Ze _ (cZ hb e)))).2.1
  cases f with
  | next=>obtain⟨σ7,H7,I7,n7⟩:=q7;exact again I7 n7
  | cont=>obtain⟨σ7,H7,I7,n7⟩:=q7;exact again I7 n7
  | brk=>obtain⟨σ7,H7,I7,q7⟩:=q7;exact⟨σ7,H7,I7.unpinned,q7⟩
  | ret v=>obtain⟨x7,σ7,H7,I7,r7,q7⟩:=q7;exact⟨x7,σ7,H7,I7.unpinned,r7,q7⟩
end
end L2
namespace L2
open PySem PySem.Spec PyProof.Rows
noncomputable abbrev R2:=V->V->Hp->VK->Prop
noncomputable def OpR(X:Cx)(f:Value->Value->Sem Value)(r:R2):Prop :=
 ∀(pins:List (Addr×Obj))(s:Shared)(σ:St)(H:Hp)(x y:V)(v u:Value)(Q:VK),Inv X pins σ H s->RelV x v->RelV y u->r x y H Q ->
  wpAny (model X.prog X.w) X.A (f v u) (EP X pins σ Q) X.xe s
noncomputable def UnR(X:Cx)(f:Value->Sem Value)(r:V->Hp->VK->Prop):Prop :=
 ∀(pins:List (Addr×Obj))(s:Shared)(σ:St)(H:Hp)(x:V)(v:Value)(Q:VK),Inv X pins σ H s->RelV x v->r x H Q ->
  wpAny (model X.prog X.w) X.A (f v) (EP X pins σ Q) X.xe s
noncomputable def CallR(X:Cx)(f:Value)(r:List V->Hp->VK->Prop):Prop :=
 ∀(pins:List (Addr×Obj))(s:Shared)(σ:St)(H:Hp)(xs:List V)(us:List Value)(Q:VK),Inv X pins σ H s->Vals xs us->r xs H Q ->
  wpAny (model X.prog X.w) X.A (call f us) (EP X pins σ Q) X.xe s
noncomputable def tOp(r:R2)(ta tb:TE):TE:=fun σ H Q=>ta σ H fun x H1=>tb σ H1 fun y H2=>r x y H2 Q
noncomputable def tUn(r:V->Hp->VK->Prop)(ta:TE):TE:=fun σ H Q=>ta σ H fun x H1=>r x H1 Q
noncomputable def rI(C:Int->Int->Prop)(g:Int->Int->V):R2:=fun x y H Q=>∃i j,x=.int i/\y=.int j/\C i j/\Q (g i j) H
noncomputable def rI0(g:Int->Int->V):R2:=fun x y H Q=>∃i j,x=.int i/\y=.int j/\Q (g i j) H
noncomputable def rU(g:Int->V):V->Hp->VK->Prop:=fun x H Q=>∃i,x=.int i/\Q (g i) H
section
variable {X:Cx}{a b c:Expr}{ta tb tc:TE}{pos:Pos}
theorem wu(ha:PE X a ta)(hb:PE X b tb){pins:List (Addr×Obj)}{s:Shared}{σ:St}{H:Hp}{R:V->V->Hp->Prop}(I:Inv X pins σ H s)
  (h:ta σ H fun x H1=>tb σ H1 fun y H2=>R x y H2){Q:Value->Shared->Prop}{f:Value->Value->Sem Value}
  (hf:∀v u s2 x y H2,Inv X pins σ H2 s2->RelV x v->RelV y u->R x y H2->wpAny (model X.prog X.w) X.A (f v u) Q X.xe s2) :
  wpAny (model X.prog X.w) X.A (eval a X.env) (fun v s₁=>wpAny (model X.prog X.w) X.A (eval b X.env) (fun u s₂=>wpAny (model X.prog X.w) X.A (f v u) Q X.xe s₂) X.xe s₁) X.xe s:=by
 refine thn (ha pins s σ H _ I h) fun v s1 zz9=>?_;obtain⟨x,H1,I1,r1,q1⟩:=zz9;refine thn (hb pins s1 σ H1 _ I1 q1) fun u s2 zz9=>?_;obtain⟨y,H2,I2,r2,q2⟩:=zz9;exact hf v u s2 x y H2 I2 r1 r2 q2
theorem bJ{op:Operator}{r:R2}(ho:OpR X (binaryOp op) r)(ha:PE X a ta)(hb:PE X b tb):PE X (.BinOp a op b pos) (tOp r ta tb):=by
 intro pins s σ H Q I h;exact wpAny_BinOp (wu ha hb I h fun v u s2 x y H2 I2 rx ry q=>ho pins s2 σ H2 x y v u Q I2 rx ry q)
theorem pK{op:UnaryOp}{r:V->Hp->VK->Prop}(ho:UnR X (unaryOp op) r)(ha:PE X a ta):PE X (.UnaryOp op a pos) (tUn r ta):=by
 intro pins s σ H Q I h;exact UnaryOp_ (thn (ha pins s σ H _ I h) fun v s1 ⟨x,H1,I1,r1,q1⟩=>ho pins s1 σ H1 x v Q I1 r1 q1)
theorem opI{f:Value->Value->Sem Value}{C:Int->Int->Prop}{g:Int->Int->Int}
  (rule:∀(i j:Int)(t u:Tok)(s:Shared)(Q:Value->Shared->Prop)(E:Value->Shared->Prop),C i j->Q (.int (g i j) s.toks) { s with toks:=s.toks+1 }->wpAny (model X.prog X.w) X.A (f (.int i t) (.int j u)) Q E s) :
  OpR X f (rI C fun i j=>.int (g i j)):=by
 intro pins s σ H x y v u Q I rx ry h;obtain⟨i,j,rfl,rfl,hc,q⟩:=h;obtain⟨t,rfl⟩:=rx;obtain⟨t',rfl⟩:=ry;exact rule i j t t' s _ _ hc ⟨.int (g i j),H,I.tok _,⟨_,rfl⟩,q⟩
theorem yg{f:Value->Value->Sem Value}{g:Int->Int->Int}
  (rule:∀(i j:Int)(t u:Tok)(s:Shared)(Q:Value->Shared->Prop)(E:Value->Shared->Prop),Q (.int (g i j) s.toks) { s with toks:=s.toks+1 }->wpAny (model X.prog X.w) X.A (f (.int i t) (.int j u)) Q E s) :
  OpR X f (rI0 fun i j=>.int (g i j)):=by
 intro pins s σ H x y v u Q I rx ry h;obtain⟨i,j,rfl,rfl,q⟩:=h;obtain⟨t,rfl⟩:=rx;obtain⟨t',rfl⟩:=ry;exact rule i j t t' s _ _ ⟨.int (g i j),H,I.tok _,⟨_,rfl⟩,q⟩
theorem ut{f:Value->Value->Sem Value}{g:Int->Int->Bool}
  (rule:∀(i j:Int)(t u:Tok)(s:Shared)(Q:Value->Shared->Prop)(E:Value->Shared->Prop),Q (.bool (g i j)) s->wpAny (model X.prog X.w) X.A (f (.int i t) (.int j u)) Q E s) :
  OpR X f (rI0 fun i j=>.bl (g i j)):=by
 intro pins s σ H x y v u Q I rx ry h;obtain⟨i,j,rfl,rfl,q⟩:=h;obtain⟨t,rfl⟩:=rx;obtain⟨t',rfl⟩:=ry;exact rule i j t t' s _ _ ⟨.bl (g i j),H,I,rfl,q⟩
noncomputable def oE(i j:Int):Prop:=0<j/\j<1073741824
noncomputable def rK(i j:Int):Prop:=0<=j/\j<=1000000/\i.natAbs<2 ^ 64
noncomputable def CMul(i j:Int):Prop:=(-(2 ^ 64)<i/\i<2 ^ 64)∨(-(2 ^ 64)<j/\j<2 ^ 64)
theorem CMul.ok{i j:Int}(h:CMul i j):IntMulOk i j:=by
 rcases h with⟨h1,h2⟩|⟨h1,h2⟩
 ·exact .of_left (intBits_le_64 h1 h2)
 ·exact .of_right (intBits_le_64 h1 h2)
theorem op_add:OpR X (binaryOp .Add) (rI0 fun i j=>.int (i+j)):=yg fun _ _ _ _ _ _ _ q=>add_int q
theorem wv:OpR X (binaryOp .Sub) (rI0 fun i j=>.int (i-j)):=yg fun _ _ _ _ _ _ _ q=>sub_int q
theorem op_mul:OpR X (binaryOp .Mult) (rI CMul fun i j=>.int (i*j)):=opI fun _ _ _ _ _ _ _ hc q=>mul_int q hc.ok
theorem ij:OpR X (binaryOp .FloorDiv) (rI oE fun i j=>.int (i / j)):=opI fun i j _ _ _ _ _ hc q=>by
 have h1:(0:Int)<j:=hc.1;have h2:j<1073741824:=hc.2;exact floordiv_int (by lia) (by rw[Int.fdiv_eq_ediv_of_nonneg i (by lia)];exact q) (.inl (PyProof.noPylong_small (by lia)))
theorem fB:OpR X (binaryOp .Mod) (rI (fun _ j=>0<j) fun i j=>.int (i % j)):=opI fun i j _ _ _ _ _ hc q=>by
 have h1:(0:Int)<j:=hc;exact mod_int' (by lia) (by rw[Int.fmod_eq_emod_of_nonneg i (by lia)];exact q)
theorem ww:OpR X (binaryOp .Pow) (rI rK fun i j=>.int (i ^ j.toNat)):=opI fun _ _ _ _ _ _ _ hc q=>pow_int_small hc.1 hc.2.1 hc.2.2 q
theorem unI{f:Value->Sem Value}{g:Int->Int}
  (rule:∀(i:Int)(t:Tok)(s:Shared)(Q:Value->Shared->Prop)(E:Value->Shared->Prop),Q (.int (g i) s.toks) { s with toks:=s.toks+1 }->wpAny (model X.prog X.w) X.A (f (.int i t)) Q E s) :
  UnR X f (rU fun i=>.int (g i)):=by
 intro pins s σ H x v Q I rx h;obtain⟨i,rfl,q⟩:=h;obtain⟨t,rfl⟩:=rx;exact rule i t s _ _ ⟨.int (g i),H,I.tok _,⟨_,rfl⟩,q⟩
theorem lY:UnR X (unaryOp .USub) (rU fun i=>.int (-i)):=unI fun _ _ _ _ _ q=>neg_int q
end
noncomputable def wx:V->V->Bool
 | .non,.non=>true|.non,.int _=>true|.int _,.non=>true|.non,.bl _=>true|.bl _,.non=>true|.non,.str _=>true|.str _,.non=>true
 | .int _,.int _=>true|.bl _,.bl _=>true|.str _,.str _=>true|.byt _,.byt _=>true
 | .int _,.str _=>true|.str _,.int _=>true|.bl _,.str _=>true|.str _,.bl _=>true
 | _,_=>false
noncomputable def rEq:R2:=fun x y H Q=>wx x y=true/\Q (.bl (decide (x=y))) H
noncomputable def rNe:R2:=fun x y H Q=>wx x y=true/\Q (.bl (!decide (x=y))) H
theorem pL{i j:Int}:decide (V.int i=V.int j)=(i == j):=by
 rw[Vi];simp
theorem rL{i j:Bool}:decide (V.bl i=V.bl j)=(i == j):=by
 rw[Vi];simp
theorem pM{i j:Str}:decide (V.str i=V.str j)=(i == j):=by
 rw[Vi];simp
theorem pN{i j:Array UInt8}:decide (V.byt i=V.byt j)=(i.toList == j.toList):=by
 rw[Vi];cases i;cases j;simp
section
variable {X:Cx}{a b c:Expr}{ta tb tc:TE}{pos:Pos}
theorem aR{pins:List (Addr×Obj)}{σ:St}{H:Hp}{s:Shared}{Q:VK}{k k':Bool}(I:Inv X pins σ H s)(q:Q (.bl k) H)(e:k=k'):EP X pins σ Q (.bool k') s:=by
 subst e;exact⟨.bl k,H,I,rfl,q⟩
theorem dC:OpR X (compareOp .Eq) rEq:=by
 intro pins s σ H x y v u Q I rx ry h;obtain⟨hs,q⟩:=h;cases x with
 | non =>
  cases rx;cases y with
  | non=>cases ry;exact PySem.EqNone.eq_none_none (aR I q (by simp))
  | bl j=>cases ry;exact PySem.EqNone.eq_none_bool (aR I q (by simp))
  | int j=>obtain⟨t',rfl⟩:=ry;exact PySem.EqNone.eq_none_int (aR I q (by simp))
  | str j=>obtain⟨t',rfl⟩:=ry;exact PySem.EqNone.eq_none_str (aR I q (by simp))
  | _=>exact absurd (show false=true from hs) Qb
 | bl i =>
  cases rx;cases y with
  | non=>cases ry;exact PySem.EqNone.eq_bool_none (aR I q (by simp))
  | bl j=>cases ry;exact eq_bool (aR I q rL)
  | str j=>obtain⟨t',rfl⟩:=ry;exact PySem.EqMixed.eq_bool_str (aR I q (by simp))
  | _=>exact absurd (show false=true from hs) Qb
 | int i =>
  obtain⟨t,rfl⟩:=rx;cases y with
  | non=>cases ry;exact PySem.EqNone.eq_int_none (aR I q (by simp))
  | int j=>obtain⟨t',rfl⟩:=ry;exact eq_int (aR I q pL)
  | str j=>obtain⟨t',rfl⟩:=ry;exact PySem.EqMixed.eq_int_str (aR I q (by simp))
  | _=>exact absurd (show false=true from hs) Qb
 | str i =>
  obtain⟨t,rfl⟩:=rx;cases y with
  | non=>cases ry;exact PySem.EqNone.eq_str_none (aR I q (by simp))
  | bl j=>cases ry;exact PySem.EqMixed.eq_str_bool (aR I q (by simp))
  | int j=>obtain⟨t',rfl⟩:=ry;exact PySem.EqMixed.eq_str_int (aR I q (by simp))
  | str j=>obtain⟨t',rfl⟩:=ry;exact eq_str (aR I q pM)
  | _=>exact absurd (show false=true from hs) Qb
 | byt i =>
  obtain⟨t,rfl⟩:=rx;cases y with
  | byt j=>obtain⟨t',rfl⟩:=ry;exact PySem.W.eq_bytes (aR I q pN)
  | _=>exact absurd (show false=true from hs) Qb
 | _=>cases y<;>exact absurd (show false=true from hs) Qb
theorem op_ne:OpR X (compareOp .NotEq) rNe:=by
 intro pins s σ H x y v u Q I rx ry h;obtain⟨hs,q⟩:=h;cases x with
 | non =>
  cases rx;cases y with
  | non=>cases ry;exact PySem.EqNone.ne_none_none (aR I q (by simp))
  | bl j=>cases ry;exact PySem.EqNone.ne_none_bool (aR I q (by simp))
  | int j=>obtain⟨t',rfl⟩:=ry;exact PySem.EqNone.ne_none_int (aR I q (by simp))
  | str j=>obtain⟨t',rfl⟩:=ry;exact PySem.EqNone.ne_none_str (aR I q (by simp))
  | _=>exact absurd (show false=true from hs) Qb
 | bl i =>
  cases rx;cases y with
  | non=>cases ry;exact PySem.EqNone.ne_bool_none (aR I q (by simp))
  | bl j=>cases ry;exact ne_bool (aR I q (congrArg not rL))
  | str j=>obtain⟨t',rfl⟩:=ry;exact PySem.EqMixed.ne_bool_str (aR I q (by simp))
  | _=>exact absurd (show false=true from hs) Qb
 | int i =>
  obtain⟨t,rfl⟩:=rx;cases y with
  | non=>cases ry;exact PySem.EqNone.ne_int_none (aR I q (by simp))
  | int j=>obtain⟨t',rfl⟩:=ry;exact ne_int (aR I q (congrArg not pL))
  | str j=>obtain⟨t',rfl⟩:=ry;exact PySem.EqMixed.ne_int_str (aR I q (by simp))
  | _=>exact absurd (show false=true from hs) Qb
 | str i =>
  obtain⟨t,rfl⟩:=rx;cases y with
  | non=>cases ry;exact PySem.EqNone.ne_str_none (aR I q (by simp))
  | bl j=>cases ry;exact PySem.EqMixed.ne_str_bool (aR I q (by simp))
  | int j=>obtain⟨t',rfl⟩:=ry;exact PySem.EqMixed.ne_str_int (aR I q (by simp))
  | str j=>obtain⟨t',rfl⟩:=ry;exact ne_str (aR I q (congrArg not pM))
  | _=>exact absurd (show false=true from hs) Qb
 | byt i =>
  obtain⟨t,rfl⟩:=rx;cases y with
  | byt j=>obtain⟨t',rfl⟩:=ry;exact PySem.W.ne_bytes (aR I q (congrArg not pN))
  | _=>exact absurd (show false=true from hs) Qb
 | _=>cases y<;>exact absurd (show false=true from hs) Qb
theorem op_lt:OpR X (compareOp .Lt) (rI0 fun i j=>.bl (decide (i<j))):=ut fun _ _ _ _ _ _ _ q=>lt_int q
theorem vz:OpR X (compareOp .LtE) (rI0 fun i j=>.bl (decide (i<=j))):=ut fun _ _ _ _ _ _ _ q=>le_int q
theorem yh:OpR X (compareOp .Gt) (rI0 fun i j=>.bl (decide (j<i))):=ut fun _ _ _ _ _ _ _ q=>gt_int q
theorem yi:OpR X (compareOp .GtE) (rI0 fun i j=>.bl (decide (j<=i))):=ut fun _ _ _ _ _ _ _ q=>ge_int q
theorem qJ:OpR X (compareOp .Lt) (fun x y H Q=>∃i j,x=.str i/\y=.str j/\Q (.bl (decide (i.cps.toList<j.cps.toList))) H):=by
 intro pins s σ H x y v u Q I rx ry h;obtain⟨i,j,rfl,rfl,q⟩:=h;obtain⟨t,rfl⟩:=rx;obtain⟨t',rfl⟩:=ry;exact lt_str (aR I q rfl)
theorem op_in_str:OpR X (compareOp .In) (fun x y H Q=>∃i j,x=.str i/\y=.str j/\Q (.bl (!(Builtin.Str.occurrences j i 0 j.length 1).isEmpty)) H):=by
 intro pins s σ H x y v u Q I rx ry h;obtain⟨i,j,rfl,rfl,q⟩:=h;obtain⟨t,rfl⟩:=rx;obtain⟨t',rfl⟩:=ry;exact in_str (aR I q rfl)
theorem rM:OpR X (compareOp .Is) (fun x y H Q=>y=.non/\Q (.bl (decide (x=.non))) H):=by
 intro pins s σ H x y v u Q I rx ry h;obtain⟨rfl,q⟩:=h;cases ry;refine is_none_gen (aR I q ?_);cases x<;>first
  | (cases rx;rfl)
  | (obtain⟨t,rfl⟩:=rx;rfl)
theorem op_notin_str:OpR X (compareOp .NotIn) (fun x y H Q=>∃i j,x=.str i/\y=.str j/\Q (.bl (!(!(Builtin.Str.occurrences j i 0 j.length 1).isEmpty))) H):=by
 intro pins s σ H x y v u Q I rx ry h;obtain⟨i,j,rfl,rfl,q⟩:=h;obtain⟨t,rfl⟩:=rx;obtain⟨t',rfl⟩:=ry;exact notIn_str (aR I q rfl)
theorem OpR.or{f:Value->Value->Sem Value}{r r':R2}(h:OpR X f r)(h':OpR X f r'):OpR X f (fun x y H Q=>r x y H Q∨r' x y H Q):=by
 intro pins s σ H x y v u Q I rx ry q;rcases q with q|q
 ·exact h pins s σ H x y v u Q I rx ry q
 ·exact h' pins s σ H x y v u Q I rx ry q
theorem rN(b:Expr){op:CmpOp}(h:op≠.In:=by decide)(h2:op≠.NotIn:=by decide):behindInMarks op b=false:=by
 have e1:(op == CmpOp.In)=false:=by cases op<;>first|rfl|exact absurd rfl h
 have e2:(op == CmpOp.NotIn)=false:=by cases op<;>first|rfl|exact absurd rfl h2
 cases b<;>simp[behindInMarks,e1,e2]
theorem lZ{op:CmpOp}{r:R2}(ho:OpR X (compareOp op) r)(ha:PE X a ta)(hb:PE X b tb)(hm:behindInMarks op b=false):PE X (.Compare a [op] [b] pos) (tOp r ta tb):=by
 intro pins s σ H Q I h;exact wpAny_Compare1 (wu ha hb I h fun v u s2 x y H2 I2 rx ry q=>ho pins s2 σ H2 x y v u Q I2 rx ry q) hm
noncomputable def pO(t:TE):TT:=fun σ H Q=>t σ H fun x H'=>∃k,x=.bl k/\Q k H'
theorem gu{op:CmpOp}{r:R2}(ho:OpR X (compareOp op) r)(ha:PE X a ta)(hb:PE X b tb)(hm:behindInMarks op b=false):PT X (.Compare a [op] [b] pos) (pO (tOp r ta tb)):=by
 intro pins s σ H Q I h
 refine wpAny_isTrue_Compare1 (thn (ha pins s σ H _ I h) fun v s1 ⟨x,H1,I1,r1,q1⟩=>thn (hb pins s1 σ H1 _ I1 q1) fun u s2 ⟨y,H2,I2,r2,q2⟩ =>
  thn (ho pins s2 σ H2 x y v u _ I2 r1 r2 q2) fun c s3 ⟨z,H3,I3,r3,k,e,q3⟩=>?_) hm
 subst e;cases r3;exact wpAny_truthy_bool ⟨H3,I3,q3⟩
noncomputable def rO(r r':R2)(ta tb tc:TE):TE:=fun σ H Q=>ta σ H fun x H1=>tb σ H1 fun y H2=>r x y H2 fun z H3=>∃k,z=.bl k /\
 (if k=true then tc σ H3 fun w' H4=>r' y w' H4 Q else Q (.bl false) H3)
theorem rP{op op':CmpOp}{r r':R2}(ho:OpR X (compareOp op) r)(ho':OpR X (compareOp op') r')(ha:PE X a ta)(hb:PE X b tb)(hc:PE X c tc)
  (hm:lastMarks [op,op'] [b,c]=false:=by with_unfolding_all rfl):PT X (.Compare a [op,op'] [b,c] pos) (pO (rO r r' ta tb tc)):=by
 intro pins s σ H Q I h
 refine isTrue_chain (thn (ha pins s σ H _ I h) fun v s1 ⟨x,H1,I1,r1,q1⟩=>test_link (thn (hb pins s1 σ H1 _ I1 q1) fun u s2 ⟨y,H2,I2,r2,q2⟩ =>
  thn (ho pins s2 σ H2 x y v u _ I2 r1 r2 q2) fun d s3 ⟨z,H3,I3,r3,k,e,q3⟩=>?_)) hm
 subst e;cases r3;refine wpAny_truthy_bool ?_;cases k with
 | false =>
  obtain⟨k',e',q'⟩:=q3;cases e';exact ite_ff ⟨H3,I3,q'⟩
 | true =>
  refine ite_tt (test_last (thn (hc pins s3 σ H3 _ I3 q3) fun w' s4 ⟨z',H4,I4,r4,q4⟩=>thn (ho' pins s4 σ H4 y z' u w' _ I4 r2 r4 q4) fun d' s5 zz9=>?_));obtain⟨z2,H5,I5,r5,k2,e2,q5⟩:=zz9;subst e2;cases r5;exact wpAny_truthy_bool ⟨H5,I5,q5⟩
theorem iU:(sizeLine:Nat)<2 ^ 63:=by rw[sizeLine_eq];decide
theorem op_add_str:OpR X (binaryOp .Add) (fun x y H Q=>∃i j,x=.str i/\y=.str j/\i.length+j.length<=sizeLine/\Q (.str (i++j)) H):=by
 intro pins s σ H x y v u Q I rx ry h;obtain⟨i,j,rfl,rfl,hz,q⟩:=h;obtain⟨t,rfl⟩:=rx;obtain⟨t',rfl⟩:=ry;exact bu (add_str (fun t' tk hle=>⟨.str (i++j),H,I.tok _ (I.tkl' hle),⟨_,rfl⟩,q⟩) hz)
theorem vals1{x:V}{us:List Value}(r:Vals [x] us):∃u,us=[u]/\RelV x u:=by
 cases r with
 | cons r1 r2=>cases r2;exact⟨_,rfl,r1⟩
theorem vals2{x y:V}{us:List Value}(r:Vals [x,y] us):∃u w',us=[u,w']/\RelV x u/\RelV y w':=by
 cases r with
 | cons r1 r2 =>
  cases r2 with
  | cons r3 r4=>cases r4;exact⟨_,_,rfl,r1,r3⟩
end
end L2
namespace L2
open PySem PySem.Spec PyProof.Rows
structure ObjM(h:Heap)(x dx C:Addr)(mA:Str->Option Value):Prop where
 obj:h.get? x=some (PySem.W.instObj C dx)
 ns:h.Ns1 dx mA
 ne:dx≠x
set_option tactic.hygienic true in
theorem qK{h:Heap}{dx:Addr}{mA:Str->Option Value}(n:h.Ns1 dx mA):∃od,h.get? dx=some od/\∀name,PySem.W.lookIn name od=some (mA name):=by
 obtain⟨o,es,ep,ho,hd,hk,_,hm⟩:=n;refine⟨o,ho,fun name=>?_⟩;have e:=hm name;unfold nsFind findBy at e;rw[← Array.find?_toList]at e;unfold PySem.W.lookIn;rw[hd];dsimp only;split
 ·rename_i y q
  rw[q]at e;exact congrArg some e
 ·rename_i q
  rw[q]at e;have a:es.toList.any (·.refKey)=false:=by
   rw[List.any_eq_false];intro y hy;obtain⟨z,t,hkey⟩:=hk y (Array.mem_toList_iff.mp hy);simp[DictEntry.refKey,hkey]
  have a':¬ es.toList.any (·.refKey)=true:=by rw[a];exact Qb
  rw[if_neg a'];exact congrArg some e
theorem ObjM.look{h:Heap}{x dx C:Addr}{mA:Str->Option Value}(I:ObjM h x dx C mA):∃od,PySem.W.InstAt h x (PySem.W.instObj C dx) C (some od)/\∀name,PySem.W.lookIn name od=some (mA name) :=
 let ⟨od,ho,hl⟩:=qK I.ns
 ⟨od,⟨I.obj,rfl,rfl,ho⟩,hl⟩
theorem RelO.some_of{v:V}{o:Option Value}(r:RelO (some v) o):∃u,o=some u/\RelV v u:=by
 cases o with
 | none=>exact(show False from r).elim
 | some u=>exact⟨u,rfl,r⟩
section
variable {P:Program}{w:World}{H H':Hp}{h h':Heap}{a C dx:Addr}{fs fs':List (Str×V)}
theorem uu(hok:HOk P w H h)(e:H a=some (.ins C dx fs)):∃mA,ObjM h a dx C mA/\(∀f,RelO (fs.lookup f) (mA f))/\PySem.Within mA (fs.map (·.1))/\fs.length<=1000/\H dx=some (.own a):=by
 obtain⟨d,z,ne,ob,mA,n,r,q⟩:=(show ObjOk P w H h a (.ins C dx fs) from hok a _ e);exact⟨mA,⟨ob,n,ne⟩,r,q,z,d⟩
end
structure Cls(K:PySem.W.Frag)(C:Addr):Prop where
 pg:PySem.W.plainGet K C Str.empty=true
 hd:PySem.W.hasDictIn K C=true
 po:PySem.W.plainOver K C=true
 sa:PySem.W.findIn K (.ref C) "__setattr__"=some (some (.builtin "object.__setattr__"))
theorem Cls.get{K:PySem.W.Frag}{C:Addr}(c:Cls K C)(f:Str):PySem.W.plainGet K C f=true:=c.pg
section
variable {X:Cx}{pins:List (Addr×Obj)}{σ:St}{H:Hp}{s:Shared}{A:Around}{E:Value->Shared->Prop}{Q:Value->Shared->Prop}{c:Value}{b:Bool}
inductive TyOf(K:PySem.W.Frag)(H:Hp):V->Value->Prop where
 | non:TyOf K H .non (.type "NoneType")
 | bl (x:Bool):TyOf K H (.bl x) (.type "bool")
 | int (i:Int):TyOf K H (.int i) (.type "int")
 | str (x:Str):TyOf K H (.str x) (.type "str")
 | flt (x:UInt64):TyOf K H (.flt x) (.type "float")
 | lst {a:Addr} {xs:List V} (e:H a=some (.lst xs)):TyOf K H (.ref a) (.type "list")
 | frz {a:Addr} {o:Obj} {xs:List V} (e:H a=some (.frz o (.lst xs))):TyOf K H (.ref a) (.type "list")
 | tup {a:Addr} {xs:List V} (e:H a=some (.tup xs)):TyOf K H (.ref a) (.type "tuple")
 | dK {a:Addr} {kvs:List (Key×V)} (e:H a=some (.dK kvs)):TyOf K H (.ref a) (.type "dict")
 | dT {a:Addr} {ep:Nat×List Addr} {kvs:List (List Key×V)} (e:H a=some (.dT ep kvs)):TyOf K H (.ref a) (.type "dict")
 | ins {a C dx:Addr} {fs:List (Str×V)} (e:H a=some (.ins C dx fs)) (cl:Cls K C) (ha:PySem.W.findIn K (.ref C) "__class__"=some (some (.builtin "object.__class__")))
   (hn:PySem.W.specialIn K (.builtin "object.__class__") "__get__"=some (some (.builtin "getset_descriptor.__get__"))) (htk:PySem.W.takesIn K (.builtin "object.__class__")=some true)
   (hm:PySem.W.mroIn K C (.type "object")=some true):TyOf K H (.ref a) (.ref C)
theorem cx{x:V}{u t:Value}(I:Inv X pins σ H s)(rx:RelV x u)(ty:TyOf X.K H x t)(e:PySem.W.kitOne X.K t c=some b)(h:∀tk,Q (.bool b) { s with toks:=tk }) :
  wpAny (model X.prog X.w) A (call (.builtin "isinstance") [u,c]) Q E s:=by
 cases ty with
 | non=>cases (show u=Value.none from rx);exact PySem.W.kia_one PySem.W.kitx_none I.kIn True.intro e (fun z=>nomatch z) h
 | bl y=>cases (show u=Value.bool y from rx);exact PySem.W.kia_one PySem.W.kitx_bool I.kIn True.intro e (fun z=>nomatch z) h
 | int i=>obtain⟨t,q⟩:=(show ∃t,u=Value.int i t from rx);cases q;exact PySem.W.kia_one PySem.W.kitx_int I.kIn True.intro e (fun z=>nomatch z) h
 | str y=>obtain⟨t,q⟩:=(show ∃t,u=Value.str y t from rx);cases q;exact PySem.W.kia_one PySem.W.kitx_str I.kIn True.intro e (fun z=>nomatch z) h
 | flt y=>obtain⟨t,q⟩:=(show ∃t,u=Value.float y t from rx);cases q;exact PySem.W.kia_one PySem.W.kitx_float I.kIn True.intro e (fun z=>nomatch z) h
 | @lst a xs ea =>
  cases (show u=Value.ref a from rx);obtain⟨_,_,n,_,h1⟩:=(show ObjOk X.prog X.w H s.heap a (.lst xs) from I.hok a _ ea);exact PySem.W.kia_one PySem.W.kitx_list I.kIn ⟨_,h1,rfl⟩ e (fun z=>nomatch z) h
 | @frz a ob xs ea =>
  cases (show u=Value.ref a from rx);obtain⟨_,_,_,n,_,h1⟩:=(show ObjOk X.prog X.w H s.heap a (.frz ob (.lst xs)) from I.hok a _ ea);exact PySem.W.kia_one PySem.W.kitx_list I.kIn ⟨_,h1,rfl⟩ e (fun z=>nomatch z) h
 | @tup a xs ea =>
  cases (show u=Value.ref a from rx);obtain⟨_,_,_,p⟩:=(show ObjOk X.prog X.w H s.heap a (.tup xs) from I.hok a _ ea);obtain⟨o,h1,h2,_⟩:=p;exact PySem.W.kia_one PySem.W.kitx_tuple I.kIn ⟨o,h1,h2⟩ e (fun z=>nomatch z) h
 | @dK a kvs ea =>
  cases (show u=Value.ref a from rx);obtain⟨_,_,vs,_,p⟩:=(show ObjOk X.prog X.w H s.heap a (.dK kvs) from I.hok a _ ea);obtain⟨o,es,ep,h1,h2,_⟩:=p;exact PySem.W.kia_one PySem.W.kitx_dict I.kIn ⟨o,h1,h2.1⟩ e (fun z=>nomatch z) h
 | @dT a ep kvs ea =>
  cases (show u=Value.ref a from rx);obtain⟨_,_,xs,_,_,o,es,h1,h2,_⟩:=(show ObjOk X.prog X.w H s.heap a (.dT ep kvs) from I.hok a _ ea);exact PySem.W.kia_one PySem.W.kitx_dict I.kIn ⟨o,h1,h2.1⟩ e (fun z=>nomatch z) h
 | @ins a C dx fs ea cl ha hn htk hm =>
  cases (show u=Value.ref a from rx);obtain⟨mA,O,_⟩:=uu I.hok ea;obtain⟨od,J,_⟩:=O.look;exact PySem.W.kia_one (PySem.W.kitx_own (cl.get _) cl.hd ha hn htk hm) I.kIn J e (fun z=>nomatch z) h
end
end L2
namespace L2
open PySem PySem.Spec PyProof.Rows
structure Room(k:Nat)(A:Around):Prop where
 hd:A.handled=none
 dp:A.depth+3*k+5<recursionLimit
 un:A.units+16*k+200<cLine
theorem Room.mono{j k:Nat}{A:Around}(r:Room k A)(h:j<=k):Room j A:=⟨r.hd,by have:=r.dp;lia,by have:=r.un;lia⟩
theorem Room.deeper{k:Nat}{A:Around}(r:Room (k+1) A)(env:Env):Room k (A.deeper env) :=
 ⟨r.hd,by have:=r.dp;show A.depth+1+3*k+5<_;lia,by have:=r.un;show A.units+3+16*k+200<_;lia⟩
theorem Room.depth{k:Nat}{A:Around}(r:Room k A):A.depth<recursionLimit:=by have:=r.dp;lia
theorem Room.units{k:Nat}{A:Around}(r:Room k A):A.units+64<cLine:=by have:=r.un;lia
noncomputable def oF:TA:=fun _ H Q=>Q [] H
noncomputable def fD(ta:TE)(tr:TA):TA:=fun σ H Q=>ta σ H fun x H1=>tr σ H1 fun xs H2=>Q (x::xs) H2
section
variable {X:Cx}{e:Expr}{es:List Expr}{te:TE}{t:TA}{pos:Pos}
theorem af:PA X [] oF:=fun _ _ _ _ H Q I h=>Calls.spliced_nil ⟨[],H,I,.nil,h⟩
theorem pP(ha:PE X e te)(hr:PA X es t)(hs:starEach (e::es) X.env=(false,eval e X.env)::starEach es X.env:=by rfl):PA X (e::es) (fD te t):=by
 intro pos pins s σ H Q I h;rw[hs];show wpAny _ _ (spliced ((false,eval e X.env)::backTo pos (starEach es X.env))) _ _ s;refine Calls.spliced_cons (thn (ha pins s σ H _ I h) fun u s1 zz9=>?_);obtain⟨x,H1,I1,r1,q1⟩:=zz9;exact thn (hr pos pins s1 σ H1 _ I1 q1) fun us s2 ⟨xs,H2,I2,r2,q2⟩=>⟨x::xs,H2,I2,.cons r1 r2,q2⟩
noncomputable def yj(t:TA):TE:=fun σ H Q=>t σ H fun xs H1=>xs.length<=sizeLine/\∀p,H1 p=none->Q (.ref p) (upd H1 p (.tup xs))
noncomputable def wy(t:TA):TE:=fun σ H Q=>t σ H fun xs H1=>xs.length<=sizeLine/\∀p,H1 p=none->Q (.ref p) (upd H1 p (.lst xs))
theorem gW{x1}(h:PA X es t):PE X (.Tuple es x1 pos) (yj t):=by
 intro pins s σ H Q I hq;refine wpAny_Tuple_spliced (thn (h pos pins s σ H _ I hq) fun us s1 ⟨xs,H1,I1,r,z,q⟩=>⟨by rw[← r.length];exact z,?_⟩)
 have hf:H1 s1.heap.objs.size=none:=I1.hok.fresh (Wa _);refine⟨.ref s1.heap.objs.size,upd H1 s1.heap.objs.size (.tup xs),I1.laid (t':=s1.toks) (fun b u e=>Heap.get?_push_of_some _ e) (Wa _) ?_,rfl,q _ hf⟩;exact⟨z,us,r,⟨_,Heap.get?_push_size _ rfl,rfl,_,rfl⟩⟩
theorem bi(h:PA X es t):PE X (.List es pos) (wy t):=by
 intro pins s σ H Q I hq;refine wpAny_List_spliced (thn (h pos pins s σ H _ I hq) fun us s1 ⟨xs,H1,I1,r,z,q⟩=>⟨by rw[← r.length];exact z,?_⟩)
 have hf:H1 s1.heap.objs.size=none:=I1.hok.fresh (Wa _);refine⟨.ref s1.heap.objs.size,upd H1 s1.heap.objs.size (.lst xs),I1.laid (t':=s1.toks) (fun b u e=>Heap.get?_push_of_some _ e) (Wa _) ?_,rfl,q _ hf⟩;exact⟨z,us,0,r,Heap.get?_push_size _ rfl⟩
end
noncomputable abbrev Sp:=List V->Hp->VK->XK->Prop
noncomputable abbrev CXT:=List Env->Hp->Shared->XK->Value->Shared->Prop
structure Env0(P:Program)(w:World)(K:PySem.W.Frag)(mg:Str->Option Value)(base:Heap)(A:Around)(outer:List Env)(s:Shared)(H:Hp):Prop where
 frames:A.frames=some outer
 mod:Mod K mg base
 bs:∀b o,base.get? b=some o->s.heap.get? b=some o/\H b=none
 bsz:base.objs.size<=s.heap.objs.size
 funs:s.heap.FunFrames base outer
 frf:∀b∈frs outer,H b=none
 hok:HOk P w H s.heap
 bare:AllBare s.gens
 tk:0<s.toks
noncomputable def CE(outer:List Env)(P:Program)(w:World)(H:Hp)(s:Shared)(Q:VK)(u:Value)(s':Shared):Prop :=
 ∃v H',s'.os=s.os/\AllBare s'.gens/\Un (frs outer) [] H H' s.heap s'.heap/\HOk P w H' s'.heap/\RelV v u/\Q v H'
noncomputable def CR(CX:CXT)(outer:List Env)(P:Program)(w:World)(H:Hp)(s:Shared)(Q:VK)(E:XK)(r:Result)(s':Shared):Prop :=
 match r with
 | .ok (.ret u)=>CE outer P w H s Q u s'
 | .ok _=>False
 | .error e=>CX outer H s E e s'
structure FnOk(P:Program)(w:World)(K:PySem.W.Frag)(mg:Str->Option Value)(base:Heap)(CX:CXT)(k:Nat)(f:Addr)(fd:FuncData)(ps:List Str)(sp:Sp):Prop where
 len:∀vs H Q E,sp vs H Q E->vs.length=ps.length
 run:∀(A:Around)(outer:List Env)(s:Shared)(H:Hp)(args:Args)(us:List Value)(vs:List V)(Q:VK)(E:XK),Room k A->Env0 P w K mg base A outer s H->BindsTo s fd args (ps.zip us)->Vals vs us->sp vs H Q E ->
  codeAny (model P w) A (.call (.ref f) args) (CR CX outer P w H s Q E) s
theorem FnOk.imp{P:Program}{w:World}{K:PySem.W.Frag}{mg:Str->Option Value}{base:Heap}{CX:CXT}{k:Nat}{f:Addr}{fd:FuncData}{ps:List Str}{sp sp':Sp}(F:FnOk P w K mg base CX k f fd ps sp)
  (h:∀vs H Q E,sp' vs H Q E->sp vs H Q E):FnOk P w K mg base CX k f fd ps sp' :=
 ⟨fun vs H Q E q=>F.len vs H Q E (h _ _ _ _ q),fun A outer s H args us vs Q E hr he hb hv hs=>F.run A outer s H args us vs Q E hr he hb hv (h _ _ _ _ hs)⟩
section
variable {X:Cx}{pins:List (Addr×Obj)}{σ:St}{H:Hp}{s s':Shared}
theorem Inv.env0(I:Inv X pins σ H s):Env0 X.prog X.w X.K X.mg X.base X.A X.stack s H :=
 ⟨I.ok.frames,I.ok.mod,I.bs,Wb I.ok.bsz I.sz,I.stack,I.stkFree,I.hok,I.bare,I.tk⟩
theorem Inv.after{Q:VK}{u:Value}(I:Inv X pins σ H s)(h:CE X.stack X.prog X.w H s Q u s')(hle:s.toks<=s'.toks):EP X pins σ Q u s':=by
 obtain⟨v,H',os,bare,un,hok,r,q⟩:=h;obtain⟨hh,g,d,t,os'⟩:=s';obtain rfl:os'=s.os:=os;exact⟨v,H',I.call (h':=hh) (g':=g) (d':=d) (t':=t) (ch:=[]) un hok bare (fun b z=>absurd z (by simp)) (I.tkl' hle),r,q⟩
end
noncomputable def rQ(sp:Sp)(dvs:List V)(E:XK)(t:TA):TE:=fun σ H Q=>t σ H fun vs H1=>sp (vs++dvs) H1 Q E
noncomputable def Binds(K:PySem.W.Frag)(fd:FuncData)(ps:List Str)(ds:List Value):Prop :=
 ∀(s:Shared)(us:List Value),K.In s.heap->(us++ds).length=ps.length->BindsTo s fd ⟨us,[]⟩ (ps.zip (us++ds))
theorem Binds.all{K:PySem.W.Frag}{fd:FuncData}{ps:List Str}(h:∀us:List Value,us.length=ps.length->bindArgs fd ⟨us,[]⟩=pure (ps.zip us)):Binds K fd ps []:=fun s us _ hl=>by
 rw[Zc]at hl ⊢;exact .of_eq (h us hl)
noncomputable def oG(CX:CXT)(X:Cx)(E:XK):Prop:=∀(pins:List (Addr×Obj))(σ:St)(H:Hp)(s:Shared)(e:Value)(s':Shared),Inv X pins σ H s->CX X.stack H s E e s'->X.xe e s'
section
variable {X:Cx}{CX:CXT}{k:Nat}{f C:Addr}{fd:FuncData}{ps:List Str}{sp:Sp}{dvs:List V}{ds:List Value}{E:XK}{x m:Str}{p pos apos:Pos}{e o:Expr}{es:List Expr}{ta:TE}{t:TA}
theorem wz{pins:List (Addr×Obj)}{σ:St}{H:Hp}{s:Shared}{Q:VK}{us:List Value}{vs:List V}(F:FnOk X.prog X.w X.K X.mg X.base CX k f fd ps sp)(hr:Room k X.A)(hb:Binds X.K fd ps ds)(hd:Vals dvs ds)(hx:oG CX X E)
  (I:Inv X pins σ H s)(r:Vals vs us)(h:sp (vs++dvs) H Q E):wpAny (model X.prog X.w) X.A (call (.ref f) us) (EP X pins σ Q) X.xe s:=by
 have r2:Vals (vs++dvs) (us++ds):=r.append hd;have hl:(us++ds).length=ps.length:=by rw[← r2.length];exact F.len _ _ _ _ h
 refine wpAny_call (oz (codeAny_mono (F.run X.A X.stack s H ⟨us,[]⟩ (us++ds) (vs++dvs) Q E hr I.env0 (hb s us I.kIn hl) r2 h) fun r s' hq hle=>?_));cases r with
 | error e=>exact hx pins σ H s e s' I hq
 | ok fl =>
  cases fl with
  | ret u=>exact I.after hq hle
  | next=>exact False.elim hq
  | brk=>exact False.elim hq
  | cont=>exact False.elim hq
theorem pQ(F:FnOk X.prog X.w X.K X.mg X.base CX k f fd ps sp)(hr:Room k X.A)(hg:Gl X x)(hm:X.mg x=some (.ref f))(hk:PySem.W.keepIn X.K (.ref f)=true)(hb:Binds X.K fd ps ds)(hd:Vals dvs ds)(hx:oG CX X E)
  (ha:PA X (e::es) t)(hdb:(x == ("__debug__":Str))=false:=by decide)(he:starEach (e::es) X.env=(false,eval e X.env)::starEach es X.env:=by rfl)(hpl:(backTo pos (starEach es X.env)).any (·.1)=false:=by rfl) :
  PE X (.Call (.Name x p) (e::es) [] pos) (rQ sp dvs E t):=by
 intro pins s σ H Q I h;refine wpAny_Call_Name_kw (jF I hg hm ?_ hdb);refine PySem.W.callWith_K (h₀:=X.base) I.ok.mod.kin hk (thn (ha pos pins s σ H _ I h) fun us s1 ⟨vs,H1,I1,r,q⟩=>⟨I1.kIn,?_⟩) he hpl;exact wz F hr hb hd hx I1 r q
end
structure FnScope(N P:List Str)(sc:Scope):Prop where
 kind:sc.kind=.function
 co:sc.isCoroutine=false
 gen:sc.isGenerator=false
 nd:N.Nodup
 pre:N.take P.length=P
 par:∀x∈P,sc.names.lookup x=some .local∨sc.names.lookup x=some .cell
 nofree:∀y∈sc.names,y.2≠.free
theorem kX{kindOf:Str->Option NameKind}{x:Str}:∀{binds:List (Str×Value)}{m:Str->Option Value},(∀v,(x,v)∉binds)->bindL kindOf binds m x=m x
 | [],_,_=>rfl
 | (n,v)::r,m,h=>by
  unfold bindL;rw[kX fun w hw=>h w (Va _ hw)];split
  ·have:x≠n:=by rintro rfl;exact h v Xb
   simp[this]
  ·rfl
theorem kY{kindOf:Str->Option NameKind}{x:Str}:∀{binds:List (Str×Value)}{m:Str->Option Value},(∀v,(x,v)∉binds)->bindC kindOf binds m x=m x
 | [],_,_=>rfl
 | (n,v)::r,m,h=>by
  unfold bindC;rw[kY fun w hw=>h w (Va _ hw)];split
  ·rfl
  ·have:x≠n:=by rintro rfl;exact h v Xb
   simp[this]
theorem kZ{kindOf:Str->Option NameKind}{x:Str}{v:Value}:∀{P:List Str}{vs:List Value}{i:Nat}{m:Str->Option Value},P.Nodup->P[i]?=some x->vs[i]?=some v->kindOf x=some .local ->
  bindL kindOf (P.zip vs) m x=some v
 | [],_,_,_,_,h,_,_=>by simp at h
 | _::_,[],_,_,_,_,h,_=>by simp at h
 | p::P,w::vs,0,m,nd,h1,h2,hk=>by
  simp at h1 h2;subst h1;subst h2;show bindL kindOf ((p,w)::P.zip vs) m p=_;unfold bindL;rw[kX fun v hv=>(Vg.mp nd).1 (List.of_mem_zip hv).1,if_pos hk];simp
 | p::P,w::vs,i+1,m,nd,h1,h2,hk=>by
  show bindL kindOf ((p,w)::P.zip vs) m x=_;unfold bindL;exact kZ (i:=i) (Vg.mp nd).2 (by simpa using h1) (by simpa using h2) hk
theorem k0{kindOf:Str->Option NameKind}{x:Str}{v:Value}:∀{P:List Str}{vs:List Value}{i:Nat}{m:Str->Option Value},P.Nodup->P[i]?=some x->vs[i]?=some v->kindOf x≠some .local ->
  bindC kindOf (P.zip vs) m x=some v
 | [],_,_,_,_,h,_,_=>by simp at h
 | _::_,[],_,_,_,_,h,_=>by simp at h
 | p::P,w::vs,0,m,nd,h1,h2,hk=>by
  simp at h1 h2;subst h1;subst h2;show bindC kindOf ((p,w)::P.zip vs) m p=_;unfold bindC;rw[kY fun v hv=>(Vg.mp nd).1 (List.of_mem_zip hv).1,if_neg hk];simp
 | p::P,w::vs,i+1,m,nd,h1,h2,hk=>by
  show bindC kindOf ((p,w)::P.zip vs) m x=_;unfold bindC;exact k0 (i:=i) (Vg.mp nd).2 (by simpa using h1) (by simpa using h2) hk
noncomputable def start(N:List Str)(vs:List V):St:=vs.map some++List.replicate (N.length-vs.length) none
noncomputable def nv(CX:CXT)(P:Program)(w:World)(K:PySem.W.Frag)(mg:Str->Option Value)(base:Heap)(N:List Str)(qual:Str)(scope:Scope)(f:Addr)(cd:Value)(A:Around)(outer:List Env)(s:Shared)(H:Hp)(E:XK):Cx where
 prog:=P
 w:=w
 K:=K
 mg:=mg
 base:=base
 A:=A.deeper (envOfC qual scope s.heap.objs.size f cd)
 N:=N
 s₀:=s
 H₀:=H
 env:=envOfC qual scope s.heap.objs.size f cd
 outer:=outer
 stack:=envOfC qual scope s.heap.objs.size f cd::outer
 ex:=[]
 calm:=true
 fn:=fun _=>true
 pn:=[]
 xe:=fun e s'=>wpAny (model P w) (A.deeper (envOfC qual scope s.heap.objs.size f cd)) (leaving (envOfC qual scope s.heap.objs.size f cd) e) (fun _ s''=>CX outer H s E e s'') (fun e' s''=>CX outer H s E e' s'') s'
theorem nA{sc:Scope}{n:Nat}{x:Str}(h:sc.names.lookup x=some .cell):∃c,(cellsFrom n sc.names []).lookup x=some c:=by
 have q:=PySem.W.cellsFrom_some sc.names n [] (.inl h);exact Option.isSome_iff_exists.mp q
theorem qL{CX:CXT}{P:Program}{w:World}{K:PySem.W.Frag}{mg:Str->Option Value}{base:Heap}{N ps:List Str}{qual:Str}{scope:Scope}{f:Addr}{cd:Value}{A:Around}{outer:List Env}{s s1:Shared}{H:Hp}{E:XK}{us:List Value}{vs:List V}
  (S:FnScope N ps scope)(hd:A.handled=none)(e0:Env0 P w K mg base A outer s H)(hl:vs.length=ps.length)(r:Vals vs us)
  (x:InCallC s s.heap.objs.size (bindL (envOfC qual scope s.heap.objs.size f cd).kindOf (ps.zip us) fun _=>none) (cellsFrom (s.heap.objs.size+1) scope.names []) (bindC (envOfC qual scope s.heap.objs.size f cd).kindOf (ps.zip us) fun _=>none) s1) (ht:0<s1.toks) :
  Inv (nv CX P w K mg base N qual scope f cd A outer s H E) [] (start N vs) H s1:=by
 have hpl:ps.length<=N.length:=by have:=congrArg List.length S.pre;rw[List.length_take]at this;lia
 obtain⟨h1,tk,rfl,hk⟩:=x.done;have noA:∀b:Addr,b∉(nv CX P w K mg base N qual scope f cd A outer s H E).ex:=fun b z=>absurd (show b∈([]:List Addr) from z) (by simp)
 refine⟨⟨e0.mod,S.kind,rfl,rfl,Wa _,fun y z c h1 h2=>?_,fun y hy=>?_,fun y c _ h=>?_,fun _=>hd,Around.frames_deeper e0.frames,.inr ⟨rfl,rfl⟩,fun b z=>absurd z (noA b),e0.bs,e0.bsz,fun b _ _=>noA b,fun b z=>absurd z (noA b),e0.funs,e0.frf⟩,
  rfl,e0.bare,Un.kept hk,⟨_,x.toInCall.ns,fun i y v h1 h2 h3=>?_⟩,fun y c h=>⟨_,x.cell y c h⟩,e0.hok.fresh (Wa _),fun y c h=>?_,fun p hp=>absurd (show p∈([]:List (Addr×Obj)) from hp) (by simp),e0.hok.kept hk,?_,ht⟩
 ·exact name_of_addr x.apart (PySem.mem_of_lookup h1) (PySem.mem_of_lookup h2)
 ·have hy:scope.names.lookup y=some .cell∨scope.names.lookup y=some .free:=hy;rcases hy with hy|hy
  ·exact nA hy
  ·exact absurd rfl (S.nofree _ (PySem.mem_of_lookup hy))
 ·exact Nat.le_of_lt (x.above y c (PySem.mem_of_lookup h))
 ·have hi:i<vs.length:=by
   unfold start at h2;by_cases hi:i<vs.length
   ·exact hi
   ·rw[Wc (by simpa using hi)]at h2
    rw[Vf]at h2;split at h2<;>cases h2
  have ha:vs[i]?=some v:=by
   unfold start at h2;rw[Ye (by simpa using hi),Vd]at h2
   cases e:vs[i]? with
   | none=>rw[e]at h2;cases h2
   | some a=>rw[e]at h2;cases h2;rfl
  obtain⟨u,hu,rv⟩:=r.get ha;have hp:ps[i]?=some y:=by
   rw[← S.pre,List.getElem?_take_of_lt (by lia)];exact h1
  have ndP:ps.Nodup:=by rw[← S.pre];exact S.nd.sublist (List.take_sublist _ _)
  refine⟨u,rv,?_⟩;rcases S.par y (Xi hp) with k|k
  ·exact .inl ⟨k,kZ ndP hp hu k⟩
  ·obtain⟨c,e⟩:=nA (n:=s.heap.objs.size+1) k;refine .inr ⟨.inl k,c,e,?_⟩;have q:=x.cell y c e;rw[k0 ndP hp hu (by show scope.names.lookup y≠_;rw[k];decide)]at q
   exact q
 ·exact e0.hok.fresh (Nat.le_of_lt (x.above y c (PySem.mem_of_lookup h)))
 ·unfold start;show _=N.length;rw[Za,Xa,Ve];lia
theorem vA{CX:CXT}{P:Program}{w:World}{K:PySem.W.Frag}{mg:Str->Option Value}{base:Heap}{k:Nat}{f:Addr}{name qual:Str}{params:Arguments}{body:List Stmt}{scope:Scope}{dV kV doc pm cdv ct oc:Value}{an od:Option Addr}
  {osl:Array (Option Value)}{N ps:List Str}{sp:Sp}(lk:K.lookup f=some ⟨oc,od,.func (PySem.W.fnOf name qual params body scope dV kV doc pm an cdv ct),osl⟩)(hcd:PySem.W.codeIn K cdv qual=true)(S:FnScope N ps scope)
  (len:∀vs H Q E,sp vs H Q E->vs.length=ps.length)
  (hbody:∀(A:Around)(outer:List Env)(s:Shared)(H:Hp)(vs:List V)(Q:VK)(E:XK),Room k (A.deeper (envOfC qual scope s.heap.objs.size f cdv))->sp vs H Q E ->
   ∃t,PSs (nv CX P w K mg base N qual scope f cdv A outer s H E) body t/\t { nx:=fun _ H'=>Q .non H',rt:=Q } (start N vs) H) :
  FnOk P w K mg base CX (k+1) f (PySem.W.fnOf name qual params body scope dV kV doc pm an cdv ct) ps sp:=by
 refine⟨len,fun A outer s H args us vs Q E hr e0 hb r hsp=>?_⟩;have hl:=len _ _ _ _ hsp;have KX:K.In s.heap:=e0.mod.kin.keeps fun b o e=>(e0.bs b o e).1;have lim:s.heap.NoLimit:=e0.mod.nolimit.keeps fun b o e=>(e0.bs b o e).1;have hkind:∀y∈ps.zip us,scope.names.lookup y.1=some .local∨(scope.names.lookup y.1=some .cell/\((cellsFrom (s.heap.objs.size+1) scope.names []).lookup y.1).isSome=true):=fun⟨n,v⟩ hy=>by
  rcases S.par n (List.of_mem_zip hy).1 with q|q
  ·exact .inl q
  ·exact .inr ⟨q,PySem.W.cellsFrom_some _ _ _ (.inl q)⟩
 refine codeAny_call_function hr.depth (KX _ _ lk) rfl S.co S.gen rfl (PySem.W.codeRec_of KX hcd) (hb _ _ _ _ ?_);refine bu (wpAny_newFunctionEnv_cells S.kind hkind fun env he s1 x hle=>?_);subst he;refine⟨lim.keeps x.toInCall.keep,codeAny_func ?_⟩;obtain⟨t,ht,hq⟩:=hbody A outer s H vs Q E (hr.deeper _) hsp;have I:Inv (nv CX P w K mg base N qual scope f cdv A outer s H E) [] (start N vs) H s1:=qL S hr.hd e0 hl r x (Yb e0.tk hle);refine wpAny_mono (ht [] s1 (start N vs) H _ I hq) (fun fl s' hs=>?_) fun e s' hs=>hs;have fin:∀{σ':St}{H':Hp}{v:V}{u:Value},Inv (nv CX P w K mg base N qual scope f cdv A outer s H E) [] σ' H' s'->RelV v u->Q v H'->CE outer P w H s Q u s' :=
  fun {σ' H' v u} J rv q=>⟨v,H',J.os,J.bare,J.base,J.hok,rv,q⟩
 cases fl with
 | ret u =>
  obtain⟨v,σ',H',J,rv,q⟩:=hs;exact fin J rv q
 | next =>
  obtain⟨σ',H',J,q⟩:=hs;exact fin (v:=V.non) (u:=Value.none) J rfl q
 | brk =>
  obtain⟨_,_,_,q⟩:=hs;exact False.elim q
 | cont =>
  obtain⟨_,_,_,q⟩:=hs;exact False.elim q
end L2
namespace L2
open PySem PySem.Spec PyProof.Rows
section
variable {X:Cx}{x:Str}{p pos:Pos}{e:Expr}{es:List Expr}{t:TA}{id T:String}{r:List V->Hp->VK->Prop}
noncomputable def tCB(r:List V->Hp->VK->Prop)(t:TA):TE:=fun σ H Q=>t σ H fun vs H1=>r vs H1 Q
theorem fE(hc:CallR X (.builtin id) r)(hg:Gl X x)(hm:X.mg x=none)(hv:bootBuiltins x=some (.builtin id))(ha:PA X (e::es) t)(hn:x≠"__name__":=by decide)(hdb:(x == ("__debug__":Str))=false:=by decide)
  (he:starEach (e::es) X.env=(false,eval e X.env)::starEach es X.env:=by rfl) (hpl:(backTo pos (starEach es X.env)).any (·.1)=false:=by rfl):PE X (.Call (.Name x p) (e::es) [] pos) (tCB r t):=by
 intro pins s σ H Q I h;refine wpAny_Call_Name_kw (lV I hg hm hv ?_ hn hdb);exact PyProof.Rows.callWith_builtin1 (thn (ha pos pins s σ H _ I h) fun us s1 ⟨vs,H1,I1,r1,q1⟩=>hc pins s1 σ H1 vs us Q I1 r1 q1) he hpl
theorem d6(hc:CallR X (.type T) r)(hg:Gl X x)(hm:X.mg x=none)(hv:bootBuiltins x=some (.type T))(ha:PA X (e::es) t)(hn:x≠"__name__":=by decide)(hdb:(x == ("__debug__":Str))=false:=by decide)
  (he:starEach (e::es) X.env=(false,eval e X.env)::starEach es X.env:=by rfl) (hpl:(backTo pos (starEach es X.env)).any (·.1)=false:=by rfl):PE X (.Call (.Name x p) (e::es) [] pos) (tCB r t):=by
 intro pins s σ H Q I h;refine wpAny_Call_Name_kw (lV I hg hm hv ?_ hn hdb);exact PyProof.Rows.callWith_type1 (thn (ha pos pins s σ H _ I h) fun us s1 ⟨vs,H1,I1,r1,q1⟩=>hc pins s1 σ H1 vs us Q I1 r1 q1) he hpl
end
end L2
namespace L2
open PySem PySem.Spec PyProof.Rows
section
variable {κ:Type}[DecidableEq κ]
noncomputable def fF(kvs:List (κ×V))(k:κ):Option V:=(kvs.find? fun kv=>decide (kv.1=k)).map (·.2)
noncomputable def putK(kvs:List (κ×V))(k:κ)(v:V):List (κ×V) :=
 if (kvs.any fun kv=>decide (kv.1=k))=true then kvs.map (fun kv=>if kv.1=k then(kv.1,v) else kv) else kvs++[(k,v)]
theorem fG{p:κ×V}{r:List (κ×V)}{k:κ}(e:p.1=k):fF (p::r) k=some p.2:=by simp[fF,Wg,e]
theorem fH{p:κ×V}{r:List (κ×V)}{k:κ}(e:¬ p.1=k):fF (p::r) k=fF r k:=by simp[fF,Wg,e]
theorem nB(k:κ):∀kvs:List (κ×V),(kvs.any fun kv=>decide (kv.1=k))=(fF kvs k).isSome
 | []=>rfl
 | p::r=>by
  rw[Wi];by_cases e:p.1=k
  ·simp only[fG e,decide_eq_true e,Bool.true_or,Option.isSome_some]
  ·rw[fH e,decide_eq_false e,Bool.false_or];exact nB k r
theorem jf(kvs:List (κ×V))(k:κ)(v:V):(putK kvs k v).length<=kvs.length+1:=by
 unfold putK;split
 ·rw[Xa];lia
 ·rw[Za,Yd,List.length_nil];lia
theorem RelO.isSome_eq{o:Option V}{u:Option Value}(r:RelO o u):o.isSome=u.isSome:=by
 cases o with
 | none=>cases u with
  | none=>rfl
  | some _=>exact(show False from r).elim
 | some _=>cases u with
  | none=>exact(show False from r).elim
  | some _=>rfl
theorem KV.val{kvs:List (κ×V)}{vs:List (κ×Value)}(r:KV kvs vs)(k:κ):RelO (fF kvs k) (valueAt vs k):=by
 unfold KV at r;induction r with
 | nil=>exact True.intro
 | @cons p q ps qs h t ih =>
  obtain⟨h1,h2⟩:=h;by_cases e:p.1=k
  ·have e':q.1=k:=h1.symm.trans e;have b:valueAt (q::qs) k=some q.2:=by simp[valueAt,Wg,e']
   rw[fG e,b];exact h2
  ·have e':¬ q.1=k:=fun z=>e (h1.trans z);have b:valueAt (q::qs) k=valueAt qs k:=by simp[valueAt,Wg,e']
   rw[fH e,b];exact ih
theorem KV.any{kvs:List (κ×V)}{vs:List (κ×Value)}(r:KV kvs vs)(k:κ):(kvs.any fun kv=>decide (kv.1=k))=vs.any fun kv=>decide (kv.1=k):=by
 unfold KV at r;induction r with
 | nil=>rfl
 | cons h t ih=>rw[Wi,Wi,ih,h.1]
theorem KV.repl{kvs:List (κ×V)}{vs:List (κ×Value)}(r:KV kvs vs)(k:κ){y:V}{u:Value}(ry:RelV y u) :
  KV (kvs.map fun kv=>if kv.1=k then(kv.1,y) else kv) (vs.map fun kv=>if kv.1=k then(kv.1,u) else kv):=by
 unfold KV at r ⊢;induction r with
 | nil=>exact .nil
 | @cons p q ps qs h t ih =>
  rw[Yc,Yc];refine .cons ?_ ih;obtain⟨h1,h2⟩:=h;by_cases e:p.1=k
  ·rw[if_pos e,if_pos (h1.symm.trans e)];exact⟨h1,ry⟩
  ·rw[if_neg e,if_neg (fun z=>e (h1.trans z))];exact⟨h1,h2⟩
theorem KV.put{kvs:List (κ×V)}{vs:List (κ×Value)}(r:KV kvs vs)(k:κ){y:V}{u:Value}(ry:RelV y u):KV (putK kvs k y) (stored vs k u):=by
 unfold putK stored;rw[r.any k];by_cases e:(vs.any fun kv=>decide (kv.1=k))=true
 ·rw[if_pos e,if_pos e];exact r.repl k ry
 ·rw[if_neg e,if_neg e];exact Paired.snoc r ⟨rfl,ry⟩
theorem KV.length{kvs:List (κ×V)}{vs:List (κ×Value)}(r:KV kvs vs):kvs.length=vs.length:=Paired.length r
end
theorem nC{P:Program}{w:World}{k:Key}{u:Value}(r:RelV (kV k) u):(bE P w).is k u=true:=by
 cases k with
 | inl i=>obtain⟨t,e⟩:=(show ∃t,u=Value.int i t from r);subst e;exact ni P w i t
 | inr x=>obtain⟨t,e⟩:=(show ∃t,u=Value.str x t from r);subst e;exact cH P w x t
theorem la{P:Program}{w:World}:∀{ks:List Key}{us:List Value},Vals (ks.map kV) us->ItemsAre (bE P w) ks us
 | [],_,r=>by rw[List.map_nil]at r;cases r;exact .nil
 | k::ks,_,r=>by
  rw[Yc]at r;cases r with
  | cons h t=>exact .cons (nC h) (la t)
noncomputable abbrev KT(H:Hp):List (List Key×V)->List (List Key×Addr×Value)->Prop:=Paired fun p q=>p.1=q.1/\H q.2.1=some (.tup (p.1.map kV))/\RelV p.2 q.2.2
theorem KT.val{H:Hp}{kvs:List (List Key×V)}{xs:List (List Key×Addr×Value)}(r:KT H kvs xs)(k:List Key):RelO (fF kvs k) ((atKey xs k).map (·.2)):=by
 induction r with
 | nil=>exact True.intro
 | @cons p q ps qs h t ih =>
  obtain⟨h1,_,h2⟩:=h;by_cases e:p.1=k
  ·have e':q.1=k:=h1.symm.trans e;have b:atKey (q::qs) k=some q.2:=by simp[atKey,Wg,e']
   rw[fG e,b];exact h2
  ·have e':¬ q.1=k:=fun z=>e (h1.trans z);have b:atKey (q::qs) k=atKey qs k:=by simp[atKey,Wg,e']
   rw[fH e,b];exact ih
theorem KT.repl{H:Hp}{kvs:List (List Key×V)}{xs:List (List Key×Addr×Value)}(r:KT H kvs xs)(k:List Key){y:V}{u:Value}(ry:RelV y u) :
  KT H (kvs.map fun kv=>if kv.1=k then(kv.1,y) else kv) (xs.map (putAt k u)):=by
 induction r with
 | nil=>exact .nil
 | @cons p q ps qs h t ih =>
  rw[Yc,Yc];refine .cons ?_ ih;obtain⟨h1,h2,h3⟩:=h;unfold putAt;by_cases e:p.1=k
  ·rw[if_pos e,if_pos (h1.symm.trans e)];exact⟨h1,h2,ry⟩
  ·rw[if_neg e,if_neg (fun z=>e (h1.trans z))];exact⟨h1,h2,h3⟩
theorem KT.put{H:Hp}{kvs:List (List Key×V)}{xs:List (List Key×Addr×Value)}(r:KT H kvs xs)(k:List Key){b:Addr}{y:V}{u:Value}(hb:H b=some (.tup (k.map kV)))(ry:RelV y u) :
  KT H (putK kvs k y) (storedH xs k b u):=by
 have e:(kvs.any fun kv=>decide (kv.1=k))=(atKey xs k).isSome:=by
  rw[nB,(r.val k).isSome_eq,Xj]
 unfold putK storedH;rw[e];by_cases q:(atKey xs k).isSome=true
 ·rw[if_pos q,if_pos q];exact r.repl k ry
 ·rw[if_neg q,if_neg q];exact Paired.snoc r ⟨rfl,hb,ry⟩
theorem KT.keeps{H H':Hp}{kvs:List (List Key×V)}{xs:List (List Key×Addr×Value)}(r:KT H kvs xs)(ht:∀b ys,H b=some (.tup ys)->H' b=some (.tup ys)):KT H' kvs xs :=
 Paired.mapP r fun _ _ z=>⟨z.1,ht _ _ z.2.1,z.2.2⟩
section
variable {P:Program}{w:World}{H:Hp}{h:Heap}{a:Addr}
theorem vB{u:HO}(ok:HOk P w H h)(e:Rd H a u):ObjOk P w H h a u:=e.ok ok
theorem vC{kvs:List (Key×V)}(ok:HOk P w H h)(e:Rd H a (.dK kvs)):kvs.length<=sizeLine/\(a == sysModules)=false/\∃vs,KV kvs vs/\h.DictOf (bE P w) a vs :=
 show ObjOk P w H h a (.dK kvs) from vB ok e
theorem yk{kvs:List (Key×V)}(ok:HOk P w H h)(e:H a=some (.dK kvs)):kvs.length<=sizeLine/\(a == sysModules)=false/\∃vs,KV kvs vs/\h.DictOf (bE P w) a vs:=vC ok (.inl e)
theorem l0{ks:List Key}(ok:HOk P w H h)(e:H a=some (.tup (ks.map kV))):(tupleKind (bE P w)).is h ks a:=by
 obtain⟨_,its,r,o,h1,h2,n,h3⟩:=(show ObjOk P w H h a (.tup (ks.map kV)) from ok a _ e);exact⟨o,its.toArray,n,h1,h2,h3,by simpa using la r⟩
theorem yl{ep:Nat×List Addr}{kvs:List (List Key×V)}(ok:HOk P w H h)(e:Rd H a (.dT ep kvs)):kvs.length<=sizeLine/\(a == sysModules)=false /\
  ∃xs,KT H kvs xs/\h.DictOfH (tupleKind (bE P w)) a xs:=by
 obtain⟨z,y,xs,r,_,o,es,h1,h2,h3,h4,h5⟩:=(show ObjOk P w H h a (.dT ep kvs) from vB ok e);refine⟨z,y,xs,r,o,es,ep.1,h1,h2,h3,h4,fun x hx=>?_,h5⟩;have all:∀{l:List (List Key×V)}{m:List (List Key×Addr×Value)},KT H l m->∀x∈m,(tupleKind (bE P w)).is h x.1 x.2.1:=by
  intro l m q;induction q with
  | nil=>intro x hx;exact nomatch hx
  | @cons p q ps qs hq t ih =>
   intro x hx;rcases Xd.mp hx with e|hx
   ·subst e;exact l0 ok (by rw[← hq.1];exact hq.2.1)
   ·exact ih x hx
 exact all r x hx
end
section
variable {P:Program}{w:World}{H:Hp}{h:Heap}{a:Addr}
theorem ym{ep:Nat×List Addr}{kvs:List (List Key×V)}(ok:HOk P w H h)(e:H a=some (.dT ep kvs)):kvs.length<=sizeLine/\(a == sysModules)=false /\
  ∃xs,KT H kvs xs/\xs.map (·.2.1)=ep.2/\h.DictOfH (tupleKind (bE P w)) a xs:=by
 obtain⟨z,y,xs,r,ra,o,es,h1,h2,h3,h4,h5⟩:=(show ObjOk P w H h a (.dT ep kvs) from ok a _ e);refine⟨z,y,xs,r,ra,o,es,ep.1,h1,h2,h3,h4,fun x hx=>?_,h5⟩;have all:∀{l:List (List Key×V)}{m:List (List Key×Addr×Value)},KT H l m->∀x∈m,(tupleKind (bE P w)).is h x.1 x.2.1:=fun {l m} q=>by
  induction q with
  | nil=>exact fun x hx=>nomatch hx
  | cons hq t ih =>
   intro x hx;rcases Xd.mp hx with e'|hx
   ·subst e';exact l0 ok (by rw[← hq.1];exact hq.2.1)
   ·exact ih x hx
 exact all r x hx
end
noncomputable def DGet(H:Hp)(a:Addr)(y:V)(r:Option V):Prop :=
 (∃kvs k,Rd H a (.dK kvs)/\y=kV k/\r=fF kvs k)∨∃ep kvs k b,Rd H a (.dT ep kvs)/\y=.ref b/\H b=some (.tup (k.map kV))/\r=fF kvs k
noncomputable def qM(as:List Addr)(kvs:List (List Key×V))(k:List Key)(b:Addr):List Addr:=if (fF kvs k).isSome=true then as else as++[b]
noncomputable def yn(H:Hp)(a:Addr)(y v:V)(R:Hp->Prop):Prop :=
 (∃kvs k,H a=some (.dK kvs)/\y=kV k/\kvs.length<sizeLine/\R (upd H a (.dK (putK kvs k v)))) ∨
 ∃ep kvs k b,H a=some (.dT ep kvs)/\y=.ref b/\H b=some (.tup (k.map kV))/\kvs.length<sizeLine/\∀n,R (upd H a (.dT (n,qM ep.2 kvs k b) (putK kvs k v)))
theorem DGet.k{H:Hp}{a:Addr}{kvs:List (Key×V)}{k:Key}(e:H a=some (.dK kvs)):DGet H a (kV k) (fF kvs k):=.inl ⟨kvs,k,.inl e,rfl,rfl⟩
theorem DGet.t{H:Hp}{a b:Addr}{ep:Nat×List Addr}{kvs:List (List Key×V)}{k:List Key}(e:H a=some (.dT ep kvs))(eb:H b=some (.tup (k.map kV))):DGet H a (.ref b) (fF kvs k):=.inr ⟨ep,kvs,k,b,.inl e,rfl,eb,rfl⟩
theorem wA{H:Hp}{kvs:List (List Key×V)}{xs:List (List Key×Addr×Value)}{as:List Addr}{k:List Key}{b:Addr}{u:Value}(ra:xs.map (·.2.1)=as)(rel:KT H kvs xs):(storedH xs k b u).map (·.2.1)=qM as kvs k b:=by
 have e:(fF kvs k).isSome=(atKey xs k).isSome:=by rw[(rel.val k).isSome_eq,Xj]
 unfold storedH qM;rw[e];by_cases q:(atKey xs k).isSome=true
 ·rw[if_pos q,if_pos q,← ra,Qf];refine Qh fun x _=>?_;show(putAt k u x).2.1=x.2.1;unfold putAt;split<;>rfl
 ·rw[if_neg q,if_neg q,Vc,ra];rfl
section
variable {X:Cx}{pins:List (Addr×Obj)}{σ:St}{H:Hp}{s:Shared}{a:Addr}{y v:V}{u r:Value}{o:Option V}{A:Around}{E:Value->Shared->Prop}
theorem Inv.big(I:Inv X pins σ H s):sysModules<s.heap.objs.size:=by
 have h:mainGlobals<s.heap.objs.size:=(I.mod.glob.keeps I.bk).lt;exact Nat.lt_trans (by decide) h
theorem zx{Q:Value->Shared->Prop}(hu:A.units+1<cLine)(I:Inv X pins σ H s)(g:DGet H a y o)(ry:RelV y u)(h:∀s',Inv X pins σ H s'->Q (.bool o.isSome) s') :
  wpAny (model X.prog X.w) A (compareOp .In u (.ref a)) Q E s:=by
 rcases g with⟨kvs,k,e,ey,l⟩|⟨ep,kvs,k,b,e,ey,eb,l⟩
 ·subst ey;obtain⟨z,hd,vs,rel,dd⟩:=vC I.hok e;refine wpAny_in_of (nC ry) hd dd.mapOf ?_;rw[← (rel.val k).isSome_eq,← l];exact h _ (I.tok _)
 ·subst ey;cases (show u=Value.ref b from ry);obtain⟨z,hd,xs,rel,dd⟩:=yl I.hok e;refine wpAny_in_heap (tupleKind_room_in1 hu) (l0 I.hok eb) hd dd ?_;have q:=(rel.val k).isSome_eq;rw[Xj]at q;rw[← q,← l];exact h _ (I.tok _)
theorem pR{h':Heap}{t':Nat}{ob:HO}(I:Inv X pins σ H s)(mu:Mut (H a))(hs:Heap.SameBut a s.heap h')(he:∃q,h'.get? a=some q)(new:ObjOk X.prog X.w (upd H a ob) h' a ob)(ht:0<t':=by first|assumption|exact Xf _|exact Inv.tk (by assumption)|exact Inv.tkl (by assumption) (by assumption)|lia) :
  Inv X pins σ (upd H a ob) { s with heap:=h',toks:=t' } :=
 I.write (x:=a) (e:=a) mu (.inl rfl) (fun b q hb z=>(hs.2 b hb).trans z) he new
theorem wB{P:Program}{w:World}{H':Hp}{h':Heap}{kvs:List (Key×V)}{vs:List (Key×Value)}(z:kvs.length<=sizeLine)(hd:(a == sysModules)=false)(rel:KV kvs vs)(dd:h'.DictOf (bE P w) a vs) :
  ObjOk P w H' h' a (.dK kvs):=⟨z,hd,vs,rel,dd⟩
theorem qN{R:Hp->Prop}{Q:Unit->Shared->Prop}(hu:A.units+1<cLine)(I:Inv X pins σ H s)(g:yn H a y v R)(ry:RelV y u)(rv:RelV v r)(h:∀s' H',Inv X pins σ H' s'->R H'->Q () s') :
  wpAny (model X.prog X.w) A (setItem (.ref a) u r) Q E s:=by
 rcases g with⟨kvs,k,e,ey,l,eH⟩|⟨ep,kvs,k,b,e,ey,eb,l,eH⟩
 ·subst ey;obtain⟨z,hd,vs,rel,dd⟩:=yk I.hok e;have hz:vs.length<=sizeLine:=by rw[← rel.length];exact z
  have hl:(putK kvs k v).length<=sizeLine:=by have:=jf kvs k v;lia
  refine wpAny_setItem_pairs (hsz:=hz) (nC ry) dd fun h' dd' hs=>h _ _ ?_ eH;have he:∃q,h'.get? a=some q:=let ⟨q,_,_,hq,_⟩:=dd';⟨q,hq⟩;exact pR I (by rw[e];exact True.intro) hs he (wB hl hd (rel.put k rv) dd')
 ·subst ey;cases (show u=Value.ref b from ry);obtain⟨z,hd,xs,rel,ra0,dd⟩:=ym I.hok e;have hz:xs.length<=sizeLine:=by rw[← Paired.length rel];exact z
  have hl:(putK kvs k v).length<=sizeLine:=by have:=jf kvs k v;lia
  have ra:xs.map (·.2.1)=ep.2:=ra0;refine wpAny_setItem_heap (hsz:=hz) (tupleKind_room_in1 hu) (l0 I.hok eb) dd fun h' dd' hs=>?_;obtain⟨q,es,ep',hq,h2,h3,h4,_,h5⟩:=dd';refine h _ _ ?_ (eH ep');refine pR I (by rw[e];exact True.intro) hs ⟨q,hq⟩ ⟨hl,hd,_,(rel.put k eb rv).keeps fun c ys ec=>?_,wA ra rel,q,es,hq,h2,h3,h4,h5⟩
  rw[aM (x6 ec e (fun z=>nomatch z))];exact ec
end
noncomputable def yo(i:Expr):Prop:=∀ov iv,subscripted i false ov iv=operate [ov,iv] (getItem ov iv)
theorem uv{prog:Program}{w:World}{A:Around}{E:Value->Shared->Prop}{s:Shared}{env:Env}{value slice:Expr}{pos:Pos}{T id:String}{Q:Value->Shared->Prop}
  (hl:typeLookup (.type T) "__getitem__"=pure (some (.builtin id)))(hs:yo slice)
  (h:wpAny (model prog w) A (eval value env) (fun o s₁=>wpAny (model prog w) A (eval slice env) (fun i s₂=>s₂.TypeIs o T/\wpAny (model prog w) A (getItem o i) Q E s₂) E s₁) E s) :
  wpAny (model prog w) A (eval (.Subscript value slice pos) env) Q E s:=by
 refine Subscript_ (wpAny_mono h (fun o s₁ h₁=>wpAny_mono h₁ (fun i s₂ h₂=>?_) fun _ _ x=>x) fun _ _ x=>x);obtain⟨hT,h₂⟩:=h₂;unfold subscriptTail;refine wpAny_bind ?_;rw[getitemInPython_of_ne hT.not_modules];refine wpAny_bind (wpAny_specialOf hT hl ?_);have fin:wpAny (model prog w) A (subscripted slice false o i) (fun r s₃=>wpAny (model prog w) A (letTemporaryGo value o r >>= fun _=>pure r) Q E s₃) E s₂:=by
  rw[hs o i];exact wpAny_operating (wpAny_mono h₂ (fun r s₃ h₃=>wpAny_bind (wpAny_letTemporaryGo (wpAny_pure h₃))) fun _ _ x=>x)
 first
  | exact wpAny_pure (wpAny_bind fin)
  | exact wpAny_bind (wpAny_pure (wpAny_bind fin))
  | exact wpAny_bind fin
theorem rR{P:Program}{w:World}{H:Hp}(h:Heap)(hb:sysModules<h.objs.size):ObjOk P w H (h.push { cls:=.type "dict",data:=.dict #[] }) h.objs.size (.dK []) :=
 ⟨Vj _,beq_eq_false_iff_ne.mpr (Ne.symm (Yf hb)),[],.nil,Heap.DictOf.new h⟩
noncomputable def rS:TE:=fun _ H Q=>∀p,H p=none->Q (.ref p) (upd H p (.dK []))
section
variable {X:Cx}{pos:Pos}
theorem rT:PE X (.Dict [] [] pos) rS:=fun pins s σ H Q I h =>
 wpAny_Dict_empty ⟨.ref s.heap.objs.size,_,I.laid (a:=s.heap.objs.size) (o:=.dK []) (t':=s.toks) (fun _ _ q=>Heap.get?_push_of_some _ q) (Wa _) (rR s.heap I.big),rfl,h _ (I.hok.fresh (Wa _))⟩
end
end L2
namespace HT
open PySem PyProof.Rows
section
variable {prog:Program}{w:World}{A:Around}{E:Value->Shared->Prop}{s:Shared}
theorem cat_tup{t b:Addr}{vs ws:List Value}{Q:Value->Shared->Prop}(ht:IsTup s.heap t vs.toArray)(hb:IsTup s.heap b ws.toArray)(hv:vs≠[])
  (h1:ws=[]->Q (.ref t) s)(h2:ws≠[]->Q (.ref s.heap.objs.size) { s with heap:=s.heap.push { cls:=.type "tuple",data:=.seq (vs++ws).toArray } })
  (hsz:vs.length+ws.length<=sizeLine):wpAny (model prog w) A (binaryOp .Add (.ref t) (.ref b)) Q E s:=by
 obtain⟨⟨cls,dd,data,sl⟩,ho,hc,n,hd⟩:=id ht;obtain⟨⟨cls2,dd2,data2,sl2⟩,ho2,hc2,n2,hd2⟩:=id hb;simp only at hc hd hc2 hd2;subst hc hd hc2 hd2;have e:vs.toArray++ws.toArray=(vs++ws).toArray:=by simp
 by_cases hw:ws=[]
 ·exact concat_meets ⟨_,ho,rfl⟩ ⟨_,ho2,rfl⟩ noFill_tuple_add seq_tuple_add PySem.F.slot_tuple_add PySem.F.entry_tuple_add (PySem.F.args_tuple_add_2 _ _)
   (tuple_addW1 t b vs.toArray ws.toArray n n2 dd dd2 sl sl2 (by simpa using hv) (by simp[hw])) ⟨ho,ho2,h1 hw⟩
 ·refine concat_meets ⟨_,ho,rfl⟩ ⟨_,ho2,rfl⟩ noFill_tuple_add seq_tuple_add PySem.F.slot_tuple_add PySem.F.entry_tuple_add (PySem.F.args_tuple_add_2 _ _)
   (tuple_addW2 t b vs.toArray ws.toArray n n2 dd dd2 sl sl2 (by simpa using hv) (by simpa using hw) (by rw[Qa,Qa];exact hsz)) ⟨ho,ho2,?_⟩
  rw[e];exact h2 hw
noncomputable def sIx(n d:Nat):Option Int->Nat
 | none=>d
 | some v=>if v<0 then(v+(n:Int)).toNat else min v.toNat n
theorem sIx_none(n d:Nat):sIx n d none=d:=rfl
theorem sIx_nat(n d k:Nat):sIx n d (some (k:Int))=min k n:=by
 show(if (k:Int)<0 then((k:Int)+(n:Int)).toNat else min (k:Int).toNat n)=min k n;rw[if_neg (by lia),Int.toNat_natCast]
theorem wC(n d:Nat)(hd:d<=n)(o:Option Int):sIx n d o<=n:=by
 cases o with
 | none=>exact hd
 | some v =>
  show(if v<0 then(v+(n:Int)).toNat else min v.toNat n)<=n;by_cases hv:v<0
  ·rw[if_pos hv];lia
  ·rw[if_neg hv];exact Nat.min_le_right _ _
theorem clip_nat(v:Int)(n:Nat)(hv:¬ v<0):min v (n:Int)=((min v.toNat n:Nat):Int):=by
 obtain⟨k,rfl⟩:=Zj (Int.not_lt.mp hv);rw[Int.toNat_natCast];rcases Nat.le_total k n with h|h
 ·rw[Nat.min_eq_left h];exact Int.min_eq_left (Int.ofNat_le.mpr h)
 ·rw[Nat.min_eq_right h];exact Int.min_eq_right (Int.ofNat_le.mpr h)
theorem pS(v:Int)(n d:Nat):(if v<0 then max (v+(n:Int)) 0 else min v (n:Int))=((sIx n d (some v):Nat):Int):=by
 show(if v<0 then max (v+(n:Int)) 0 else min v (n:Int))=(((if v<0 then(v+(n:Int)).toNat else min v.toNat n):Nat):Int);by_cases hv:v<0
 ·rw[if_pos hv,if_pos hv];exact(Int.ofNat_toNat _).symm
 ·rw[if_neg hv,if_neg hv];exact clip_nat v n hv
theorem oH(lo hi:Option Int)(n:Nat):Builtin.Slice.sliceAdjust lo hi 1 (n:Int)=(((sIx n 0 lo:Nat):Int),((sIx n n hi:Nat):Int)):=by
 have h1:¬ ((1:Int)<0):=by lia
 unfold Builtin.Slice.sliceAdjust;simp only[h1,if_false];refine Prod.ext ?_ ?_
 ·cases lo with
  | none=>rfl
  | some v=>exact pS v n 0
 ·cases hi with
  | none=>rfl
  | some v=>exact pS v n n
theorem oI(i j:Nat):Builtin.Slice.slicePlaces (i:Int) (j:Int) 1=j-i:=by
 unfold Builtin.Slice.slicePlaces;have h1:(1:Int) > 0:=by lia
 simp only[h1,if_true,Int.ediv_one];split<;>lia
theorem jQ{v:Value}{o:Option Int}{Q:Option Int->Shared->Prop}(p:IsPart v o)(h:Q o s):wpAny (model prog w) A (Builtin.Slice.slicePartIndex v) Q E s:=by
 cases p with
 | none=>exact slicePart_none h
 | int i t=>exact slicePart_int h
theorem d7{sl:Addr}{vl vu:Value}{lo hi:Option Int}{n:Nat}{Q:Int×Int×Nat->Shared->Prop}(hs:s.heap.IsSliceOf sl vl vu .none)(pl:IsPart vl lo)(pu:IsPart vu hi)
  (h:Q (((sIx n 0 lo:Nat):Int),1,sIx n n hi-sIx n 0 lo) s):wpAny (model prog w) A (Builtin.Slice.sliceApplied (.ref sl) (pure (n:Int))) Q E s:=by
 obtain⟨os,hos,hcs,hds⟩:=id hs;unfold Builtin.Slice.sliceApplied Builtin.Slice.sliceFields;refine wpAny_bind (wpAny_bind (wpAny_field hos hds (x:=vl) rfl (wpAny_bind (wpAny_field hos hds (x:=vu) rfl (wpAny_bind (wpAny_field hos hds (x:=.none) rfl (wpAny_pure ?_)))))));refine wpAny_bind (slicePart_none ?_);show wpAny _ _ (if ((1:Int) == 0)=true then _ else _) _ _ s;rw[if_neg (by decide)]
 refine wpAny_bind (jQ pl (wpAny_bind (jQ pu (wpAny_bind (wpAny_pure ?_)))));show wpAny _ _ (match Builtin.Slice.sliceAdjust lo hi 1 (n:Int) with|(lo,hi)=>pure (lo,(1:Int),Builtin.Slice.slicePlaces lo hi 1)) _ _ s
 rw[oH lo hi n];show wpAny _ _ (pure (((sIx n 0 lo:Nat):Int),(1:Int),Builtin.Slice.slicePlaces ((sIx n 0 lo:Nat):Int) ((sIx n n hi:Nat):Int) 1)) _ _ s;rw[oI];exact wpAny_pure h
theorem rV(xs:Array Value)(i k:Nat):((List.range k).filterMap fun(m:Nat)=>xs[((i:Int)+(m:Int)*1).toNat]?).toArray=((xs.toList.drop i).take k).toArray:=by
 have e:(fun(m:Nat)=>xs[((i:Int)+(m:Int)*1).toNat]?)=fun m=>xs[i+m]?:=by
  funext m
  have:((i:Int)+(m:Int)*1).toNat=i+m:=by lia
  rw[this]
 rw[e];have:=pick_run xs i k;rw[List.filterMap_map]at this;have e2:((fun x=>xs[x]?) ∘ fun x=>i+x)=fun m=>xs[i+m]?:=rfl;rw[e2]at this;rw[this]
theorem getItem_tuple_cut{t sl:Addr}{items:Array Value}{vl vu:Value}{lo hi:Option Int}{Q:Value->Shared->Prop}(ht:IsTup s.heap t items)(hs:s.heap.IsSliceOf sl vl vu .none)(pl:IsPart vl lo)(pu:IsPart vu hi)
  (hw:¬ (sIx items.size 0 lo=0/\sIx items.size items.size hi=items.size))
  (h:Q (.ref s.heap.objs.size) { s with heap:=s.heap.push { cls:=.type "tuple",data:=.seq ((items.toList.drop (sIx items.size 0 lo)).take (sIx items.size items.size hi-sIx items.size 0 lo)).toArray } })
  (hsz:items.size<=sizeLine):wpAny (model prog w) A (getItem (.ref t) (.ref sl)) Q E s:=by
 have htake:sizeOk (.seq ((items.toList.drop (sIx items.size 0 lo)).take (sIx items.size items.size hi-sIx items.size 0 lo)).toArray):=by
  show((items.toList.drop (sIx items.size 0 lo)).take (sIx items.size items.size hi-sIx items.size 0 lo)).toArray.size<=sizeLine;rw[Qa,List.length_take,Zk,Qg];exact Wb (Nat.min_le_right _ _) (Wb (Nat.sub_le _ _) hsz)
 have hj:sIx items.size items.size hi<=items.size:=wC _ _ (Wa _) hi;obtain⟨os,hos,hcs,hds⟩:=id hs;have hTs:s.TypeIs (.ref sl) "slice":=⟨os,hos,hcs⟩;unfold getItem
 try with_reducible refine wpAny_holding ?_
 first|refine wpAny_bind (wpAny_pure ?_)|skip
 refine wpAny_bind (wpAny_sequenceKey ht.typeIs (by decide) ?_)
 refine wpAny_bind (wpAny_callSpecial?_slot (name:=Str.ofString "__getitem__") ht.typeIs PyProof.Rows.slot_tuple_getitem
  (wpAny_call_entry PyProof.Rows.slot_tuple_getitem ht.typeIs entry_tuple_getitem ?_ (args_tuple_getitem _ _)))
 show wpAny _ _ (Builtin.Tuple.tupleItemsOf (.ref t) >>= _) _ _ s;refine wpAny_bind (tupleItemsOf_ ht ?_);refine wpAny_bind (wpAny_typeOf hTs ?_);rw[if_pos (by decide)]
 refine wpAny_bind (d7 hs pl pu ?_);have hno:¬ ((((sIx items.size 0 lo:Nat):Int) == 0&&(1:Int) == 1&&(sIx items.size items.size hi-sIx items.size 0 lo) == items.size)=true):=by
  intro q;rw[Xe,Xe]at q;have q1:((sIx items.size 0 lo:Nat):Int)=0:=eq_of_beq q.1.1;have q2:sIx items.size items.size hi-sIx items.size 0 lo=items.size:=eq_of_beq q.2;exact hw ⟨by lia,by lia⟩
 show wpAny _ _ (if (((sIx items.size 0 lo:Nat):Int) == 0&&(1:Int) == 1&&(sIx items.size items.size hi-sIx items.size 0 lo) == items.size)=true then _ else _) _ _ s;rw[if_neg hno,rV]
 first
  | exact wpAny_bind (m:=Builtin.Tuple.tupleExact _) (wpAny_newObj_type (wpAny_pure ⟨_,rfl,wpAny_pure h⟩) htake)
  | exact wpAny_bind (m:=Builtin.Tuple.tupleExact _) (wpAny_newObj_type (wpAny_bind (wpAny_pure (wpAny_pure ⟨_,rfl,wpAny_pure h⟩))) htake)
  | exact wpAny_bind (wpAny_bind (m:=Builtin.Tuple.tupleExact _) (wpAny_newObj_type (wpAny_pure (wpAny_pure ⟨_,rfl,wpAny_pure h⟩)) htake))
  | exact wpAny_bind (wpAny_bind (m:=Builtin.Tuple.tupleExact _) (wpAny_newObj_type (wpAny_pure ⟨_,rfl,wpAny_pure h⟩) htake))
end
end HT
namespace L2
open PySem PySem.Spec PyProof.Rows
noncomputable abbrev TO:=St->Hp->(Option Int->Hp->Prop)->Prop
noncomputable def PO(X:Cx)(e:Option Expr)(t:TO):Prop :=
 ∀(pins:List (Addr×Obj))(s:Shared)(σ:St)(H:Hp)(Q:Option Int->Hp->Prop),Inv X pins σ H s->t σ H Q ->
  wpAny (model X.prog X.w) X.A (evalPart e X.env) (fun u s'=>∃o H',Inv X pins σ H' s'/\IsPart u o/\Q o H') X.xe s
noncomputable def pT:TO:=fun _ H Q=>Q none H
noncomputable def vD(t:TE):TO:=fun σ H Q=>t σ H fun x H1=>∃i,x=.int i/\Q (some i) H1
section
variable {X:Cx}{e:Expr}{te:TE}{lo hi:Option Expr}{tl th:TO}{pos p2:Pos}
theorem jG:PO X none pT:=by
 intro pins s σ H Q I h;rw[evalPart_none];exact wpAny_pure ⟨none,H,I,.none,h⟩
theorem dD(h:PE X e te):PO X (some e) (vD te):=by
 intro pins s σ H Q I hw;rw[evalPart_some];refine thn (h pins s σ H _ I hw) fun u s1 zz9=>?_;obtain⟨x,H1,I1,r1,q1⟩:=zz9;obtain⟨i,rfl,q⟩:=q1;obtain⟨t,rfl⟩:=r1;exact⟨some i,H1,I1,.int i t,q⟩
noncomputable def SlR(X:Cx)(r:V->Option Int->Option Int->Hp->VK->Prop):Prop :=
 ∀(pins:List (Addr×Obj))(s:Shared)(σ:St)(H:Hp)(x:V)(v vl vu:Value)(lo hi:Option Int)(sl:Addr)(Q:VK),Inv X pins σ H s->RelV x v->s.heap.IsSliceOf sl vl vu .none->IsPart vl lo->IsPart vu hi->r x lo hi H Q ->
  ∃T id,typeLookup (.type T) "__getitem__"=pure (some (.builtin id))/\s.TypeIs v T/\wpAny (model X.prog X.w) X.A (getItem v (.ref sl)) (EP X pins σ Q) X.xe s
theorem SlR.or{r r':V->Option Int->Option Int->Hp->VK->Prop}(h:SlR X r)(h':SlR X r'):SlR X (fun x lo hi H Q=>r x lo hi H Q∨r' x lo hi H Q):=by
 intro pins s σ H x v vl vu lo hi sl Q I rx hs pl pu q;rcases q with q|q
 ·exact h pins s σ H x v vl vu lo hi sl Q I rx hs pl pu q
 ·exact h' pins s σ H x v vl vu lo hi sl Q I rx hs pl pu q
noncomputable def tSl(r:V->Option Int->Option Int->Hp->VK->Prop)(te:TE)(tl th:TO):TE:=fun σ H Q=>te σ H fun x H1=>tl σ H1 fun l H2=>th σ H2 fun u H3=>r x l u H3 Q
theorem d8{r:V->Option Int->Option Int->Hp->VK->Prop}(hr:SlR X r)(he:PE X e te)(hl:PO X lo tl)(hu:PO X hi th):PE X (.Subscript e (.Slice lo hi none p2) pos) (tSl r te tl th):=by
 intro pins s σ H Q I h;refine Subscript_ (thn (he pins s σ H _ I h) fun v s1 zz9=>?_);obtain⟨x,H1,I1,r1,q1⟩:=zz9;refine wpAny_Slice (thn (hl pins s1 σ H1 _ I1 q1) fun vl s2 ⟨l,H2,I2,pl,q2⟩=>thn (hu pins s2 σ H2 _ I2 q2) fun vu s3 zz9=>?_);obtain⟨u,H3,I3,pu,q3⟩:=zz9;rw[evalPart_none];refine wpAny_pure ?_;have I4:Inv X pins σ H3 { s3 with heap:=s3.heap.push { cls:=.type "slice",data:=.fields #[vl,vu,.none] } }:=I3.kept (t':=s3.toks) fun b ob q=>Heap.get?_push_of_some _ q;obtain⟨T,id,hT,ht,hg⟩:=hr pins { s3 with heap:=s3.heap.push { cls:=.type "slice",data:=.fields #[vl,vu,.none] } } σ H3 x v vl vu l u s3.heap.objs.size Q I4 r1 (Heap.IsSliceOf.new ..) pl pu q3;show wpAny (model X.prog X.w) X.A (subscriptTail e (.Slice lo hi none p2) v (.ref s3.heap.objs.size)) (EP X pins σ Q) X.xe { s3 with heap:=s3.heap.push { cls:=.type "slice",data:=.fields #[vl,vu,.none] } };exact tail_any (ops:=[.ref s3.heap.objs.size,v]) ht hT hg (by with_unfolding_all rfl)
noncomputable def nE(xs:List V)(lo hi:Option Int):List V:=(xs.drop (HT.sIx xs.length 0 lo)).take (HT.sIx xs.length xs.length hi-HT.sIx xs.length 0 lo)
theorem jg(xs:List V)(lo hi:Option Int):(nE xs lo hi).length<=xs.length:=by
 unfold nE;rw[List.length_take,Zk];lia
noncomputable def wD(K:PySem.W.Frag):V->Option Int->Option Int->Hp->VK->Prop:=fun x lo hi H Q=>∃a xs,x=.ref a/\SqT K H a xs /\
 ¬ (HT.sIx xs.length 0 lo=0/\HT.sIx xs.length xs.length hi=xs.length)/\∀p,H p=none->Q (.ref p) (upd H p (.tup (nE xs lo hi)))
theorem wE:SlR X (wD X.K):=by
 intro pins s σ H x v vl vu lo hi sl Q I rx hs pl pu h;obtain⟨a,xs,rfl,hx,hw,q⟩:=h;cases rx;obtain⟨its,r,ht,hz⟩:=I.tuple hx;have hlen:its.toArray.size=xs.length:=by rw[Qa];exact r.length.symm
 refine⟨"tuple",_,PyProof.Rows.slot_tuple_getitem.lookup,ht.typeIs,?_⟩;refine HT.getItem_tuple_cut ht hs pl pu (by rw[hlen];exact hw) ?_ (by rw[hlen];exact hz)
 rw[hlen];refine⟨.ref s.heap.objs.size,_,I.laid (t':=s.toks) (o:=.tup (nE xs lo hi)) (fun b ob q=>Heap.get?_push_of_some _ q) (Wa _) ?_,rfl,q _ (I.hok.fresh (Wa _))⟩;exact⟨Wb (jg xs lo hi) hz,_,(r.drop (HT.sIx xs.length 0 lo)).take (HT.sIx xs.length xs.length hi-HT.sIx xs.length 0 lo),IsTup.new _ _⟩
noncomputable def rW(K:PySem.W.Frag):R2:=fun x y H Q=>∃a b xs ys,x=.ref a/\y=.ref b/\SqT K H a xs/\SqT K H b ys/\xs≠[]/\xs.length+ys.length<=sizeLine /\
 (ys=[]->Q (.ref a) H)/\(ys≠[]->∀p,H p=none->Q (.ref p) (upd H p (.tup (xs++ys))))
theorem Vals.nil_iff{xs:List V}{us:List Value}(r:Vals xs us):us=[]↔xs=[]:=by
 cases r with
 | nil=>simp
 | cons _ _=>simp
theorem uw:OpR X (binaryOp .Add) (rW X.K):=by
 intro pins s σ H x y v u Q I rx ry h;obtain⟨a,b,xs,ys,rfl,rfl,ha,hb,hx,hz,q1,q2⟩:=h;cases rx;cases ry;obtain⟨its,r1,p1,_⟩:=I.tuple ha;obtain⟨its2,r2,p2,_⟩:=I.tuple hb;refine HT.cat_tup p1 p2 (fun z=>hx (r1.nil_iff.mp z)) (fun z=>⟨.ref a,H,I,rfl,q1 (r2.nil_iff.mp z)⟩) (fun z=>?_) (by rw[← r1.length,← r2.length];exact hz)
 refine⟨.ref s.heap.objs.size,_,I.laid (t':=s.toks) (o:=.tup (xs++ys)) (fun b ob q=>Heap.get?_push_of_some _ q) (Wa _) ?_,rfl,q2 (fun w=>z (r2.nil_iff.mpr w)) _ (I.hok.fresh (Wa _))⟩;exact⟨by rw[Za];exact hz,_,r1.append r2,IsTup.new _ _⟩
end
end L2
namespace L2
open PySem PySem.Spec PyProof.Rows
noncomputable def ixN(n:Nat)(i:Int):Option Nat:=if 0<=i then(if i<n then some i.toNat else none) else if -(n:Int)<=i then some (i+n).toNat else none
noncomputable def atI{α:Type}(xs:List α)(i:Int):Option α:=(ixN xs.length i).bind fun j=>xs[j]?
theorem pU{n:Nat}{i:Int}{j:Nat}(h:ixN n i=some j):seqIndex? i n=some j/\j<n/\-(n:Int)<=i/\i<n:=by
 unfold ixN at h;by_cases h0:0<=i
 ·rw[if_pos h0]at h;by_cases h1:i<n
  ·rw[if_pos h1]at h;have e:i.toNat=j:=Option.some.inj h;exact⟨by rw[seqIndex_of h0 h1,e],by lia,by lia,h1⟩
  ·rw[if_neg h1]at h;cases h
 ·rw[if_neg h0]at h;by_cases h1:-(n:Int)<=i
  ·rw[if_pos h1]at h;have e:(i+n).toNat=j:=Option.some.inj h;exact⟨by rw[seqIndex_neg (by lia) h1,e],by lia,h1,by lia⟩
  ·rw[if_neg h1]at h;cases h
theorem ma{α:Type}{xs:List α}{i:Int}{v:α}(h:atI xs i=some v):∃j,seqIndex? i xs.length=some j/\xs[j]?=some v/\j<xs.length/\-(xs.length:Int)<=i/\i<xs.length:=by
 unfold atI at h;cases e:ixN xs.length i with
 | none=>rw[e]at h;cases h
 | some j =>
  rw[e]at h;obtain⟨h1,h2,h3,h4⟩:=pU e;exact⟨j,h1,h,h2,h3,h4⟩
theorem md{α:Type}{xs:List α}{j:Nat}{v:α}(h:xs[j]?=some v):atI xs (j:Int)=some v:=by
 have hj:j<xs.length:=(Qc.mp h).1;have e:ixN xs.length (j:Int)=some j:=by
  unfold ixN;rw[if_pos (by lia),if_pos (by lia)];simp
 unfold atI;rw[e];exact h
noncomputable def pV(b:Expr):Prop:=∀o i,subscripted b false o i=operate [o,i] (getItem o i)
noncomputable def IxR(X:Cx)(r:R2):Prop :=
 ∀(value slice:Expr)(pins:List (Addr×Obj))(s:Shared)(σ:St)(H:Hp)(x y:V)(v u:Value)(Q:VK),Inv X pins σ H s->RelV x v->RelV y u->r x y H Q ->
  subscripted slice false v u=operate [v,u] (getItem v u)->wpAny (model X.prog X.w) X.A (subscriptTail value slice v u) (EP X pins σ Q) X.xe s
noncomputable def MtR(X:Cx)(id:String)(r:V->List V->Hp->VK->Prop):Prop :=
 ∀(pins:List (Addr×Obj))(s:Shared)(σ:St)(H:Hp)(x:V)(xs:List V)(v:Value)(us:List Value)(Q:VK),Inv X pins σ H s->RelV x v->Vals xs us->r x xs H Q ->
  wpAny (model X.prog X.w) X.A (call (.builtin id) (v::us)) (EP X pins σ Q) X.xe s
section
variable {X:Cx}{a b:Expr}{ta tb:TE}{pos:Pos}
theorem IxR.or{r r':R2}(h:IxR X r)(h':IxR X r'):IxR X (fun x y H Q=>r x y H Q∨r' x y H Q):=by
 intro value slice pins s σ H x y v u Q I rx ry q hs;rcases q with q|q
 ·exact h value slice pins s σ H x y v u Q I rx ry q hs
 ·exact h' value slice pins s σ H x y v u Q I rx ry q hs
theorem yp{r:R2}(hr:IxR X r)(ha:PE X a ta)(hb:PE X b tb)(hs:pV b):PE X (.Subscript a b pos) (tOp r ta tb):=by
 intro pins s σ H Q I h;exact Subscript_ (wu ha hb I h fun v u s2 x y H2 I2 rx ry q=>hr a b pins s2 σ H2 x y v u Q I2 rx ry q (hs _ _))
noncomputable def wF(K:PySem.W.Frag):R2:=fun x y H Q=>∃p xs i v,x=.ref p/\y=.int i/\SqL K H p xs/\atI xs i=some v/\Q v H
noncomputable def wG(K:PySem.W.Frag):R2:=fun x y H Q=>∃p xs i v,x=.ref p/\y=.int i/\SqT K H p xs/\atI xs i=some v/\Q v H
noncomputable def wH:R2:=fun x y H Q=>∃z i c,x=.str z/\y=.int i/\z.length<=sizeLine/\atI z.cps.toList i=some c/\Q (.str ⟨#[c]⟩) H
theorem ix_list:IxR X (wF X.K):=by
 intro value slice pins s σ H x y v u Q I rx ry h hs;obtain⟨p,xs,i,z,rfl,rfl,hq,he,q⟩:=h;cases rx;obtain⟨t,rfl⟩:=ry;obtain⟨its,r,pl,hz⟩:=I.list hq;obtain⟨j,h1,h2,h3,h4,h5⟩:=ma he;obtain⟨w,ew,rw'⟩:=r.get h2;have hl:=r.length;have hn:=iU;have fin:EP X pins σ Q w s:=⟨z,H,I,rw',q⟩;by_cases h0:0<=i
 ·have hj:i.toNat=j:=by
   rw[seqIndex_of h0 h5]at h1;exact Option.some.inj h1
  exact item_listR pl.isList h0 (by lia) (by rw[hj];simpa using ew) fin hs
 ·have hj:(i+(its.toArray.size:Int)).toNat=j:=by
   rw[seqIndex_neg (by lia) h4]at h1
   rw[Qa,← hl];exact Option.some.inj h1
  exact subscriptTail_builtinR (x:=w) pl.isList.typeIs slot_list_getitem.lookup
   (wpAny_getItem_list_neg (Q:=fun r s'=>r=w/\EP X pins σ Q r s') pl.isList (by lia) (by rw[Qa]<;>lia) (by lia) (by rw[hj];simpa using ew) ⟨rfl,fin⟩) hs
theorem ix_tup:IxR X (wG X.K):=by
 intro value slice pins s σ H x y v u Q I rx ry h hs;obtain⟨p,xs,i,z,rfl,rfl,hq,he,q⟩:=h;cases rx;obtain⟨t,rfl⟩:=ry;obtain⟨its,r,pl,hz⟩:=I.tuple hq;obtain⟨j,h1,h2,h3,h4,h5⟩:=ma he;obtain⟨w,ew,rw'⟩:=r.get h2;have hl:=r.length;have hn:=iU;have fin:EP X pins σ Q w s:=⟨z,H,I,rw',q⟩;exact subscriptTail_builtinR (x:=w) pl.typeIs slot_tuple_getitem.lookup
  (getItem_tuple (j:=j) (Q:=fun r s'=>r=w/\EP X pins σ Q r s') pl (by lia) (by lia) (by rw[Qa,← hl];exact h1) (by simpa using ew) ⟨rfl,fin⟩) hs
theorem ix_str:IxR X wH:=by
 intro value slice pins s σ H x y v u Q I rx ry h hs;obtain⟨z,i,c,rfl,rfl,hz,he,q⟩:=h;obtain⟨t,rfl⟩:=rx;obtain⟨t',rfl⟩:=ry;obtain⟨j,h1,h2,h3,h4,h5⟩:=ma he;have hl:z.cps.toList.length=z.length:=by simp[Str.length]
 rw[hl]at h1 h4 h5;have hn:=iU
 exact tail_any (typeIs_str s z t) slot_str_getitem.lookup (getItem_str (c:=c) (by
  have e1:decide (i < -(2 ^ 63:Int))=false:=decide_eq_false (by lia)
  have e2:decide (i ≥ 2 ^ 63)=false:=decide_eq_false (by lia)
  rw[e1,e2,Bool.or_false]) (by rw[h1];simpa using h2) ⟨.str ⟨#[c]⟩,H,I.tok _,⟨_,rfl⟩,q⟩) hs
noncomputable def rIx(K:PySem.W.Frag):R2:=fun x y H Q=>wF K x y H Q∨wG K x y H Q∨wH x y H Q
theorem wI:IxR X (rIx X.K):=ix_list.or (ix_tup.or ix_str)
theorem oJ(its:List Value)(n j:Nat)(u:Value):Obj.mapSeq (·.setIfInBounds j u) { cls:=.type "list",data:=.seq its.toArray n }={ cls:=.type "list",data:=.seq (its.set j u).toArray n }:=by
 simp[Obj.mapSeq]
theorem Inv.lst{pins:List (Addr×Obj)}{σ:St}{H:Hp}{s:Shared}{p:Addr}{xs:List V}(I:Inv X pins σ H s)(h:H p=some (.lst xs)) :
  ∃(its:List Value)(n:Nat),Vals xs its/\s.heap.get? p=some { cls:=.type "list",data:=.seq its.toArray n }/\xs.length<=sizeLine:=by
 obtain⟨z,its,n,r,e⟩:=I.hok p _ h;exact⟨its,n,r,e,z⟩
theorem Inv.lstUpd{pins:List (Addr×Obj)}{σ:St}{H:Hp}{s:Shared}{p:Addr}{xs ys:List V}{its its':List Value}{n n':Nat}{f:Obj->Obj}(I:Inv X pins σ H s)(h:H p=some (.lst xs))
  (ho:s.heap.get? p=some { cls:=.type "list",data:=.seq its.toArray n })(hf:f { cls:=.type "list",data:=.seq its.toArray n }={ cls:=.type "list",data:=.seq its'.toArray n' })(r:Vals ys its')(hz:ys.length<=sizeLine)(t':Nat)(ht:0<t':=by first|assumption|exact Xf _|exact Inv.tk (by assumption)|exact Inv.tkl (by assumption) (by assumption)|lia) :
  Inv X pins σ (upd H p (.lst ys)) { s with heap:=s.heap.update p f,toks:=t' }:=by
 have e:(s.heap.update p f).get? p=some { cls:=.type "list",data:=.seq its'.toArray n' }:=by
  rw[Heap.get?_update_self f ho (by rw[hf]<;>rfl),hf]
 refine I.write (x:=p) (e:=p) (by rw[h];trivial) (.inl rfl) (fun b u hb q=>(Heap.get?_update_other _ _ (Ne.symm hb)).trans q) ⟨_,e⟩ ?_
 exact⟨hz,its',n',r,e⟩
noncomputable def vE:V->V->V->Hp->(Hp->Prop)->Prop:=fun o i v H Q=>∃p xs k j,o=.ref p/\i=.int k/\H p=some (.lst xs)/\ixN xs.length k=some j/\Q (upd H p (.lst (xs.set j v)))
theorem set_list:wm X vE:=by
 intro pins s σ H o i v ov iv u Q I ro ri rv h;obtain⟨p,xs,k,j,rfl,rfl,hp,hj,q⟩:=h;cases ro;obtain⟨t,rfl⟩:=ri;obtain⟨its,n,r,ho,hz⟩:=I.lst hp;obtain⟨h1,h2,h3,h4⟩:=pU hj;have hl:=r.length;have hn:=iU;have I':Inv X pins σ (upd H p (.lst (xs.set j v))) { s with heap:=s.heap.update p (Obj.mapSeq (·.setIfInBounds j u)) } :=
  I.lstUpd hp ho (oJ its n j u) (r.set rv j) (by rw[List.length_set];exact hz) s.toks
 by_cases h0:0<=k
 ·have hk:k.toNat=j:=by
   rw[seqIndex_of h0 h4]at h1;exact Option.some.inj h1
  exact PySem.W.ki_setAt ho h0 (by lia) (by rw[Qa,← hl];exact h4) (by rw[hk];exact⟨_,I',q⟩)
 ·have hk:(k+(its.toArray.size:Int)).toNat=j:=by
   rw[seqIndex_neg (by lia) h3]at h1
   rw[Qa,← hl];exact Option.some.inj h1
  exact PySem.W.ki_setBack ho (by lia) (by rw[Qa,← hl];exact h3) (by lia) (by rw[hk];exact⟨_,I',q⟩)
theorem rX(i:Int)(n:Nat):max 0 (min (if i<0 then i+(n:Int) else i) (n:Int))=(((if i<0 then(i+(n:Int)).toNat else min i.toNat n):Nat):Int):=by
 by_cases h:i<0
 ·rw[if_pos h,if_pos h,Int.min_eq_left (by lia),Int.max_comm];exact(Int.ofNat_toNat _).symm
 ·rw[if_neg h,if_neg h,HT.clip_nat i n h];exact Int.max_eq_right (Int.natCast_nonneg _)
theorem me(lo hi:Option Int)(n:Nat):(sliceBounds lo hi none n).1=((HT.sIx n 0 lo:Nat):Int)/\(sliceBounds lo hi none n).2.1=((HT.sIx n n hi:Nat):Int)/\(sliceBounds lo hi none n).2.2=1:=by
 refine⟨?_,?_,rfl⟩
 ·cases lo with
  | none=>simp[sliceBounds,HT.sIx]
  | some i=>exact rX i n
 ·cases hi with
  | none=>simp[sliceBounds,HT.sIx]
  | some i=>exact rX i n
theorem kN(its:List Value)(lo hi:Option Int):slicePick its.toArray lo hi none=((its.drop (HT.sIx its.length 0 lo)).take (HT.sIx its.length its.length hi-HT.sIx its.length 0 lo)).toArray:=by
 obtain⟨h1,h2,h3⟩:=me lo hi its.toArray.size;unfold slicePick;rw[h1,h2,h3];simp only[sliceRange_one,pick_run,Qa]<;>rfl
noncomputable def wJ(K:PySem.W.Frag):V->Option Int->Option Int->Hp->VK->Prop:=fun x lo hi H Q=>∃a xs,x=.ref a/\SqL K H a xs/\∀p,H p=none->Q (.ref p) (upd H p (.lst (nE xs lo hi)))
theorem ux:SlR X (wJ X.K):=by
 intro pins s σ H x v vl vu lo hi sl Q I rx hs pl pu h;obtain⟨a,xs,rfl,hx,q⟩:=h;cases rx;obtain⟨its,r,ht,hz⟩:=I.list hx;have hlen:=r.length;refine⟨"list",_,slot_list_getitem.lookup,ht.isList.typeIs,?_⟩;refine wpAny_getItem_list_slice ht.isList hs pl pu .none (by simp) ?_ (by rw[Qa]<;>lia)
 rw[kN,← hlen];refine⟨.ref s.heap.objs.size,_,I.laid (t':=s.toks) (o:=.lst (nE xs lo hi)) (fun b ob q=>Heap.get?_push_of_some _ q) (Wa _) ?_,rfl,q _ (I.hok.fresh (Wa _))⟩;exact⟨Wb (jg xs lo hi) hz,_,0,(r.drop (HT.sIx xs.length 0 lo)).take (HT.sIx xs.length xs.length hi-HT.sIx xs.length 0 lo),Heap.get?_push_size _ rfl⟩
noncomputable def gJ:V->Bool
 | .non=>true
 | .bl _=>true
 | .int _=>true
 | .str _=>true
 | _=>false
noncomputable def eqV:V->V->Bool
 | .non,.non=>true
 | .bl a,.bl b=>a == b
 | .bl a,.int b=>(if a then 1 else 0) == b
 | .int a,.bl b=>a == (if b then 1 else 0)
 | .int a,.int b=>a == b
 | .str a,.str b=>a == b
 | _,_=>false
theorem wK{A:Around}{s:Shared}{y x:V}{u v:Value}(ry:RelV y u)(rx:RelV x v)(fy:gJ y=true)(fx:gJ x=true):SeqAt.EqAt A s u v (eqV y x):=by
 cases y with
 | non =>
  cases ry;cases x with
  | non=>cases rx;exact SeqAt.EqAt.same _
  | bl b=>cases rx;exact SeqAt.EqAt.none_bool b
  | int b=>obtain⟨t,rfl⟩:=rx;exact SeqAt.EqAt.none_int b t
  | str b=>obtain⟨t,rfl⟩:=rx;exact SeqAt.EqAt.none_str b t
  | _=>exact absurd (show false=true from fx) Qb
 | bl a =>
  cases ry;cases x with
  | non=>cases rx;exact SeqAt.EqAt.bool_none a
  | bl b=>cases rx;exact SeqAt.EqAt.bool_bool a b
  | int b=>obtain⟨t,rfl⟩:=rx;exact SeqAt.EqAt.bool_int a b t
  | str b=>obtain⟨t,rfl⟩:=rx;exact SeqAt.EqAt.bool_str a b t
  | _=>exact absurd (show false=true from fx) Qb
 | int a =>
  obtain⟨t',rfl⟩:=ry;cases x with
  | non=>cases rx;exact SeqAt.EqAt.int_none a t'
  | bl b=>cases rx;exact SeqAt.EqAt.int_bool a t' b
  | int b=>obtain⟨t,rfl⟩:=rx;exact SeqAt.EqAt.int_int a t' b t
  | str b=>obtain⟨t,rfl⟩:=rx;exact SeqAt.EqAt.int_str a t' b t
  | _=>exact absurd (show false=true from fx) Qb
 | str a =>
  obtain⟨t',rfl⟩:=ry;cases x with
  | non=>cases rx;exact SeqAt.EqAt.str_none a t'
  | bl b=>cases rx;exact SeqAt.EqAt.str_bool a t' b
  | int b=>obtain⟨t,rfl⟩:=rx;exact SeqAt.EqAt.str_int a t' b t
  | str b=>obtain⟨t,rfl⟩:=rx;exact SeqAt.EqAt.str_str a t' b t
  | _=>exact absurd (show false=true from fx) Qb
 | _=>exact absurd (show false=true from fy) Qb
noncomputable def eqU(x:V)(u:Value):Bool:=match u with
 | .none=>eqV .non x
 | .bool b=>eqV (.bl b) x
 | .int i _=>eqV (.int i) x
 | .str z _=>eqV (.str z) x
 | _=>false
theorem rY{x y:V}{u:Value}(r:RelV y u)(f:gJ y=true):eqU x u=eqV y x:=by
 cases y with
 | non=>cases r;rfl
 | bl b=>cases r;rfl
 | int i=>obtain⟨t,rfl⟩:=r;rfl
 | str z=>obtain⟨t,rfl⟩:=r;rfl
 | _=>exact absurd (show false=true from f) Qb
theorem ik{x:V}:∀{xs:List V}{us:List Value},Vals xs us->xs.all gJ=true->us.any (eqU x)=xs.any fun y=>eqV y x
 | _,_,.nil,_=>rfl
 | y::xs,u::us,.cons r t,f=>by
  rw[Qj,Xe]at f;rw[Wi,Wi,rY r f.1,ik t f.2]
theorem fI{A:Around}{s:Shared}{x:V}{v:Value}(rx:RelV x v)(fx:gJ x=true):∀{xs:List V}{us:List Value},Vals xs us->xs.all gJ=true->∀u∈us,SeqAt.EqAt A s u v (eqU x u)
 | _,_,.nil,_=>fun u hu=>by cases hu
 | y::xs,u::us,.cons r t,f=>fun u' hu=>by
  rw[Qj,Xe]at f;rcases Xd.mp hu with rfl|hu
  ·rw[rY r f.1];exact wK r rx f.1 fx
  ·exact fI rx fx t f.2 u' hu
noncomputable def inV(x:V)(xs:List V):Bool:=xs.any fun y=>eqV y x
noncomputable def rIn(K:PySem.W.Frag)(neg:Bool):R2:=fun x y H Q=>∃p xs,y=.ref p/\(SqL K H p xs∨SqT K H p xs)/\gJ x=true/\xs.all gJ=true/\Q (.bl (if neg then !inV x xs else inV x xs)) H
theorem qO:OpR X (compareOp .In) (rIn X.K false):=by
 intro pins s σ H x y v u Q I rx ry h;obtain⟨p,xs,rfl,hq,fx,fs,q⟩:=h;cases ry;rcases hq with hq|hq
 ·obtain⟨its,r,pl,hz⟩:=I.list hq;refine SeqAt.in_listAt (eqU x) pl.isList (fun w hw=>fI rx fx r fs w (by simpa using hw)) ⟨.bl _,H,I,rfl,?_⟩
  rw[show its.toArray.any (eqU x)=its.any (eqU x) by simp,ik r fs]
  exact q
 ·obtain⟨its,r,pl,hz⟩:=I.tuple hq;refine SeqAt.in_tupleAt (eqU x) pl (fun w hw=>fI rx fx r fs w (by simpa using hw)) ⟨.bl _,H,I,rfl,?_⟩
  rw[show its.toArray.any (eqU x)=its.any (eqU x) by simp,ik r fs]
  exact q
theorem mf:OpR X (compareOp .NotIn) (rIn X.K true):=by
 intro pins s σ H x y v u Q I rx ry h;obtain⟨p,xs,rfl,hq,fx,fs,q⟩:=h;cases ry;rcases hq with hq|hq
 ·obtain⟨its,r,pl,hz⟩:=I.list hq;refine SeqAt.notIn_listAt (eqU x) pl.isList (fun w hw=>fI rx fx r fs w (by simpa using hw)) ⟨.bl _,H,I,rfl,?_⟩
  rw[show its.toArray.any (eqU x)=its.any (eqU x) by simp,ik r fs]
  exact q
 ·obtain⟨its,r,pl,hz⟩:=I.tuple hq;refine SeqAt.notIn_tupleAt (eqU x) pl (fun w hw=>fI rx fx r fs w (by simpa using hw)) ⟨.bl _,H,I,rfl,?_⟩
  rw[show its.toArray.any (eqU x)=its.any (eqU x) by simp,ik r fs]
  exact q
theorem mh:CallR X (.builtin "len") (fun xs H Q=>∃p ys,xs=[.ref p]/\(SqL X.K H p ys∨SqT X.K H p ys)/\Q (.int ys.length) H):=by
 intro pins s σ H xs us Q I r h;obtain⟨p,ys,rfl,hq,q⟩:=h;obtain⟨u,rfl,rx⟩:=vals1 r;cases rx;have hn:=iU;rcases hq with hq|hq
 ·obtain⟨its,r',pl,hz⟩:=I.list hq;have hlen:=r'.length;exact Calls.call_len_list pl.isList (by simp only[Qa]<;>lia) ⟨.int ys.length,H,I.tok _,⟨s.toks+1,by rw[Qa,hlen]⟩,q⟩
 ·obtain⟨its,r',pl,hz⟩:=I.tuple hq;have hlen:=r'.length;exact len_tuple pl (by simp only[Qa]<;>lia) ⟨.int ys.length,H,I.tok _,⟨s.toks+1,by rw[Qa,hlen]⟩,q⟩
theorem mi:CallR X (.builtin "len") (fun xs H Q=>∃z,xs=[.str z]/\z.length<=sizeLine/\Q (.int z.length) H):=by
 intro pins s σ H xs us Q I r h;obtain⟨z,rfl,hz,q⟩:=h;obtain⟨u,rfl,t,rfl⟩:=vals1 r;have hn:=iU;exact len_str (by lia) ⟨.int z.length,H,I.tok _,⟨_,rfl⟩,q⟩
theorem CallR.or{f:Value}{r r':List V->Hp->VK->Prop}(h:CallR X f r)(h':CallR X f r'):CallR X f (fun xs H Q=>r xs H Q∨r' xs H Q):=by
 intro pins s σ H xs us Q I rs q;rcases q with q|q
 ·exact h pins s σ H xs us Q I rs q
 ·exact h' pins s σ H xs us Q I rs q
theorem mj:CallR X (.type "list") (fun xs H Q=>∃p ys,xs=[.ref p]/\(SqL X.K H p ys∨SqT X.K H p ys)/\∀l,H l=none->Q (.ref l) (upd H l (.lst ys))):=by
 intro pins s σ H xs us Q I r h;obtain⟨p,ys,rfl,hq,q⟩:=h;obtain⟨u,rfl,rx⟩:=vals1 r;cases rx;have fin:∀(its:List Value),Vals ys its->ys.length<=sizeLine->∀(h':Heap)(c':Nat),(∀b o',s.heap.get? b=some o'->h'.get? b=some o') ->
   h'.get? s.heap.objs.size=some { cls:=.type "list",dict:=none,data:=.seq its.toArray c',slots:=#[] }->EP X pins σ Q (.ref s.heap.objs.size) { s with heap:=h' }:=fun its r' hz h' c' kp e =>
  ⟨.ref s.heap.objs.size,_,I.laid (t':=s.toks) kp (Wa _) (show ObjOk X.prog X.w _ h' _ (.lst ys) from⟨hz,its,c',r',e⟩),rfl,q _ (I.hok.fresh (Wa _))⟩
 rcases hq with hq|hq
 ·obtain⟨its,r',pl,hz⟩:=I.list hq;have hlen:=r'.length;obtain⟨o,ho,hc,n,hd⟩:=pl.isList;exact call_list_seq p (.inl rfl) ho hc hd (fun h' c' kp e=>fin its r' hz h' c' kp e) (by simp only[Qa]<;>lia)
 ·obtain⟨its,r',pl,hz⟩:=I.tuple hq;have hlen:=r'.length;obtain⟨o,ho,hc,n,hd⟩:=pl;exact call_list_seq p (.inr rfl) ho hc hd (fun h' c' kp e=>fin its r' hz h' c' kp e) (by simp only[Qa]<;>lia)
theorem kO:CallR X (.type "tuple") (fun xs H Q=>∃p ys,xs=[.ref p]/\((SqL X.K H p ys/\∀l,H l=none->Q (.ref l) (upd H l (.tup ys)))∨(SqT X.K H p ys/\Q (.ref p) H))):=by
 intro pins s σ H xs us Q I r h;obtain⟨p,ys,rfl,h⟩:=h;obtain⟨u,rfl,rx⟩:=vals1 r;cases rx;rcases h with⟨hq,q⟩|⟨hq,q⟩
 ·obtain⟨its,r',pl,hz⟩:=I.list hq;have hlen:=r'.length;refine call_tuple_list pl.isList (fun h' kp=>?_) (by simp only[Qa]<;>lia)
  have I1:Inv X pins σ H { s with heap:=h' }:=I.kept (t':=s.toks) kp;have I2:Inv X pins σ (upd H h'.objs.size (.tup ys)) { s with heap:=h'.push { cls:=.type "tuple",data:=.seq its.toArray } } :=
   I1.laid (t':=s.toks) (fun b o e=>Heap.get?_push_of_some _ e) (Wa _) (show ObjOk X.prog X.w _ _ _ (.tup ys) from⟨hz,its,r',IsTup.new _ _⟩)
  exact⟨.ref h'.objs.size,_,I2,rfl,q _ (I1.hok.fresh (Wa _))⟩
 ·obtain⟨its,r',pl,hz⟩:=I.tuple hq;exact call_tuple_same pl ⟨.ref p,H,I,rfl,q⟩
noncomputable def tyV(K:PySem.W.Frag)(T:String)(x:V)(H:Hp):Prop:=match x with
 | .str _=>T="str"
 | .int _=>T="int"
 | .ref p=>(T="list"/\∃xs,SqL K H p xs)∨(T="tuple"/\∃o,K.lookup p=some o/\o.cls=.type "tuple"/\o.dict=none) ∨
   (T="dict"/\((∃kvs,H p=some (.dK kvs))∨∃ep kvs,H p=some (.dT ep kvs)))∨(T="set"/\∃S n,H p=some (.set S n))
 | _=>False
theorem wL{pins:List (Addr×Obj)}{σ:St}{H:Hp}{s:Shared}{T:String}{x:V}{v:Value}(I:Inv X pins σ H s)(r:RelV x v)(ty:tyV X.K T x H) :
  s.TypeIs v T/\∀a,v=.ref a->∃ob,s.heap.get? a=some ob/\ob.dict=none:=by
 cases x with
 | str z =>
  obtain⟨t,rfl⟩:=r;cases (show T="str" from ty);exact⟨typeIs_str s z t,fun _ e=>nomatch e⟩
 | int i =>
  obtain⟨t,rfl⟩:=r;cases (show T="int" from ty);exact⟨typeIs_int s i t,fun _ e=>nomatch e⟩
 | ref p =>
  cases r;rcases ty with⟨rfl,xs,hq⟩|⟨rfl,o,hk,hc,hd⟩|⟨rfl,hk⟩|⟨rfl,S,n,hk⟩
  ·obtain⟨its,_,pl,_⟩:=I.list hq;refine⟨pl.isList.typeIs,fun a e=>?_⟩;cases e;obtain⟨o,n,e,c,hd,_⟩:=pl;exact⟨o,e,hd⟩
  ·refine⟨⟨o,I.kIn p o hk,hc⟩,fun a e=>?_⟩;cases e;exact⟨o,I.kIn _ o hk,hd⟩
  ·have z:∃o,s.heap.get? p=some o/\o.ExactDict:=by
    rcases hk with⟨kvs,hk⟩|⟨ep,kvs,hk⟩
    ·obtain⟨_,_,_,_,o,_,_,e,ex,_⟩:=I.hok p _ hk;exact⟨o,e,ex⟩
    ·obtain⟨_,_,_,_,_,o,_,e,ex,_⟩:=I.hok p _ hk;exact⟨o,e,ex⟩
   obtain⟨o,e,ex⟩:=z;refine⟨⟨o,e,ex.1⟩,fun a e2=>?_⟩;cases e2;exact⟨o,e,ex.2.1⟩
  ·obtain⟨o,_,_,_,e,ex,_⟩:=I.hok p _ hk;refine⟨⟨o,e,ex.1⟩,fun a e2=>?_⟩;cases e2;exact⟨o,e,ex.2.1⟩
 | _=>exact False.elim ty
noncomputable def tBM(K:PySem.W.Frag)(T:String)(r:V->List V->Hp->VK->Prop)(to:TE)(t:TA):TE:=fun σ H Q=>to σ H fun x H1=>tyV K T x H1/\t σ H1 fun xs H2=>r x xs H2 Q
variable {o e:Expr}{es:List Expr}{to:TE}{t:TA}{name:Str}{apos cpos:Pos}{T id:String}{r:V->List V->Hp->VK->Prop}
theorem d9(pa:PlainAttrs T)(slot:Slot T name id)(hty:typeOf (.builtin id)=pure (.type "method_descriptor"))(hm:MtR X id r)(ho:PE X o to)(ha:PA X (e::es) t)
  (hbase:attributeBase o name X.env (eval o X.env)=eval o X.env:=by rfl)
  (hfew:((backTo cpos (starEach (e::es) X.env)).all (fun x=>!x.1)&&(backToKw cpos (keywordEach [] X.env)).all (fun x=>x.1.isSome)
   && decide ((e::es).length+([]:List Keyword).length+(if ([]:List Keyword).isEmpty then 0 else 1)<30))=true:=by rfl)
  (hline:(apos.endLine == cpos.line)=true:=by rfl) (hs:starEach (e::es) X.env=(false,eval e X.env)::starEach es X.env:=by rfl) (hplain:(backTo cpos (starEach es X.env)).any (·.1)=false:=by rfl) :
  PE X (.Call (.Attribute o name apos) (e::es) [] cpos) (tBM X.K T r to t):=by
 intro pins s σ H Q I h;refine wpAny_Call_method_late hbase hfew hline rfl (thn (ho pins s σ H _ I h) fun v s1 zz9=>?_);obtain⟨x,H1,I1,r1,ty,q1⟩:=zz9;obtain⟨h1,h2⟩:=wL I1 r1 ty;refine⟨T,id,pa,slot,hty,h1,h2,?_⟩;have hA:=ha cpos pins s1 σ H1 _ I1 q1;rw[hs]at hA ⊢;refine Calls.callWith_builtin (by show(false||(backTo cpos (starEach es X.env)).any (·.1))=false;rw[hplain]<;>rfl) (Calls.evalArgs_plain ?_)
 exact thn hA fun us s2 ⟨vs,H2,I2,r2,q2⟩=>hm pins s2 σ H2 x vs v us Q I2 r1 r2 q2
end
end L2
namespace L2
open PySem PySem.Spec PyProof.Rows
noncomputable def MtM(X:Cx)(id:String)(r:V->List V->Hp->VK->Prop):Prop :=
 ∀(pins:List (Addr×Obj))(s:Shared)(σ:St)(H:Hp)(x:V)(xs:List V)(v:Value)(us:List Value)(Q:VK),Inv X pins σ H s->RelV x v->Vals xs us->r x xs H Q ->
  wpAny (model X.prog X.w) X.A (call (.builtin id) (v::us)) (EP X pins σ Q) X.xe s
theorem Vals.one:∀{x:V}{us:List Value},Vals [x] us->∃u,us=[u]/\RelV x u
 | _,_,.cons r .nil=>⟨_,rfl,r⟩
theorem Vals.eraseIdx:∀{xs:List V}{us:List Value}(i:Nat),Vals xs us->Vals (xs.eraseIdx i) (us.eraseIdx i)
 | _,_,_,.nil=>.nil
 | _,_,0,.cons _ t=>t
 | _,_,i+1,.cons r t=>.cons r (Vals.eraseIdx i t)
theorem lb{α:Type}:∀(l:List α)(i:Nat),(l.eraseIdx i).length<=l.length
 | [],_=>Wa _
 | _::_,0=>Nat.le_succ _
 | _::r,i+1=>Nat.succ_le_succ (lb r i)
section
variable {X:Cx}{pins:List (Addr×Obj)}{σ:St}{H:Hp}{s:Shared}{l b:Addr}{xs ys zs:List V}
theorem Inv.lset{its its':List Value}{n:Nat}{f:Array Value->Array Value}{t':Nat}(I:Inv X pins σ H s)(hH:H l=some (.lst xs))
  (e:s.heap.get? l=some { cls:=.type "list",data:=.seq its.toArray n })(hf:f its.toArray=its'.toArray)(hv:Vals ys its')(hz:ys.length<=sizeLine)(ht:0<t':=by first|assumption|exact Xf _|exact Inv.tk (by assumption)|exact Inv.tkl (by assumption) (by assumption)|lia) :
  Inv X pins σ (upd H l (.lst ys)) { s with heap:=s.heap.update l (Obj.mapSeq f),toks:=t' }:=by
 have q:=PySem.IsL.update e f;rw[hf]at q;refine I.write (x:=l) (e:=l) (by rw[hH];exact trivial) (.inl rfl) (fun b' u hb hu=>(Heap.get?_update_other s.heap (Obj.mapSeq f) (Ne.symm hb)).trans hu) ⟨_,q⟩ ?_
 exact⟨hz,its',_,hv,q⟩
theorem Inv.lnew{its:List Value}{t':Nat}(I:Inv X pins σ H s)(hv:Vals ys its)(hz:ys.length<=sizeLine)(ht:0<t':=by first|assumption|exact Xf _|exact Inv.tk (by assumption)|exact Inv.tkl (by assumption) (by assumption)|lia) :
  Inv X pins σ (upd H s.heap.objs.size (.lst ys)) { s with heap:=s.heap.push { cls:=.type "list",data:=.seq its.toArray },toks:=t' } :=
 I.laid (fun _ _ q=>Heap.get?_push_of_some _ q) (Wa _) ⟨hz,its,0,hv,Heap.get?_push_size _ rfl⟩
theorem Inv.fresh(I:Inv X pins σ H s):H s.heap.objs.size=none:=I.hok.fresh (Wa _)
theorem Inv.lstM(I:Inv X pins σ H s)(hH:H l=some (.lst xs)):xs.length<=sizeLine/\∃(its:List Value)(n:Nat),Vals xs its/\xs.length=its.length/\s.heap.get? l=some { cls:=.type "list",data:=.seq its.toArray n }:=by
 obtain⟨z,its,n,r,e⟩:=I.hok l _ hH;exact⟨z,its,n,r,r.length,e⟩
theorem nF{n:Nat}(h:n<=sizeLine):Builtin.List.listTooLong n=false:=by
 unfold Builtin.List.listTooLong;exact decide_eq_false (by lia)
end
section
variable {X:Cx}
noncomputable def ml:V->List V->Hp->VK->Prop:=fun x vs H Q=>∃l xs y,x=.ref l/\vs=[y]/\H l=some (.lst xs)/\xs.length<sizeLine/\Q .non (upd H l (.lst (xs++[y])))
theorem qP:MtM X "list.append" ml:=by
 intro pins s σ H x vs v us Q I rx rv h;obtain⟨l,xs,y,rfl,rfl,hH,hz,q⟩:=h;cases rx;obtain⟨u,rfl,ru⟩:=rv.one;obtain⟨z,its,n,r,hl,e⟩:=I.lstM hH;refine call_meets F.slot_list_append ⟨_,e,rfl⟩ F.entry_list_append (F.args_list_append_2 _ _) (PySem.list_append l its.toArray n u (by rw[Qa];lia)) ⟨e,?_⟩
 refine⟨.non,_,I.lset (its':=its++[u]) hH e (by simp) (r.append (.cons ru .nil)) ?_,rfl,q⟩
 rw[Za,Zh];lia
noncomputable def pW:V->List V->Hp->VK->Prop:=fun x vs H Q=>∃l b xs zs,x=.ref l/\vs=[.ref b]/\H l=some (.lst xs)/\H b=some (.lst zs)/\xs.length+zs.length<=sizeLine/\Q .non (upd H l (.lst (xs++zs)))
theorem qQ:MtM X "list.extend" pW:=by
 intro pins s σ H x vs v us Q I rx rv h;obtain⟨l,b,xs,zs,rfl,rfl,hH,hB,hz,q⟩:=h;cases rx;obtain⟨u,rfl,ru⟩:=rv.one;cases ru;obtain⟨z,its,n,r,hl,e⟩:=I.lstM hH;obtain⟨z2,its2,n2,r2,hl2,e2⟩:=I.lstM hB;have hsz:its.toArray.size+its2.toArray.size<=sizeLine:=by rw[Qa,Qa];lia
 have hlong:¬ (!its.toArray.isEmpty&&Builtin.List.listTooLong (its.toArray.size+its2.toArray.size))=true:=by
  rw[nF hsz,Bool.and_false];exact Qb
 refine call_meets F.slot_list_extend ⟨_,e,rfl⟩ F.entry_list_extend (F.args_list_extend_2 _ _)
  (AutoSeq1.list_extend_list_list_0 l its.toArray n b its2.toArray n2 hlong (by rw[Qa];lia) (by lia)) ⟨e,e2,?_⟩
 refine⟨.non,_,I.lset (its':=its++its2) hH e (by simp) (r.append r2) ?_,rfl,q⟩
 rw[Za];lia
noncomputable def rZ:V->List V->Hp->VK->Prop:=fun x vs H Q=>∃l xs i k y,x=.ref l/\vs=[.int i]/\H l=some (.lst xs)/\-(2 ^ 63)<=i/\i<2 ^ 63/\seqIndex? i xs.length=some k/\xs[k]?=some y/\Q y (upd H l (.lst (xs.eraseIdx k)))
theorem r6:MtM X "list.pop" rZ:=by
 intro pins s σ H x vs v us Q I rx rv h;obtain⟨l,xs,i,k,y,rfl,rfl,hH,h1,h2,hk,hy,q⟩:=h;cases rx;obtain⟨u,rfl,ru⟩:=rv.one;obtain⟨t,rfl⟩:=ru;obtain⟨z,its,n,r,hl,e⟩:=I.lstM hH;obtain⟨w,hw,rw'⟩:=r.get hy;refine call_meets F.slot_list_pop ⟨_,e,rfl⟩ F.entry_list_pop (F.args_list_pop_2 _ _)
  (MeetsSeq.list_pop_at l its.toArray n i t k w (fitsIndex_both h1 h2) (by rw[Qa,← hl];exact hk) (by rw[← Array.getElem?_toList];exact hw) (by rw[Qa];lia)) ⟨e,?_⟩
 refine⟨y,_,I.lset (its':=its.eraseIdx k) hH e ?_ (r.eraseIdx k) ?_,rw',q⟩
 ·show its.toArray.eraseIdxIfInBounds k=(its.eraseIdx k).toArray;rw[List.eraseIdxIfInBounds_toArray]
 ·have:=lb xs k;lia
noncomputable def wM:R2:=fun x y H Q=>∃l b xs zs,x=.ref l/\y=.ref b/\H l=some (.lst xs)/\H b=some (.lst zs)/\xs.length+zs.length<=sizeLine/\∀p,H p=none->Q (.ref p) (upd H p (.lst (xs++zs)))
theorem op_cat:OpR X (binaryOp .Add) wM:=by
 intro pins s σ H x y v u Q I rx ry h;obtain⟨l,b,xs,zs,rfl,rfl,hH,hB,hz,q⟩:=h;cases rx;cases ry;obtain⟨z,its,n,r,hl,e⟩:=I.lstM hH;obtain⟨z2,its2,n2,r2,hl2,e2⟩:=I.lstM hB;refine PySem.P.add_list e e2 ?_ (by rw[Qa,Qa];lia)
 have ea:its.toArray++its2.toArray=(its++its2).toArray:=by simp
 rw[ea];exact⟨.ref _,_,I.lnew (t':=s.toks) (r.append r2) (by rw[Za];lia),rfl,q _ I.fresh⟩
end
end L2
namespace Att
open PySem PySem.W PySem.Calls PyProof.Rows
theorem jv{P:Params}{h:Heap}:∀(ns:List Int)(vs:List Value),WellAll P h vs (ns.map WData.int)->IntsAre vs ns:=by
 intro ns;induction ns with
 | nil =>
  intro vs w;rw[List.map_nil]at w;cases w;exact .nil
 | cons n ns ih =>
  intro vs w;rw[Yc]at w;cases w with
  | cons a b =>
   cases a;exact .cons _ _ (ih _ b)
theorem script_of{l:OpenLaw}{n:Nat}(hn:l.most=some n){P:Params}{h:Heap}{args:List WData}{vals:List Value}
  (hpre:l.row.toRowW.claim.pre args=true)(hwl:WellAll P h vals args) :
  ∃a vs ns,vals=[Value.ref a]/\args=[WData.list (ns.map WData.int)]/\h.get? a=some { cls:=.type "list",data:=.seq vs.toArray }/\IntsAre vs ns/\ns.length<=n:=by
 have hsh:WShape.hasAll [] args [.list .int]=true:=(pre_splitW hpre).1;have hc:l.pre.holds [] { args:=args }=true:=(pre_splitW hpre).2;obtain⟨d,r,rfl,h1,h2⟩:=hasAllW_cons hsh;obtain rfl:=hasAllW_nil h2;obtain⟨xs,rfl,h3⟩:=hasW_list h1;obtain⟨ns,rfl⟩:=items_int h3;have hlen:ns.length<=n:=by
  unfold OpenLaw.pre at hc;have h4:(WTm.not (.lt (.lit (.int (n:Int))) (.len (.arg 0)))).holds [] { args:=[.list (ns.map .int)] }=true:=by
   have h4:=(holds_andW hc).1;rw[hn]at h4;exact h4
  have h5:=condW_of h4 (w_not (w_lt w_lit (w_len_list (w_arg rfl))));rw[Xa]at h5;refine Nat.le_of_not_lt fun q=>?_;have q':(n:Int)<((ns.length:Nat):Int):=by lia
  first
   | (rw[decide_eq_true q']at h5;exact absurd h5 (by decide))
   | (simp at h5;lia)
 cases hwl with
 | cons w1 w2 =>
  cases w2;cases w1 with
  | list ho hall=>exact⟨_,_,ns,rfl,rfl,ho,jv ns _ hall,hlen⟩
theorem post_true(l:OpenLaw)(args:List WData):l.row.toRowW.claim.post args (.bool true) args=true :=
 postW_of (r:=l.row.toRowW) (X:=(true == true))
  (show WShape.has [] (.bool true) .bool=true by first|rfl|decide|simp[WShape.has,WShape.arms,WShape.armsAll])
  (show(WTm.eq .res (.lit (.bool true))).value [] { args:=args,res:=some (.bool true),after:=args }=some (.bool (true == true)) from w_eq_bool (w_res rfl) w_lit) rfl
end Att
namespace L2
open PySem PySem.Spec PyProof.Rows
theorem ld:∀{vs:List Value}{ns:List Int},IntsAre vs ns->Vals (ns.map V.int) vs
 | _,_,.nil=>.nil
 | _,_,.cons n t h=>.cons ⟨t,rfl⟩ (ld h)
noncomputable def wN(H:Hp):Prop:=∀b,H b=none∨∃o xs,H b=some (.frz o (.lst xs))
theorem r9{P:Program}{w:World}{K:PySem.W.Frag}{mg mb:Str->Option Value}{CX:CXT}{k:Nat}{fa a:Addr}{fd:FuncData}{x:Str}{sp:Sp}{s₁:Shared}{vs:List Value}{ns:List Int}
  (KX:K.In s₁.heap)(hns:s₁.heap.Ns mainGlobals mg)(hb:s₁.heap.Ns builtinsNs mb)(hbb:∀x:Str,x≠"__name__"->mb x=bootBuiltins x)(hlim:s₁.heap.NoLimit)(hg:s₁.gens=#[])(htk:0<s₁.toks)
  (ha:s₁.heap.get? a=some { cls:=.type "list",data:=.seq vs.toArray }) (hi:IntsAre vs ns) (hl:ns.length<=sizeLine) (hr:Room k callerA)
  (F:∀base:Heap,K.In base->base.Ns mainGlobals mg->FnOk P w K mg base CX k fa fd [x] sp) (hbind:∀(s:Shared)(u:Value),BindsTo s fd ⟨[u],[]⟩ [(x,u)])
  (hsp:∀H:Hp,wN H->SqL K H a (ns.map V.int)->sp [.ref a] H (fun v _=>v=.bl true) fun _ _ _=>False)
  (hCX:∀H e s',CX [] H s₁ (fun _ _ _=>False) e s'->False) :
  codeAny (model P w) callerA (.call (.ref fa) ⟨[.ref a],[]⟩) (fun r s'=>r=.ok (.ret (.bool true))/\OldK s₁.heap s'.heap/\s'.os=s₁.os/\AllBare s'.gens) s₁:=by
 have rv:=ld hi;have w9:=hi.length;have core:∀H:Hp,wN H->SqL K H a (ns.map V.int)->HOk P w H s₁.heap->(∀b,H b≠none->b=a)->(H a≠none->K.lookup a=none) ->
   codeAny (model P w) callerA (.call (.ref fa) ⟨[.ref a],[]⟩) (fun r s'=>r=.ok (.ret (.bool true))/\OldK s₁.heap s'.heap/\s'.os=s₁.os/\AllBare s'.gens) s₁:=by
  intro H hO hS hok hA hK;have base_of:∀{b:Addr}{o:Obj},s₁.heap.get? b=some o->H b=none->(lU s₁.heap H).get? b=some o:=fun e n=>rE e n;have noA:∀{b:Addr}{o:Obj}{es:Array DictEntry}{ep:Nat},s₁.heap.get? b=some o->o.data=.dict es ep->H b=none:=fun {b o es ep} e d=>by
   cases q:H b with
   | none=>rfl
   | some u =>
    have e':b=a:=hA b (by rw[q];simp)
    subst e';rw[ha]at e;cases e;have d':Data.seq vs.toArray _=Data.dict es ep:=d;cases d'
  have nsK:∀{b:Addr}{m:Str->Option Value},s₁.heap.Ns b m->(lU s₁.heap H).Ns b m:=fun {b m} ⟨o,es,ep,e,d,r⟩=>⟨o,es,ep,base_of e (noA e d),d,r⟩
  have hKb:K.In (lU s₁.heap H):=fun b o e=>base_of (KX b o e) (by
   cases q:H b with
   | none=>rfl
   | some u =>
    have e':b=a:=hA b (by rw[q];simp)
    subst e'
    rw[hK (by rw[q];simp)]at e;cases e)
  have hM:Mod K mg (lU s₁.heap H):=⟨hKb,nsK hns,⟨mb,nsK hb,hbb⟩,let ⟨mc,h1,h2⟩:=hlim;⟨mc,nsK h1,h2⟩⟩;have e0:Env0 P w K mg (lU s₁.heap H) callerA [] s₁ H:=⟨rfl,hM,fun b o e=>ul e,Nat.le_of_eq (qF _ _),trivial,fun b hb=>absurd (show b∈([]:List Addr) from hb) (by simp),hok,.of_eq hg,htk⟩
  refine codeAny_mono ((F _ hKb (nsK hns)).run callerA [] s₁ H ⟨[.ref a],[]⟩ [.ref a] [.ref a] _ _ hr e0 (hbind s₁ (.ref a)) (.cons rfl .nil) (hsp H hO hS)) fun r s' h=>?_;cases r with
  | error e=>exact(hCX H e s' h).elim
  | ok fl =>
   cases fl with
   | next=>exact False.elim h
   | brk=>exact False.elim h
   | cont=>exact False.elim h
   | ret u =>
    obtain⟨v,H',os,bare,un,hok',r',q⟩:=h;have q':v=.bl true:=q;subst q';obtain rfl:u=Value.bool true:=r';refine⟨rfl,OldK.of_keep fun b o e=>?_,os,bare⟩;cases q:H b with
    | none=>exact un.keep b o e q (by intro z;exact absurd (show b∈([]:List Addr) from z) (by simp)) (by simp)
    | some u =>
     rcases hO b with z|⟨ob,xs,z⟩
     ·rw[q]at z;cases z
     ·have z2:=un.frzs b ob _ z;obtain⟨e1,_⟩:=hok b _ z;obtain⟨e2,_⟩:=hok' b _ z2;rw[e]at e1;cases e1;exact e2
 cases hk:K.lookup a with
 | some o =>
  have e:=KX a o hk;rw[ha]at e;cases e;refine core (fun _=>none) (fun _=>.inl rfl) (.inr ⟨_,vs.toArray,_,hk,rfl,rfl,rfl,by rw[Qa,w9];exact hl,by simpa using rv⟩) (fun b u z=>by have z':(none:Option HO)=some u:=z;cases z') (fun b z=>absurd rfl z) fun z=>absurd rfl z
 | none =>
  refine core (fun b=>if b=a then some (.frz { cls:=.type "list",data:=.seq vs.toArray } (.lst (ns.map V.int))) else none) (fun b=>?_) (.inl (.inr ⟨{ cls:=.type "list",data:=.seq vs.toArray },if_pos rfl⟩)) (fun b u z=>?_) (fun b z=>?_) fun _=>hk
  ·by_cases hb:b=a
   ·exact .inr ⟨_,_,if_pos hb⟩
   ·exact .inl (if_neg hb)
  ·by_cases hb:b=a
   ·have z':=(if_pos hb).symm.trans z;cases z';subst hb;exact⟨ha,by rw[Xa];exact hl,vs,_,rv,ha⟩
   ·have z':=(if_neg hb).symm.trans z;cases z'
  ·by_cases hb:b=a
   ·exact hb
   ·exact absurd (if_neg hb) z
theorem nG:∀ns:List Int,PySem.W.ofPys (ns.map PyData.int)=ns.map PySem.W.WData.int
 | []=>rfl
 | n::r=>by
  show PySem.W.WData.int n::PySem.W.ofPys (r.map PyData.int)=_;rw[nG r];rfl
theorem walk_of{l:PySem.W.OpenLaw}{n k:Nat}{q:Program}{loose:List Str}{XP:(Str->Option Value)->Heap->Prop}{d:DefRec}{K:Params->PySem.W.Frag}{CX:World->CXT}{sp:World->Sp}{x:Str}{as:List Addr}{sz t:Nat}
  (hn:l.most=some n)(hn2:n<=sizeLine)(hdf:d.params.defaults=[])(hr:Room k callerA)(ht:0<t)(hK:∀P,as=(K P).map (·.1))
  (F:∀(w:World)(mg:Str->Option Value)(fa:Addr)(h:Heap),(K w.params).In h->h.Ns mainGlobals mg->mg d.name=some (.ref fa) ->
   ∃fd:FuncData,(∀(s:Shared)(u:Value),BindsTo s fd ⟨[u],[]⟩ [(x,u)]) /\
    ∀base:Heap,(K w.params).In base->base.Ns mainGlobals mg->FnOk l.prog w (K w.params) mg base (CX w) k fa fd [x] (sp w))
  (hsp:∀(w:World)(H:Hp)(a:Addr)(ns:List Int),ns.length<=n->wN H->SqL (K w.params) H a (ns.map V.int)->sp w [.ref a] H (fun v _=>v=.bl true) fun _ _ _=>False)
  (hCX:∀(w:World)(H:Hp)(s:Shared)(e:Value)(s':Shared),CX w [] H s (fun _ _ _=>False) e s'->False) :
  PySem.W.WalkX q loose XP (PySem.W.X.obsZ as) (PySem.W.X.valZ K sz t) l.row.toRowW d [] (fun f vs=>PySem.call f vs):=by
 intro w s₀ s₁ mg mb G y fa o pm cd doc dV kV ho hd hcd hD hmg hg args vals as' L hpre hlay hrd hwl hlo;obtain rfl:dV=.none:=PySem.W.Dflts.none hD hdf;obtain rfl:kV=.none:=PySem.W.Dflts.noKw hD;obtain⟨a,vs,ns,rfl,rfl,hobj,hints,hlen⟩:=Att.script_of hn hpre hwl;obtain⟨_,K0,_,T0⟩:=PySem.W.X.z_facts hK y;have KX:(K w.params).In s₁.heap:=fun b o e=>L.keeps b o ((show(K w.params).In s₀.heap from K0) b o e);have tk:0<s₁.toks:=by
  have e:[PySem.W.WData.list (ns.map PySem.W.WData.int)]=[PySem.W.ofPy (PyData.list (ns.map PyData.int))]:=by
   show _=[PySem.W.WData.list (PySem.W.ofPys (ns.map PyData.int))];rw[nG]
  rw[e]at L;exact Yb ht (PySem.W.X.script_toks L T0)
 obtain⟨fd,hb,hF⟩:=F w mg fa _ KX G.T.g hmg;refine PySem.W.enter_call (codeAny_mono (r9 KX G.T.g G.T.b G.T.builtins G.T.nolimit hg tk hobj hints (Wb hlen hn2) hr hF hb (fun H hO hS=>hsp w H a ns hlen hO hS) fun H e s'=>hCX w H s₁ e s') fun r s' hq=>?_);obtain⟨rfl,h2,h3,h4⟩:=hq;exact⟨.inl ⟨.bool true,.bool true,[],rfl,fun _=>rfl,.bool true,Att.post_true l _,fun _=>⟨List.Pairwise.nil,fun _ hm=>(nomatch hm)⟩⟩,h2,h3,h4⟩
end L2
namespace L2
open PySem PySem.Spec PyProof.Rows
noncomputable def cE(s:Stmt):Arguments:=match s with
 | .FunctionDef _ a _ _ _ _ _ _ _ _=>a
 | _=>{ posonlyargs:=[],args:=[],vararg:=none,kwonlyargs:=[],kw_defaults:=[],kwarg:=none,defaults:=[] }
noncomputable def b4(s:Stmt):List Stmt:=match s with
 | .FunctionDef _ _ b _ _ _ _ _ _ _=>b
 | _=>[]
noncomputable def am(s:Stmt):Scope:=match s with
 | .FunctionDef _ _ _ _ _ _ sc _ _ _=>sc
 | _=>{ kind:=.function,names:=[],isGenerator:=false,isCoroutine:=false }
noncomputable abbrev CX0:CXT:=fun _ _ _ _ _ _=>False
noncomputable abbrev E0:XK:=fun _ _ _=>False
theorem vF{X:Cx}:oG CX0 X E0:=fun _ _ _ _ _ _ _ h=>h.elim
structure Fun(K:PySem.W.Frag)(x qual:Str)(st:Stmt)(f:Addr)(fd:FuncData):Prop where
 ex:∃(oc:Value)(od:Option Addr)(kV doc pm:Value)(an:Option Addr)(cdv ct:Value)(osl:Array (Option Value)),
  fd=PySem.W.fnOf x qual (cE st) (b4 st) (am st) .none kV doc pm an cdv ct/\K.lookup f=some ⟨oc,od,.func fd,osl⟩/\PySem.W.codeIn K cdv qual=true
 kp:PySem.W.keepIn K (.ref f)=true
section
variable {P:Program}{w:World}{K:PySem.W.Frag}{mg:Str->Option Value}{base:Heap}
theorem Fun.ok{x qual:Str}{st:Stmt}{f:Addr}{fd:FuncData}{N ps:List Str}{k:Nat}{sp:Sp}(F:Fun K x qual st f fd)(S:FnScope N ps (am st))(len:∀vs H Q E,sp vs H Q E->vs.length=ps.length)
  (hbody:∀(cdv:Value)(A:Around)(outer:List Env)(s:Shared)(H:Hp)(vs:List V)(Q:VK)(E:XK),Room k (A.deeper (envOfC qual (am st) s.heap.objs.size f cdv))->sp vs H Q E ->
   ∃t,PSs (nv CX0 P w K mg base N qual (am st) f cdv A outer s H E).nox (b4 st) t/\t { nx:=fun _ H'=>Q .non H',rt:=Q } (start N vs) H):FnOk P w K mg base CX0 (k+1) f fd ps sp:=by
 obtain⟨oc,od,kV,doc,pm,an,cdv,ct,osl,rfl,lk,hcd⟩:=F.ex;refine vA lk hcd S len fun A outer s H vs Q E hr hsp=>?_;obtain⟨t,h,q⟩:=hbody cdv A outer s H vs Q E hr hsp;exact⟨t,h.nox,q⟩
theorem Fun.binds{x qual:Str}{st:Stmt}{f:Addr}{fd:FuncData}{ps:List Str}(F:Fun K x qual st f fd)
  (h:∀(kV doc pm:Value)(an:Option Addr)(cdv ct:Value)(us:List Value),us.length=ps.length->bindArgs (PySem.W.fnOf x qual (cE st) (b4 st) (am st) .none kV doc pm an cdv ct) ⟨us,[]⟩=pure (ps.zip us)):Binds K fd ps []:=by
 obtain⟨oc,od,kV,doc,pm,an,cdv,ct,osl,rfl,lk,hcd⟩:=F.ex;exact .all (h kV doc pm an cdv ct)
theorem wO{x qual:Str}{st:Stmt}{f:Addr}{oc:Value}{od an:Option Addr}{osl:Array (Option Value)}{kV doc pm cdv ct:Value}(l:K.lookup f=some ⟨oc,od,.func (PySem.W.fnOf x qual (cE st) (b4 st) (am st) .none kV doc pm an cdv ct),osl⟩)
  (c:PySem.W.codeIn K cdv qual=true)(k:PySem.W.keepIn K (.ref f)=true):Fun K x qual st f (PySem.W.fnOf x qual (cE st) (b4 st) (am st) .none kV doc pm an cdv ct):=⟨⟨oc,od,kV,doc,pm,an,cdv,ct,osl,rfl,l,c⟩,k⟩
end
theorem vG{A:Around}{k:Nat}(hr:Room k A):A.units+1<cLine:=Nat.lt_of_le_of_lt (Nat.add_le_add_left (by decide:1<=64) _) hr.units
theorem qR{n:Nat}(h:n<=1000):n<sizeLine:=Nat.lt_of_le_of_lt h (by decide)
section
variable {X:Cx}
theorem pv(i:Nat){x:Str}{pos:Pos}(hN:X.N[i]?=some x:=by rfl)(hv:Vis X.env.scope x:=by first|exact Or.inl rfl|exact Or.inr (Or.inl rfl)|exact Or.inr (Or.inr rfl))(hd:(x == ("__debug__":Str))=false:=by decide)
  (hcd:(x == ("__classdict__":Str))=false:=by decide):PE X (.Name x pos) (oA i):=wl hN hv hd hcd
end
noncomputable def Same(H H':Hp):Prop:=∀b o,H b=some o->H' b=some o
theorem Same.refl(H:Hp):Same H H:=fun _ _ h=>h
end L2
namespace L2
open PySem PySem.Spec PyProof.Rows
noncomputable def bv(env:Env):List (Str×NameKind)->List (Str×Addr)->List (Str×Addr)
 | [],acc=>acc
 | (n,k)::r,acc=>if k=.free then bv env r ((n,(env.cells.lookup n).getD 0)::acc) else bv env r acc
theorem ei{env:Env}{f:Str×NameKind->List (Str×Addr)->Sem (ForInStep (List (Str×Addr)))}
  (h1:∀n k cs c,k=NameKind.free->env.cells.lookup n=some c->f (n,k) cs=pure (.yield ((n,c)::cs)))
  (h2:∀n k cs,k≠NameKind.free->f (n,k) cs=pure (.yield cs)) :
  ∀(names:List (Str×NameKind))(acc:List (Str×Addr)),(∀x∈names,x.2=.free->∃c,env.cells.lookup x.1=some c)->forIn names acc f=pure (bv env names acc)
 | [],_,_=>rfl
 | (n,k)::r,acc,h=>by
  have hr:∀x∈r,x.2=.free->∃c,env.cells.lookup x.1=some c:=fun x hx=>h x (Va _ hx);by_cases hk:k=.free
  ·obtain⟨c,hc⟩:=h (n,k) Xb hk;have e:bv env ((n,k)::r) acc=bv env r ((n,c)::acc):=by
    show(if k=.free then _ else _)=_;rw[if_pos hk];have hc':env.cells.lookup n=some c:=hc;rw[hc'];rfl
   rw[List.forIn_cons,h1 n k acc c hk hc,pure_bind,e];exact ei h1 h2 r _ hr
  ·have e:bv env ((n,k)::r) acc=bv env r acc:=by
    show(if k=.free then _ else _)=_;rw[if_neg hk]
   rw[List.forIn_cons,h2 n k acc hk,pure_bind,e];exact ei h1 h2 r _ hr
theorem il{scope:Scope}{env:Env}(h:∀x∈scope.names,x.2=.free->∃c,env.cells.lookup x.1=some c):closureFor scope env=pure (bv env scope.names []):=by
 simp only[closureFor];have key:=fun f h1 h2=>ei (env:=env) (f:=f) h1 h2 scope.names [] h
 rw[key _ (fun n k cs c hk hc=>by subst hk;simp[cellOf,hc]) (fun n k cs hk=>by
  have:(k == NameKind.free)=false:=by simpa using hk
  simp only[this,Qd,if_false])]
 rfl
theorem bR{α β:Type}[BEq α]{x n:α}{k:β}{r:List (α×β)}:List.lookup x ((n,k)::r)=if (x == n)=true then some k else List.lookup x r:=by
 rw[List.lookup_cons];cases x == n<;>rfl
theorem dO{env:Env}{x:Str}{c:Addr}:∀(names:List (Str×NameKind))(acc:List (Str×Addr)),(∀x∈names,x.2=.free->∃c,env.cells.lookup x.1=some c) ->
  (∀y c,acc.lookup y=some c->env.cells.lookup y=some c)->(bv env names acc).lookup x=some c->env.cells.lookup x=some c
 | [],acc,_,ha,e=>ha x c e
 | (n,k)::r,acc,h,ha,e=>by
  have hr:∀x∈r,x.2=.free->∃c,env.cells.lookup x.1=some c:=fun x hx=>h x (Va _ hx);by_cases hk:k=.free
  ·obtain⟨c',hc⟩:=h (n,k) Xb hk;have hc':env.cells.lookup n=some c':=hc;have q:bv env ((n,k)::r) acc=bv env r ((n,c')::acc):=by
    show(if k=.free then _ else _)=_;rw[if_pos hk,hc'];rfl
   rw[q]at e;refine dO r _ hr (fun y d hy=>?_) e;rw[bR]at hy;by_cases hyn:(y == n)=true
   ·rw[if_pos hyn]at hy;have:y=n:=by simpa using hyn
    rw[this,hc',hy]
   ·rw[if_neg hyn]at hy;exact ha y d hy
  ·have q:bv env ((n,k)::r) acc=bv env r acc:=by
    show(if k=.free then _ else _)=_;rw[if_neg hk]
   rw[q]at e;exact dO r _ hr ha e
theorem gX{env:Env}{x:Str}{c:Addr}(hx:env.cells.lookup x=some c):∀(names:List (Str×NameKind))(acc:List (Str×Addr)),(acc.lookup x=some c∨(x,NameKind.free)∈names)->(bv env names acc).lookup x=some c
 | [],acc,h=>by
  rcases h with h|h
  ·exact h
  ·cases h
 | (n,k)::r,acc,h=>by
  by_cases hk:k=.free
  ·have q:bv env ((n,k)::r) acc=bv env r ((n,(env.cells.lookup n).getD 0)::acc):=by
    show(if k=.free then _ else _)=_;rw[if_pos hk]
   rw[q];refine gX hx r _ ?_;by_cases hxn:(x == n)=true
   ·left;have e:x=n:=by simpa using hxn
    rw[bR,if_pos hxn,← e,hx];rfl
   ·rcases h with h|h
    ·left;rw[bR,if_neg hxn];exact h
    ·right;rcases Xd.mp h with h|h
     ·cases h;exact absurd (by simp) hxn
     ·exact h
  ·have q:bv env ((n,k)::r) acc=bv env r acc:=by
    show(if k=.free then _ else _)=_;rw[if_neg hk]
   rw[q];refine gX hx r _ ?_;rcases h with h|h
   ·exact .inl h
   ·rcases Xd.mp h with h|h
    ·cases h;exact absurd rfl hk
    ·exact .inr h
theorem db{env:Env}{x:Str}:∀(names:List (Str×NameKind)),
  ((names.map fun(n,k)=>if (k == NameKind.free&&env.scope.kind == .function&&env.kindOf n == some .cell) then(n,NameKind.cell) else(n,k)).lookup x=none/\names.lookup x=none) ∨
  ∃k k',names.lookup x=some k/\(names.map fun(n,k)=>if (k == NameKind.free&&env.scope.kind == .function&&env.kindOf n == some .cell) then(n,NameKind.cell) else(n,k)).lookup x=some k'/\(k'=k∨(k=.free/\k'=.cell))
 | []=>.inl ⟨rfl,rfl⟩
 | (n,k)::r=>by
  have ih:=@db env x r;show(List.lookup x ((if (k == NameKind.free&&env.scope.kind == .function&&env.kindOf n == some .cell)=true then(n,NameKind.cell) else(n,k))::_)=none/\_)∨∃k' k'',_/\List.lookup x ((if (k == NameKind.free&&env.scope.kind == .function&&env.kindOf n == some .cell)=true then(n,NameKind.cell) else(n,k))::_)=_/\_;by_cases hc:(k == NameKind.free&&env.scope.kind == .function&&env.kindOf n == some .cell)=true
  ·rw[if_pos hc,bR,bR];have hk:k=.free:=by
    simp only[Xe]at hc;simpa using hc.1.1
   by_cases hx:(x == n)=true
   ·rw[if_pos hx,if_pos hx];exact .inr ⟨k,.cell,rfl,rfl,.inr ⟨hk,rfl⟩⟩
   ·rw[if_neg hx,if_neg hx];exact ih
  ·rw[if_neg hc,bR,bR];by_cases hx:(x == n)=true
   ·rw[if_pos hx,if_pos hx];exact .inr ⟨k,k,rfl,rfl,.inl rfl⟩
   ·rw[if_neg hx,if_neg hx];exact ih
noncomputable abbrev cxC(X:Cx)(N:List Str)(scope:Scope)(C:Addr)(s:Shared)(H:Hp)(fp:List Addr):Cx :=
 { X with N:=N,s₀:=s,H₀:=H,env:=compEnvC scope (bv X.env scope.names []) C X.env,outer:=X.stack,stack:=X.stack,ex:=fp,fn:=fun _=>false,pn:=[],xe:=fun _ _=>False }
structure BlkScope(X:Cx)(N:List Str)(k:Nat)(caps:List Nat)(scope:Scope):Prop where
 kind:scope.kind=.function
 nocell:∀y∈scope.names,y.2≠.cell
 loc:∀y∈scope.names,y.2=.local->scope.names.lookup y.1=some .local
 free:∀y∈scope.names,y.2=.free->(X.env.kindOf y.1=some .cell∨X.env.kindOf y.1=some .free)
 len:N.length=k+caps.length
 cap:∀(j i:Nat),caps[j]?=some i->∃x,N[k+j]?=some x/\X.N[i]?=some x/\scope.names.lookup x=some .free
noncomputable def blk(k:Nat)(caps:List Nat)(σ:St):St:=List.replicate k none++caps.map fun i=>(σ[i]?).getD none
section
variable {X:Cx}{N:List Str}{k:Nat}{caps:List Nat}{scope:Scope}
theorem BlkScope.cells(S:BlkScope X N k caps scope)(ok:X.Ok):∀x∈scope.names,x.2=.free->∃c,X.env.cells.lookup x.1=some c:=fun x hx hk=>ok.has x.1 (S.free x hx hk)
theorem BlkScope.sub(S:BlkScope X N k caps scope)(ok:X.Ok){x:Str}{c:Addr}(e:(bv X.env scope.names []).lookup x=some c):X.env.cells.lookup x=some c :=
 dO _ _ (S.cells ok) (fun y c h=>by cases h) e
theorem BlkScope.has(S:BlkScope X N k caps scope)(ok:X.Ok){x:Str}(h:scope.names.lookup x=some .free):∃c,X.env.cells.lookup x=some c/\(bv X.env scope.names []).lookup x=some c:=by
 have hm:=PySem.mem_of_lookup h;obtain⟨c,hc⟩:=S.cells ok _ hm rfl;exact⟨c,hc,gX hc _ _ (.inr hm)⟩
theorem pX(σ:St):(blk k caps σ).length=k+caps.length:=by unfold blk;simp
theorem pY{σ:St}{i:Nat}{v:V}(h:(blk k caps σ)[i]?=some (some v)):∃j i',i=k+j/\caps[j]?=some i'/\σ[i']?=some (some v):=by
 unfold blk at h;by_cases hi:i<k
 ·rw[Ye (by simpa using hi),Vf]at h
  split at h<;>cases h
 ·rw[Wc (by simpa using hi),Ve,Vd]at h
  refine⟨i-k,?_⟩;cases e:caps[i-k]? with
  | none=>rw[e]at h;cases h
  | some i' =>
   rw[e]at h;refine⟨i',by lia,rfl,?_⟩
   have h':(σ[i']?).getD none=some v:=by simpa using h
   cases q:σ[i']? with
   | none=>rw[q]at h';cases h'
   | some o=>rw[q]at h';have h'':o=some v:=h';rw[h'']
theorem wP{pins:List (Addr×Obj)}{σ:St}{H:Hp}{s:Shared}{fp:List Addr}{C:Addr}(S:BlkScope X N k caps scope)(I:Inv X pins σ H s)(hf:∀b∈fp,kM X pins H b)(hlt:∀b∈fp,b<s.heap.objs.size)(hC:s.heap.objs.size<=C) :
  (cxC X N scope C s H fp).Ok:=by
 have nfs:∀b∈fp,b∉frs X.stack:=fun b hb z=>by
  rcases Xd.mp (I.stkSub b z) with e|e
  ·exact(hf b hb).2.1 e
  ·exact(hf b hb).2.2.1 e
 refine⟨I.ok.mod,S.kind,I.ok.glob,I.ok.blt,hC,fun x y c h1 h2=>I.ok.inj x y c (S.sub I.ok h1) (S.sub I.ok h2),fun x hx=>?_,fun x c h=>(by cases h),I.ok.hd,I.ok.frames,.inl rfl,fun b hb=>⟨?_,fun x c e=>?_⟩,I.bs,Wb I.ok.bsz I.sz,fun b o e hb=>?_,nfs,I.stack,I.stkFree⟩
 ·have hx':(relabel scope X.env).names.lookup x=some .cell∨(relabel scope X.env).names.lookup x=some .free:=hx;rcases db (env:=X.env) (x:=x) scope.names with⟨e,_⟩|⟨k1,k2,e1,e2,e3⟩
  ·rcases hx' with z|z<;>(have z':=e.symm.trans z;cases z')
  ·have hk2:k2=.cell∨k2=.free:=by
    rcases hx' with z|z
    ·exact .inl (Option.some.inj (e2.symm.trans z))
    ·exact .inr (Option.some.inj (e2.symm.trans z))
   have hfree:k1=.free:=by
    rcases e3 with z|⟨z,_⟩
    ·rcases hk2 with q|q
     ·exact absurd (z.symm.trans q) (S.nocell _ (PySem.mem_of_lookup e1))
     ·exact z.symm.trans q
    ·exact z
   rw[hfree]at e1;obtain⟨c,_,hc⟩:=S.has I.ok e1;exact⟨c,hc⟩
 ·exact Yf (Yb (hlt b hb) hC)
 ·exact(hf b hb).2.2.2.2.1 x c (S.sub I.ok e)
 ·rcases(hf b hb).2.2.2.1 with z|z
  ·exact I.ok.noex b o e z
  ·exact absurd (Yb (Heap.lt_size (I.ok.bs b o e).1) z) (Zf _)
theorem uz{pins:List (Addr×Obj)}{σ:St}{H:Hp}{s s3:Shared}{fp:List Addr}{C:Addr}{m:Str->Option Value}(S:BlkScope X N k caps scope)(I:Inv X pins σ H s)(hf:∀b∈fp,kM X pins H b)(hlt:∀b∈fp,b<s.heap.objs.size)
  (hC:s.heap.objs.size<=C)(hos:s3.os=s.os)(hg:s3.gens=s.gens)(kp:∀b o,s.heap.get? b=some o->s3.heap.get? b=some o)(hn:s3.heap.Ns C m)(ht:0<s3.toks):Inv (cxC X N scope C s H fp) [] (blk k caps σ) H s3:=by
 refine⟨wP S I hf hlt hC,hos,by rw[hg];exact I.bare,Un.kept kp,⟨m,hn,fun i x v e1 e2 e3=>?_⟩,fun x c e=>?_,I.hok.fresh hC,fun x c e=>I.freeC x c (S.sub I.ok e),fun p hp=>absurd hp (by simp),I.hok.kept kp,by rw[pX];exact S.len.symm,ht⟩
 ·obtain⟨j,i',rfl,hc,hv⟩:=pY e2;obtain⟨y,h1,h2,h3⟩:=S.cap j i' hc;have exy:y=x:=Option.some.inj (h1.symm.trans e1);subst exy;obtain⟨c,hc1,hc2⟩:=S.has I.ok h3;obtain⟨m0,hn0,hl0⟩:=I.loc;have hkind:=S.free _ (PySem.mem_of_lookup h3) rfl;obtain⟨u,ru,lu⟩:=hl0 i' y v h2 hv (hkind.elim (fun z=>.inr (.inl z)) (fun z=>.inr (.inr z)));refine⟨u,ru,.inr ⟨?_,c,hc2,?_⟩⟩
  ·rcases db (env:=X.env) (x:=y) scope.names with⟨_,e⟩|⟨k1,k2,q1,q2,q3⟩
   ·rw[e]at h3;cases h3
   ·have hk1:k1=.free:=Option.some.inj (q1.symm.trans h3);rcases q3 with z|⟨_,z⟩
    ·right;show(relabel scope X.env).names.lookup y=_;exact q2.trans (by rw[z,hk1])
    ·left;show(relabel scope X.env).names.lookup y=_;exact q2.trans (by rw[z])
  ·rcases lu with⟨hk,_⟩|⟨_,c',hc',cell⟩
   ·rcases hkind with z|z<;>(have z':=hk.symm.trans z;cases z')
   ·have:c'=c:=Option.some.inj (hc'.symm.trans hc1);subst this;obtain⟨o,ho,hd⟩:=cell;exact⟨o,kp _ o ho,hd⟩
 ·obtain⟨v,o,ho,hd⟩:=I.cell x c (S.sub I.ok e);exact⟨v,o,kp _ o ho,hd⟩
end
noncomputable def PIf(X:Cx)(ifs:List Expr)(t:TT):Prop :=
 ∀(pins:List (Addr×Obj))(s:Shared)(σ:St)(H:Hp)(Q:Bool->Hp->Prop),Inv X pins σ H s->t σ H Q ->
  wpAny (model X.prog X.w) X.A (forIn ifs true fun c r=>if r=true then do let ok ← isTrue c X.env (eval c X.env);pure (ForInStep.yield ok) else pure (ForInStep.yield r)) (TP X pins σ Q) X.xe s
noncomputable def yq:TT:=fun _ H Q=>Q true H
theorem dE{X:Cx}:PIf X [] yq:=fun _ _ _ H _ I h=>wpAny_tests_nil ⟨H,I,h⟩
theorem uA{X:Cx}{c:Expr}{t:TT}(h:PT X c t):PIf X [c] t:=fun pins s σ H Q I hw=>wpAny_tests_one (h pins s σ H Q I hw)
theorem fK{prog:Program}{w:World}{A:Around}{R:Result->Shared->Prop}{s:Shared}{elt target iter:Expr}{ifs:List Expr}{scope:Scope}{pos:Pos}{it acc:Value}{env:Env}(I:Nat->Shared->Prop)
  (turn:∀n s,I n s->wpAny (model prog w) A (pyNext it) (fun r s₁=>match r with
   | none=>R (.ok .next) s₁
   | some v=>wpAny (model prog w) A (letOwnedTupleGo target it v) (fun _ s₀=>wpAny (model prog w) A (assign target env v) (fun _ s₂ =>
     wpAny (model prog w) A (forIn ifs true fun c r=>if r=true then do let ok ← isTrue c env (eval c env);pure (ForInStep.yield ok) else pure (ForInStep.yield r)) (fun ok s₃ =>
      if ok=true then wpAny (model prog w) A (eval elt env) (fun x s₄ =>
       wpAny (model prog w) A (call (.builtin "list.append") [acc,x]) (fun _ s₅=>∃m,m<n/\I m s₅) (fun _ _=>False) s₄) (fun _ _=>False) s₃
      else ∃m,m<n/\I m s₃) (fun _ _=>False) s₂) (fun _ _=>False) s₀) (fun _ _=>False) s₁) (fun _ _=>False) s)
  (n:Nat) (h:I n s) :
  codeAny (model prog w) A (.compLoop (.ListComp elt [⟨target,iter,ifs,0⟩] scope pos) 0 it acc env) R s:=by
 refine codeAny_loop rfl I (fun n s hI=>?_) n h;show wpAny _ A ((compTurn (.ListComp elt [⟨target,iter,ifs,0⟩] scope pos) 0 it acc env).onRaise (fun x=>do noteFrame x env;theTreesLotGoes x)) _ _ s
 refine wpAny_noted ?_;rw[compTurn_list];refine wpAny_bind (wpAny_standAt (wpAny_bind (wpAny_mono (turn n s hI) (fun r s₁ h₁=>?_) fun _ _ h'=>False.elim h')));cases r with
 | none=>exact wpAny_pure h₁
 | some v =>
  refine wpAny_bind (wpAny_mono h₁ (fun _ s₀ h₀=>?_) fun _ _ h'=>False.elim h');refine wpAny_bind (wpAny_mono h₀ (fun _ s₂ h₂=>wpAny_bind (wpAny_mono h₂ (fun ok s₃ h₃=>?_) fun _ _ h'=>False.elim h')) fun _ _ h'=>False.elim h');cases ok with
  | false=>exact wpAny_pure ⟨rfl,h₃⟩
  | true =>
   exact wpAny_bind (wpAny_bind (wpAny_mono h₃ (fun x s₄ h₄=>wpAny_bind (wpAny_mono h₄ (fun _ s₅ h₅=>wpAny_pure (wpAny_pure ⟨rfl,h₅⟩)) fun _ _ h'=>False.elim h')) fun _ _ h'=>False.elim h'))
noncomputable def pZ(k:Nat)(caps:List Nat)(wi:TI)(g:TG)(tc:TT)(te:TE):TE:=fun σ H Q=>wi σ H fun J H1=>∃(n:Nat)(W:Nat->List V->Hp->Prop),W 0 [] H1 /\
 (∀xs H,W n xs H->J.stop n H/\∀p,H p=none->Q (.ref p) (upd H p (.lst xs))) /\
 ∀i xs H,i<n->W i xs H->J.go i H/\xs.length<sizeLine/\∀x H',J.yld i H x H'->g x (blk k caps σ) H' fun σ2 H2=>tc σ2 H2 fun ok H3 =>
  if ok=true then te σ2 H3 fun y H4=>σ2.drop k=(blk k caps σ).drop k/\W (i+1) (xs++[y]) H4
  else σ2.drop k=(blk k caps σ).drop k/\W (i+1) xs H3
noncomputable abbrev cM(its:List Value)(n:Nat):Obj:={ cls:=.type "list",data:=.seq its.toArray n }
noncomputable def vH(X:Cx)(pins:List (Addr×Obj))(H:Hp)(C:Addr):Prop :=
 H C=none/\C≠X.env.locals/\(C∈X.ex∨X.s₀.heap.objs.size<=C)/\(∀x c,X.env.cells.lookup x=some c->c≠C)/\∀p∈X.pn++pins,p.1≠C
inductive CI(X':Cx)(A:Addr)(σ:St)(tn:Nat->Heap->Prop)(fp:List Addr)(n0:Nat)(W:Nat->List V->Hp->Prop)(n:Nat)(s':Shared):Prop
 | mk (i:Nat) (xs:List V) (its:List Value) (nn:Nat) (H':Hp) (J:Inv X' [(A,cM its nn)] σ H' s') (st:tn i s'.heap) (fr:∀b∈fp,H' b=none) (vs:Vals xs its) (hz:xs.length<=sizeLine) (hn:n=n0-i) (hi:i<=n0) (w:W i xs H')
theorem se{X:Cx}{elt iter tg:Expr}{ifs:List Expr}{scope:Scope}{pos cpos:Pos}{N:List Str}{k:Nat}{caps:List Nat}{wi:TI}{g:TG}{tc:TT}{te:TE}{use:Option (Value->Sem Unit)}{Q':Value->Shared->Prop}
  {pins:List (Addr×Obj)}{s:Shared}{σ:St}{H:Hp}{Q:VK}(S:BlkScope X N k caps scope)(hc:X.calm=true)(hi:PI X tg iter wi)
  (hg:∀C s H fp,PG (cxC X N scope C s H fp) tg g) (ht:∀C s H fp,PIf (cxC X N scope C s H fp) ifs tc) (he:∀C s H fp,PE (cxC X N scope C s H fp) elt te)
  (hs:∀x,foldedSetIterable iter X.env x=pure x) (I:Inv X pins σ H s) (h:pZ k caps wi g tc te σ H Q)
  (fin:∀(D C:Addr)(H4:Hp)(s4:Shared)(m:Str->Option Value),Inv X pins σ H4 s4->s4.heap.Ns C m->vH X pins H4 C->Q (.ref D) H4->compPost (model X.prog X.w) X.A X.xe use Q' (.ref D) C (.ok .next) s4) :
  wpAny (model X.prog X.w) X.A (comprehension (.ListComp elt [⟨tg,iter,ifs,0⟩] scope pos) scope X.env cpos (newList []) false (eval iter X.env) use) Q' X.xe s:=by
 refine wpAny_comprehension_free rfl hs (il (S.cells I.ok)) S.kind S.loc ?_;refine thn (hi pins s σ H _ I h) fun v s1 h1=>thn h1 fun itv s2 h2=>?_;obtain⟨it,fp,tn,J,H2,e,I2,T,st2,f2,n0,W,w0,wstop,turn⟩:=h2;subst e;refine wpAny_newObj_type (wpAny_newFunctionEnv S.nocell (by intro y hy;simp at hy) (fun h₁ hns₁ hsb₁=>?_) S.kind)
 dsimp only at hns₁ hsb₁ ⊢;generalize hG:s2.heap.push { cls:=.type "list",dict:=none,data:=.seq ([]:List Value).toArray }=G at hns₁ hsb₁ ⊢;have hCG:G.objs.size=s2.heap.objs.size+1:=by rw[← hG,Heap.size_push]
 have hDC:s2.heap.objs.size≠G.objs.size:=by lia
 have below:∀b,b<s2.heap.objs.size->b≠G.objs.size/\b≠s2.heap.objs.size:=fun b hb=>⟨by lia,by lia⟩
 have old:∀b o,s2.heap.get? b=some o->h₁.get? b=some o:=fun b o e=>hsb₁.extBut b o (below b (Heap.lt_size e)).1 (Heap.get?_push_of_some _ (hG ▸ Heap.get?_push_of_some _ e));have hacc:h₁.get? s2.heap.objs.size=some (cM [] 0):=hsb₁.extBut _ _ hDC (Heap.get?_push_of_some _ (hG ▸ Heap.get?_push_size _ rfl));have hlt:∀b∈fp,b<s2.heap.objs.size:=fun b hb=>by obtain⟨o,ho,_⟩:=T.obj 0 _ st2 b hb;exact Heap.lt_size ho
 have hDf:s2.heap.objs.size∉fp:=fun z=>Zf _ (hlt _ z);have hle:s2.heap.objs.size<=G.objs.size:=by lia
 have hDcell:∀x c,(bv X.env scope.names []).lookup x=some c->c≠s2.heap.objs.size:=fun x c e z=>by
  obtain⟨v,q⟩:=I2.cell x c (S.sub I2.ok e);exact absurd q.lt (by rw[z];exact Zf _)
 have hDfs:s2.heap.objs.size∉frs X.stack:=fun z=>by
  obtain⟨_,o,ho,_⟩:=I2.stack.mem z;exact absurd (Heap.lt_size ho) (Zf _)
 have nfs:∀b∈fp,b∉frs X.stack:=fun b hb z=>by
  rcases Xd.mp (I2.stkSub b z) with e|e
  ·exact(f2 b hb).2.1 e
  ·exact(f2 b hb).2.2.1 e
 have fpk:∀{H':Hp}{its:List Value}{n:Nat},(∀b∈fp,H' b=none)->∀b∈fp,kM (cxC X N scope G.objs.size s2 H2 fp) [(s2.heap.objs.size,cM its n)] H' b:=fun {H' its n} hn b hb =>
  ⟨hn b hb,(below b (hlt b hb)).1,nfs b hb,.inl hb,fun x c e=>(f2 b hb).2.2.2.2.1 x c (S.sub I2.ok e),fun p hp=>by
   have e:p=(s2.heap.objs.size,cM its n):=by simpa using hp
   rw[e];exact Ne.symm (below b (hlt b hb)).2⟩
 have pinD:∀{H':Hp}{s':Shared}{σ':St}{its:List Value}{n:Nat},Inv (cxC X N scope G.objs.size s2 H2 fp) [] σ' H' s'->s'.heap.get? s2.heap.objs.size=some (cM its n)->H' s2.heap.objs.size=none->Inv (cxC X N scope G.objs.size s2 H2 fp) [(s2.heap.objs.size,cM its n)] σ' H' s':=fun {H' s' σ' its n} J e hn =>
  J.pins_of fun p hp=>by
   have q:p=(s2.heap.objs.size,cM its n):=by simpa using hp
   rw[q];exact⟨e,hn,hDC,hDfs,fun v z=>by cases z⟩
 have I3:Inv (cxC X N scope G.objs.size s2 H2 fp) [] (blk k caps σ) H2 { s2 with heap:=h₁,toks:=s2.toks+([]:List (Str×Value)).length }:=uz S I2 f2 hlt hle rfl rfl old hns₁ (Yb I2.tk (Nat.le_add_right _ _));have loop:codeAny (model X.prog X.w) X.A (.compLoop (.ListComp elt [⟨tg,iter,ifs,0⟩] scope pos) 0 (.ref it) (.ref s2.heap.objs.size) (compEnvC scope (bv X.env scope.names []) G.objs.size X.env))
   (compPost (model X.prog X.w) X.A X.xe use Q' (.ref s2.heap.objs.size) G.objs.size) { s2 with heap:=h₁,toks:=s2.toks+([]:List (Str×Value)).length }:=by
  refine fK (CI (cxC X N scope G.objs.size s2 H2 fp) s2.heap.objs.size (blk k caps σ) tn fp n0 W) ?_ n0
   ⟨0,[],[],0,H2,pinD I3 hacc (I2.hok.fresh (Wa _)),T.keep _ _ _ st2 fun b _ o e=>old b o e,fun b hb=>(f2 b hb).1,.nil,Vj _,rfl,Vj _,w0⟩
  rintro n s3 ⟨i,xs,its,nn,H3,J3,st3,fr3,vs3,hz3,hn3,hi3,w3⟩;by_cases hin:i<n0
  rotate_left
  ·have ein:i=n0:=by lia
   subst ein;obtain⟨stop,qn⟩:=wstop xs H3 w3;refine thn (T.done (cxC X N scope G.objs.size s2 H2 fp) rfl rfl rfl hc i _ s3 _ H3 _ J3 (fpk fr3) st3 stop) fun r s4 zz9=>?_;obtain⟨hr,J4⟩:=zz9;subst hr;obtain⟨eD,nD,_⟩:=J4.pin (s2.heap.objs.size,cM its nn) (by simp)
   have eD:s4.heap.get? s2.heap.objs.size=some (cM its nn):=eD;have nD:H3 s2.heap.objs.size=none:=nD;obtain⟨m4,hm4,_⟩:=J4.loc;have U:Un (frs X.stack) fp H2 H3 s2.heap s4.heap:=J4.base;have neC:∀b o,s2.heap.get? b=some o->b≠G.objs.size:=fun b o e=>(below b (Heap.lt_size e)).1;have neD:∀b o,s2.heap.get? b=some o->b≠s2.heap.objs.size:=fun b o e=>(below b (Heap.lt_size e)).2;have H2D:H2 s2.heap.objs.size=none:=I2.hok.fresh (Wa _);have HC:H3 G.objs.size=none:=J4.free;refine fin s2.heap.objs.size G.objs.size (upd H3 s2.heap.objs.size (.lst xs)) s4 m4 (I2.call' (s':=s4) (ch:=fp) J4.os ?_ ?_ J4.bare ?_ J4.tk) hm4 ?_ (qn _ nD)
   ·refine⟨fun b o e n hb hx=>U.keep b o e n hb hx,fun b o e n hb hx=>U.slot b o e n hb hx,fun b o e n hx=>?_,fun b o e hx=>U.there b o e hx,fun b ys e=>?_,fun b o u e=>?_,fun b ps e=>?_⟩
    ·rw[aM (neD b o e)];exact U.free b o e n hx
    ·rw[aM (aU e H2D)];exact U.tups b ys e
    ·rw[aM (aU e H2D)];exact U.frzs b o u e
    ·obtain⟨more,q⟩:=U.tbls b ps e;exact⟨more,by rw[aM (aU e H2D)];exact q⟩
   ·intro b u e;by_cases hb:b=s2.heap.objs.size
    ·subst hb;rw[aZ]at e;cases e;exact⟨hz3,its,nn,vs3,eD⟩
    ·rw[aM hb]at e;exact(J4.hok b u e).stay (fun c v _ q=>q) (fun c q=>by rw[aM (aU q nD)];exact q) fun c ys q=>by rw[aM (aU q nD)];exact q
   ·exact fun b hb=>⟨(f2 b hb).2.2.2.1,(f2 b hb).2.1,(f2 b hb).2.2.2.2.1,(f2 b hb).2.2.2.2.2⟩
   ·refine⟨by rw[aM (Ne.symm hDC)];exact HC,Wk (Yb I2.lt hle),.inr (Wb I2.sz hle),fun x c e z=>?_,fun p hp z=>?_⟩
    ·obtain⟨v,q⟩:=I2.cell x c e;exact absurd (Yb q.lt (by rw[z];exact hle)) (Zf _)
    ·exact absurd (Yb (Heap.lt_size (I2.pin p hp).1) (by rw[z];exact hle)) (Zf _)
  ·obtain⟨go,hz,step⟩:=turn i xs H3 hin w3;refine thn (T.item (cxC X N scope G.objs.size s2 H2 fp) rfl rfl rfl hc i _ s3 _ H3 _ J3 (fpk fr3) st3 go) fun r s4 zz9=>?_;obtain⟨u,hr,h4⟩:=zz9;subst hr;refine thn h4 fun _ s5 zz9=>?_;obtain⟨x,H5,J5,r5,y5,st5,fr5⟩:=zz9;have J5':=J5.pinned (fpk fr5) (T.obj _ _ st5);refine thn (hg _ _ _ _ _ s5 _ H5 x u _ J5' r5 (step x H5 y5)) fun _ s6 zz9=>?_;obtain⟨σ6,H6,J6,q6⟩:=zz9;refine thn (ht _ _ _ _ _ s6 σ6 H6 _ J6 q6) fun ok s7 zz9=>?_;obtain⟨H7,J7,q7⟩:=zz9;have wk:∀{σ8:St}{H8:Hp}{s8:Shared}{pl:List (Addr×Obj)},Inv (cxC X N scope G.objs.size s2 H2 fp) pl σ8 H8 s8->σ8.drop k=(blk k caps σ).drop k->Inv (cxC X N scope G.objs.size s2 H2 fp) pl (blk k caps σ) H8 s8:=fun {σ8 H8 s8 pl} J8 hd =>
    J8.weak (by rw[pX,J8.len];exact S.len.symm) fun j v e=>by
     obtain⟨j',i',rfl,hc',hv'⟩:=pY e;have e1:((blk k caps σ).drop k)[j']?=some (some v):=by rw[Wf];exact e
     rw[← hd,Wf]at e1;exact e1
   have recs:∀{σ8:St}{H8:Hp}{s8:Shared},Inv (cxC X N scope G.objs.size s2 H2 fp) ([(s2.heap.objs.size,cM its nn)]++jP fp s5.heap) σ8 H8 s8->(∀b∈fp,∀o,s5.heap.get? b=some o->s8.heap.get? b=some o)/\(∀b∈fp,H8 b=none):=fun {σ8 H8 s8} J8 =>
    ⟨fun b hb o e=>(J8.pin (b,o) (Ze _ (Ze _ (cZ hb e)))).1,fun b hb=>by
     obtain⟨o,e,d⟩:=T.obj _ _ st5 b hb
     exact(J8.pin (b,o) (Ze _ (Ze _ (cZ hb e)))).2.1⟩
   cases ok with
   | false =>
    rw[if_neg (by decide)]at q7 ⊢
    obtain⟨hd,w7⟩:=q7;obtain⟨k1,k2⟩:=recs J7;exact⟨n0-(i+1),by lia,i+1,xs,its,nn,H7,wk J7.unpinned hd,T.keep _ _ _ st5 k1,k2,vs3,hz3,rfl,hin,w7⟩
   | true =>
    rw[if_pos rfl]at q7 ⊢;refine thn (he _ _ _ _ _ s7 σ6 H7 _ J7 q7) fun uy s8 zz9=>?_;obtain⟨y,H8,J8,r8,hd,w8⟩:=zz9;obtain⟨k1,k2⟩:=recs J8;obtain⟨eD,nD,_⟩:=J8.pin (s2.heap.objs.size,cM its nn) (by simp)
    have eD:s8.heap.get? s2.heap.objs.size=some (cM its nn):=eD;have nD:H8 s2.heap.objs.size=none:=nD;have hl3:=vs3.length;refine call_meets F.slot_list_append ⟨_,eD,rfl⟩ F.entry_list_append (F.args_list_append_2 _ _) (PySem.list_append s2.heap.objs.size its.toArray nn uy (by rw[Qa];lia)) ⟨eD,?_⟩
    have q:=PySem.IsL.update eD (fun a:Array Value=>a.push uy);have qe:its.toArray.push uy=(its++[uy]).toArray:=by simp
    rw[qe]at q;have oth:∀b o,b≠s2.heap.objs.size->s8.heap.get? b=some o->(s8.heap.update s2.heap.objs.size (Obj.mapSeq fun a=>a.push uy)).get? b=some o:=fun b o hb e=>(Heap.get?_update_other s8.heap _ (Ne.symm hb)).trans e;have J9:Inv (cxC X N scope G.objs.size s2 H2 fp) [] σ6 H8 { s8 with heap:=s8.heap.update s2.heap.objs.size (Obj.mapSeq fun a=>a.push uy),toks:=s8.toks } :=
     (J8.pins_of (pins':=[]) fun p hp=>absurd hp (by simp)).turned oth nD hDC (.inr (Wa _)) hDcell (fun p hp=>absurd hp (by simp))
    refine⟨n0-(i+1),by lia,i+1,xs++[y],its++[uy],_,H8,wk (pinD J9 q nD) hd,T.keep _ _ _ st5 fun b hb o e=>oth b o (fun z=>hDf (z ▸ hb)) (k1 b hb o e),k2,vs3.append (.cons r8 .nil),?_,rfl,hin,w8⟩
    rw[Za,Zh];lia
 exact codeAny_compStart_list loop (T.self _ 0 _ _ _ (T.keep _ _ _ st2 fun b _ o e=>old b o e) loop)
theorem Inv.aside{X:Cx}{pins:List (Addr×Obj)}{σ:St}{H:Hp}{s:Shared}{C:Addr}{h':Heap}(I:Inv X pins σ H s)(a:vH X pins H C)(hs:Heap.SameBut C s.heap h'):Inv X pins σ H { s with heap:=h' } :=
 I.turned (t':=s.toks) (fun b o hb e=>hs.extBut b o hb e) a.1 a.2.1 a.2.2.1 a.2.2.2.1 a.2.2.2.2
theorem cR{X:Cx}{elt iter tg:Expr}{ifs:List Expr}{scope:Scope}{pos:Pos}{N:List Str}{k:Nat}{caps:List Nat}{wi:TI}{g:TG}{tc:TT}{te:TE}(S:BlkScope X N k caps scope)(hc:X.calm=true)(hi:PI X tg iter wi)
  (hg:∀C s H fp,PG (cxC X N scope C s H fp) tg g)(ht:∀C s H fp,PIf (cxC X N scope C s H fp) ifs tc)(he:∀C s H fp,PE (cxC X N scope C s H fp) elt te)
  (hs:∀x,foldedSetIterable iter X.env x=pure x:=by intro _;rfl):PE X (.ListComp elt [⟨tg,iter,ifs,0⟩] scope pos) (pZ k caps wi g tc te):=by
 intro pins s σ H Q I h;rw[eval_ListComp];exact se (use:=none) S hc hi hg ht he hs I h fun D C H4 s4 m I4 hm a q=>⟨m,hm,fun h' hs'=>⟨.ref D,H4,I4.aside a hs',rfl,q⟩⟩
end L2
namespace L2
open PySem PySem.Spec PyProof.Rows
noncomputable def Its(x:Str):It:=⟨fun i _=>i<x.cps.size,fun i H v H'=>H'=H/\∃c,x.cps[i]?=some c/\v=.str ⟨#[c]⟩,fun i _=>x.cps.size<=i⟩
theorem qS{P:Program}{w:World}{K:PySem.W.Frag}{tg:Expr}(it:Addr)(x:Str)(t:Tok):Turn P w K tg (Its x) [it] it (fun i h=>h.IsStrIter it "str_ascii_iterator" x t i) where
 mem:=by simp
 obj:=fun i h st b hb=>by
  have e:b=it:=by simpa using hb
  subst e;obtain⟨o,e,c,d⟩:=st;exact⟨o,e,fun v z=>by rw[d]at z;cases z⟩
 keep:=fun i h h' st k=>let ⟨o,ho,r⟩:=st;⟨o,k it (by simp) o ho,r⟩
 item:=by
  intro X hP hw hK hc i pins s σ H E I hf st hg;subst hP hw hK;obtain⟨f0,f1,f2,f3,f4,f5⟩:=hf it (by simp)
  have hg':i<x.cps.size:=hg;refine wpAny_pyNext_ascii_item st (c:=x.cps[i]) (by simp[hg']) fun h' st' sb=>?_
  have I1:Inv X pins σ H { s with heap:=h',toks:=s.toks+1 }:=I.turned (fun b o hb e=>sb.extBut b o hb e) f0 f1 f3 f4 f5;obtain⟨o,e,c,d⟩:=id st';exact⟨_,rfl,kW (s:={ s with heap:=h',toks:=s.toks+1 }) e c d (by decide) ⟨.str ⟨#[x.cps[i]]⟩,H,I1,⟨_,rfl⟩,⟨rfl,_,by simp[hg'],rfl⟩,st',fun b hb=>(hf b hb).1⟩⟩
 done:=by
  intro X hP hw hK hc i pins s σ H E I hf st hg;subst hP hw hK;obtain⟨f0,f1,f2,f3,f4,f5⟩:=hf it (by simp)
  have hg':x.cps.size<=i:=hg;exact wpAny_pyNext_ascii_end (I.ok.hd hc) st (by simp[hg']) fun h' eb=>⟨rfl,I.turned (t':=s.toks) (fun b o hb e=>eb b o hb e) f0 f1 f3 f4 f5⟩
 self:=fun _ _ _ _ _ st h=>wpAny_pyIter_striter_ascii st h
theorem qT{P:Program}{w:World}{K:PySem.W.Frag}{tg:Expr}(it:Addr)(x:Str)(t:Tok):Turn P w K tg (Its x) [it] it (fun i h=>h.IsStrIter it "str_iterator" x t i) where
 mem:=by simp
 obj:=fun i h st b hb=>by
  have e:b=it:=by simpa using hb
  subst e;obtain⟨o,e,c,d⟩:=st;exact⟨o,e,fun v z=>by rw[d]at z;cases z⟩
 keep:=fun i h h' st k=>let ⟨o,ho,r⟩:=st;⟨o,k it (by simp) o ho,r⟩
 item:=by
  intro X hP hw hK hc i pins s σ H E I hf st hg;subst hP hw hK;obtain⟨f0,f1,f2,f3,f4,f5⟩:=hf it (by simp)
  have hg':i<x.cps.size:=hg;refine wpAny_pyNext_wide_item st (c:=x.cps[i]) (by simp[hg']) fun h' st' sb=>?_
  have I1:Inv X pins σ H { s with heap:=h',toks:=s.toks+1 }:=I.turned (fun b o hb e=>sb.extBut b o hb e) f0 f1 f3 f4 f5;obtain⟨o,e,c,d⟩:=id st';exact⟨_,rfl,kW (s:={ s with heap:=h',toks:=s.toks+1 }) e c d (by decide) ⟨.str ⟨#[x.cps[i]]⟩,H,I1,⟨_,rfl⟩,⟨rfl,_,by simp[hg'],rfl⟩,st',fun b hb=>(hf b hb).1⟩⟩
 done:=by
  intro X hP hw hK hc i pins s σ H E I hf st hg;subst hP hw hK;obtain⟨f0,f1,f2,f3,f4,f5⟩:=hf it (by simp)
  have hg':x.cps.size<=i:=hg;exact wpAny_pyNext_wide_end (I.ok.hd hc) st (by simp[hg']) fun h' eb=>⟨rfl,I.turned (t':=s.toks) (fun b o hb e=>eb b o hb e) f0 f1 f3 f4 f5⟩
 self:=fun _ _ _ _ _ st h=>wpAny_pyIter_striter_wide st h
section
variable {X:Cx}{tg:Expr}
noncomputable def wQ(tl:TE):TI:=fun σ H R=>tl σ H fun x H1=>∃z,x=.str z/\R (Its z) H1
theorem wR{l:Expr}{tl:TE}(hl:PE X l tl):PI X tg l (wQ tl):=by
 intro pins s σ H R I h;refine thn (hl pins s σ H _ I h) fun v s1 zz9=>?_;obtain⟨x,H1,I1,r1,q1⟩:=zz9;obtain⟨z,e,q⟩:=q1;subst e;obtain⟨t,rfl⟩:=r1;have fpk:∀b∈[s1.heap.objs.size],kM X pins H1 b:=fun b hb=>by
  have e:b=s1.heap.objs.size:=by simpa using hb
  subst e;exact I1.fpOk (Wa _) (I1.hok.fresh (Wa _))
 cases ha:z.cps.all (·<128) with
 | true=>exact wpAny_pyIter_ascii ha ⟨s1.heap.objs.size,[s1.heap.objs.size],_,_,H1,rfl,I1.kept (t':=s1.toks) fun b o e=>Heap.get?_push_of_some _ e,qS _ z t,⟨_,Heap.get?_push_size _ rfl,rfl,rfl⟩,fpk,q⟩
 | false=>exact wpAny_pyIter_wide ha ⟨s1.heap.objs.size,[s1.heap.objs.size],_,_,H1,rfl,I1.kept (t':=s1.toks) fun b o e=>Heap.get?_push_of_some _ e,qT _ z t,⟨_,Heap.get?_push_size _ rfl,rfl,rfl⟩,fpk,q⟩
theorem range_all(bs:List Bool):(List.range bs.length).all (fun i=>bs.getD i true)=bs.all id:=by
 induction bs with
 | nil=>rfl
 | cons b r ih =>
  rw[Yd,List.range_succ_eq_map,Qj,List.all_map,Qj,← ih];rfl
theorem jR(hc:X.calm=true):CallR X (.builtin "all") (fun xs H Q=>∃(p:Addr)(bs:List Bool),xs=[.ref p]/\SqL X.K H p (bs.map V.bl)/\Q (.bl (bs.all id)) H):=by
 intro pins s σ H xs us Q I rv h;obtain⟨p,bs,rfl,hq,q⟩:=h;obtain⟨u,rfl,ru⟩:=vals1 rv;cases ru;obtain⟨its,r,pl,hz⟩:=I.list hq;have hlen:its.length=bs.length:=by have:=r.length;simpa using this.symm
 obtain⟨op,np,ep,cp,dp,sp⟩:=id pl;have hne:p≠s.heap.objs.size:=Yf (Heap.lt_size ep);refine bu (call_all_walk (wpAny_pyIter_list pl.isList ?_));refine⟨s.heap.objs.size,_,_,_,_,_,fun i=>bs.getD i true,rfl,Walks.list (show X.A.in1.handled=none from I.ok.hd hc) s.heap.objs.size p hne its.toArray,⟨⟨_,Heap.get?_push_size _ rfl,rfl,rfl⟩,⟨op,Heap.get?_push_of_some _ ep,cp,np,sp⟩⟩,?_,fun h' tk kp hle=>?_⟩
 ·intro i v s' Q' E' hv hQ';have hv':its[i]?=some v:=by simpa using hv
  have hi:i<its.length:=(Qc.mp hv').1;have hb:(bs.map V.bl)[i]?=some (V.bl (bs[i]'(by lia))):=by
   rw[Vd,Wd (by lia)];rfl
  obtain⟨u',e1,e2⟩:=r.get hb;rw[hv']at e1;cases e1;cases e2;have:bs.getD i true=bs[i]'(by lia):=by rw[List.getD_eq_getElem?_getD,Wd (by lia)];rfl
  have hQ2:Q' (bs.getD i true) s':=hQ';rw[this]at hQ2;exact wpAny_truthy_bool hQ2
 ·have e:(List.range its.toArray.size).all (fun i=>bs.getD i true)=bs.all id:=by
   rw[Qa,hlen];exact range_all bs
  rw[e]
  exact⟨.bl (bs.all id),H,I.kept (fun b o e=>kp b o (by
   intro z;have z':b=s.heap.objs.size:=by simpa using z
   exact absurd (Heap.lt_size e) (by rw[z'];exact Zf _)) (Heap.get?_push_of_some _ e)) (I.tkl' hle),rfl,q⟩
theorem en:∀{ys:List Str}{us:List Value},Vals (ys.map V.str) us->StrsAre us ys
 | [],_,r=>by cases r;exact .nil
 | y::ys,_,r=>by
  cases r with
  | cons a b =>
   obtain⟨t,rfl⟩:=a;exact .cons y t (en b)
theorem mn:MtR X "str.join" (fun x vs H Q=>∃(sep:Str)(p:Addr)(ys:List Str),x=.str sep/\vs=[.ref p]/\SqL X.K H p (ys.map V.str)/\(ys.map (·.length)).sum+ys.length*sep.length<=16777216/\Q (.str (Txt.join sep ys)) H):=by
 intro pins s σ H x vs v us Q I rx rv h;obtain⟨sep,p,ys,rfl,rfl,hq,hz,q⟩:=h;obtain⟨t,rfl⟩:=rx;obtain⟨u,rfl,ru⟩:=vals1 rv;cases ru;obtain⟨its,r,pl,_⟩:=I.list hq;exact bu (join_list pl.isList (en (by simpa using r)) hz fun t' k hle=>⟨.str _,H,I.tok k (I.tkl' hle),⟨t',rfl⟩,q⟩)
noncomputable def sgn(x:Str):List V:=x.cps.toList.map fun c=>.str ⟨#[c]⟩
theorem nH{x:Str}{acc:Array Value}(h:ItemsOf (SignAt x) acc x.cps.size):Vals (sgn x) acc.toList:=by
 obtain⟨h1,h2⟩:=h;have gen:∀(cs:List Nat)(us:List Value),us.length=cs.length->(∀(j:Nat) v,us[j]?=some v->∃c u,cs[j]?=some c/\v=Value.str ⟨#[c]⟩ u)->Vals (cs.map fun c=>V.str ⟨#[c]⟩) us:=by
  intro cs;induction cs with
  | nil=>intro us hl _;cases us with
   | nil=>exact .nil
   | cons _ _=>cases hl
  | cons c cs ih =>
   intro us hl hu;cases us with
   | nil=>cases hl
   | cons u us =>
    obtain⟨c',tk,e1,e2⟩:=hu 0 u rfl;have:c=c':=by simpa using e1
    subst this;subst e2;refine .cons ⟨tk,rfl⟩ (ih us (by simpa using hl) fun j v e=>?_)
    have:=hu (j+1) v (by simpa using e)
    simpa using this
 refine gen x.cps.toList acc.toList (by simp[h1]) fun j v e=>?_
 obtain⟨c,u,e1,e2⟩:=h2 j v (by simpa using e)
 exact⟨c,u,by simpa using e1,e2⟩
theorem p5(x:Str):(sgn x).length=x.cps.size:=by simp[sgn]
theorem jS(hc:X.calm=true):CallR X (.type "list") (fun xs H Q=>∃z:Str,xs=[.str z]/\z.cps.size<=sizeLine/\∀l,H l=none->Q (.ref l) (upd H l (.lst (sgn z)))):=by
 intro pins s σ H xs us Q I rv h;obtain⟨z,rfl,hz,q⟩:=h;obtain⟨u,rfl,ru⟩:=vals1 rv;obtain⟨t,rfl⟩:=ru;refine bu (call_list_str (I.ok.hd hc) z t (fun h' tk acc' c' kp hS hi hle=>?_) hz);refine⟨.ref s.heap.objs.size,upd H s.heap.objs.size (.lst (sgn z)),I.laid kp (Wa _) ⟨by rw[p5];exact hz,acc'.toList,c',nH hi,by simpa using hS⟩ (I.tkl' hle),rfl,q _ (I.hok.fresh (Wa _))⟩
theorem ObjOk.there{P:Program}{w:World}{H:Hp}{h:Heap}{a:Addr}{o:HO}(x:ObjOk P w H h a o):∃ob,h.get? a=some ob:=by
 cases o with
 | lst xs=>obtain⟨_,_,_,_,e⟩:=x;exact⟨_,e⟩
 | tup xs=>obtain⟨_,_,_,o,e,_⟩:=x;exact⟨_,e⟩
 | dK kvs=>obtain⟨_,_,_,_,o,_,_,e,_⟩:=x;exact⟨_,e⟩
 | dT ep kvs=>obtain⟨_,_,_,_,_,o,_,e,_⟩:=x;exact⟨_,e⟩
 | set S n=>obtain⟨o,_,_,_,e,_⟩:=x;exact⟨_,e⟩
 | ins C dx fs=>obtain⟨_,_,_,e,_⟩:=x;exact⟨_,e⟩
 | own y=>exact x
 | xd fs=>obtain⟨_,⟨_,_,_,e,_⟩,_⟩:=x;exact⟨_,e⟩
 | rng lo hi=>obtain⟨_,_,_,e⟩:=x;exact⟨_,e⟩
 | frz ob u=>obtain⟨e,_⟩:=x;exact⟨_,e⟩
 | tbl ps=>exact⟨_,x⟩
 | met f y=>exact⟨_,x⟩
 | ext φ=>obtain⟨_,e,_⟩:=x;exact e
theorem Inv.laid2{pins:List (Addr×Obj)}{σ:St}{H:Hp}{s:Shared}{h':Heap}{a:Addr}{o:HO}{t':Nat}(I:Inv X pins σ H s)(k:∀b u,s.heap.get? b=some u->h'.get? b=some u)(hne:∀b u,s.heap.get? b=some u->b≠a)(hn:H a=none)(new:ObjOk X.prog X.w (upd H a o) h' a o)(ht:0<t':=by first|assumption|exact Xf _|exact Inv.tk (by assumption)|exact Inv.tkl (by assumption) (by assumption)|lia) :
  Inv X pins σ (upd H a o) { s with heap:=h',toks:=t' }:=by
 refine I.un ⟨fun b u e _ _ _=>k b u e,fun b u e _ _ _=>⟨u.slots,k b u e⟩,fun b u e n _=>by rw[aM (hne b u e)];exact n,fun b u e _=>⟨u,k b u e⟩,fun b xs e=>by rw[aM (aU e hn)];exact e,fun b u v e=>by rw[aM (aU e hn)];exact e,fun b ps e=>⟨#[],by rw[aM (aU e hn),e];simp⟩⟩ ?_
 intro b u e;by_cases hb:b=a
 ·subst hb;rw[aZ]at e;cases e;exact new
 ·rw[aM hb]at e;exact(I.hok b u e).stay (fun c v _ q=>k c v q) (fun c q=>by rw[aM (aU q hn)];exact q) fun c xs q=>by rw[aM (aU q hn)];exact q
theorem jw(hc:X.calm=true):CallR X (.type "tuple") (fun xs H Q=>∃z:Str,xs=[.str z]/\z.cps.size<=sizeLine/\∀l,H l=none->Q (.ref l) (upd H l (.tup (sgn z)))):=by
 intro pins s σ H xs us Q I rv h;obtain⟨z,rfl,hz,q⟩:=h;obtain⟨u,rfl,ru⟩:=vals1 rv;obtain⟨t,rfl⟩:=ru;refine bu (call_tuple_str (I.ok.hd hc) z t (fun h' tk acc kp hi hle=>?_) hz);have hne:∀b u,s.heap.get? b=some u->b≠h'.objs.size:=fun b u e z=>absurd (Heap.lt_size (kp b u e)) (by rw[z];exact Zf _)
 have hn:H h'.objs.size=none:=by
  cases e:H h'.objs.size with
  | none=>rfl
  | some o =>
   obtain⟨ob,eo⟩:=(I.hok _ _ e).there;exact absurd rfl (hne _ _ eo)
 refine⟨.ref h'.objs.size,upd H h'.objs.size (.tup (sgn z)),I.laid2 (fun b u e=>Heap.get?_push_of_some _ (kp b u e)) hne hn ⟨by rw[p5];exact hz,acc.toList,nH hi,⟨_,Heap.get?_push_size _ rfl,rfl,0,by simp⟩⟩ (I.tkl' hle),rfl,q _ hn⟩
theorem wS:SlR X (fun x lo hi H Q=>∃z:Str,x=.str z/\z.length<=sizeLine/\Q (.str (Txt.slice z lo hi)) H):=by
 intro pins s σ H x v vl vu lo hi sl Q I rx hs pl pu h;obtain⟨z,rfl,hz,q⟩:=h;obtain⟨t,rfl⟩:=rx;refine⟨"str",_,F.slot_str_getitem.lookup,typeIs_str _ _ _,?_⟩;have fin:∀(o p:Option Int),lo=o->hi=p->∀t' k,s.toks<=k->EP X pins σ Q (.str (Txt.slice z o p) t') { s with toks:=k }:=fun o p e1 e2 t' k hle=>⟨.str _,H,I.tok k (I.tkl' hle),⟨t',rfl⟩,by rw[← e1,← e2];exact q⟩
 refine bu ?_;cases pl with
 | none =>
  cases pu with
  | none=>exact wpAny_getItem_str_slice (l:=none) (u:=none) (st:=none) hs rfl (post_val_or_str ⟨Wb (Txt.slice_le z _ _) hz,fun t' k=>fin _ _ rfl rfl t' k⟩)
  | int j uj=>exact wpAny_getItem_str_slice (l:=none) (u:=some (j,uj)) (st:=none) hs rfl (post_val_or_str ⟨Wb (Txt.slice_le z _ _) hz,fun t' k=>fin _ _ rfl rfl t' k⟩)
 | int i ui =>
  cases pu with
  | none=>exact wpAny_getItem_str_slice (l:=some (i,ui)) (u:=none) (st:=none) hs rfl (post_val_or_str ⟨Wb (Txt.slice_le z _ _) hz,fun t' k=>fin _ _ rfl rfl t' k⟩)
  | int j uj=>exact wpAny_getItem_str_slice (l:=some (i,ui)) (u:=some (j,uj)) (st:=none) hs rfl (post_val_or_str ⟨Wb (Txt.slice_le z _ _) hz,fun t' k=>fin _ _ rfl rfl t' k⟩)
end
end L2
namespace L2
open PySem PySem.Spec PyProof.Rows
structure Cal(P:Program)(w:World)(K:PySem.W.Frag)(mg:Str->Option Value)(base:Heap)(x:Str)(k:Nat)(ps:List Str)(sp:Sp):Prop where
 ex:∃f fd,FnOk P w K mg base CX0 k f fd ps sp/\mg x=some (.ref f)/\PySem.W.keepIn K (.ref f)=true/\Binds K fd ps []
noncomputable def qU(sp:Sp)(t:TA):TE:=fun σ H Q=>t σ H fun vs H1=>sp vs H1 Q E0
section
variable {X:Cx}
theorem aw{x:Str}{k k':Nat}{ps:List Str}{sp:Sp}{e:Expr}{es:List Expr}{t:TA}{p pos:Pos}(C:Cal X.prog X.w X.K X.mg X.base x k ps sp)(hr:Room k' X.A)(hg:Gl X x)(ha:PA X (e::es) t)(hk:k<=k':=by decide)
  (hdb:(x == ("__debug__":Str))=false:=by decide) (he:starEach (e::es) X.env=(false,eval e X.env)::starEach es X.env:=by rfl) (hpl:(backTo pos (starEach es X.env)).any (·.1)=false:=by rfl) :
  PE X (.Call (.Name x p) (e::es) [] pos) (qU sp t):=by
 obtain⟨f,fd,F,hm,hkp,hb⟩:=C.ex;intro pins s σ H Q I h;refine pQ F (hr.mono hk) hg hm hkp hb .nil vF ha hdb he hpl pins s σ H Q I ?_;have e0:qU sp t=rQ sp [] E0 t:=by
  funext σ H Q
  unfold qU rQ;simp only[Zc]
 rw[e0]at h;exact h
noncomputable def fL:Expr->Bool
 | .Starred ..=>false
 | _=>true
theorem cW{e:Expr}{es:List Expr}{env:Env}(h:fL e=true):starEach (e::es) env=(false,eval e env)::starEach es env:=by
 cases e<;>first|rfl|cases h
theorem au{e:Expr}{es:List Expr}{te:TE}{t:TA}(ha:PE X e te)(hr:PA X es t)(h:fL e=true:=by rfl):PA X (e::es) (fD te t):=pP ha hr (cW h)
noncomputable def strsOf:List Expr->Option (List Str)
 | []=>some []
 | .Constant (.str x) _ _::r=>(strsOf r).map (x::·)
 | _=>none
noncomputable def vI(xs:List Str):TA:=fun _ H Q=>Q (xs.map V.str) H
theorem dF:∀{es:List Expr}{xs:List Str},strsOf es=some xs->PA X es (vI xs)
 | [],xs,h=>by
  have e:xs=[]:=(Option.some.inj h).symm;subst e;exact fun pos pins s σ H Q I q=>af pos pins s σ H Q I q
 | e::r,xs,h=>by
  cases e with
  | Constant c j p =>
   cases c with
   | str x =>
    have h':(strsOf r).map (x::·)=some xs:=h;obtain⟨ys,h1,h2⟩:=Zg.mp h';subst h2;intro pos pins s σ H Q I q;exact pP (aD (x:=x)) (dF h1) (cW rfl) pos pins s σ H Q I q
   | _=>cases h
  | _=>cases h
theorem uB{x z:Str}{pos:Pos}(hg:Gl X x)(hm:∃t,X.mg x=some (.str z t))(hd:(x == ("__debug__":Str))=false:=by decide):PE X (.Name x pos) (tC (.str z)):=by
 obtain⟨t,h⟩:=hm;exact pH hg h ⟨t,rfl⟩ hd
theorem uC{x:Str}{i:Int}{pos:Pos}(hg:Gl X x)(hm:∃t,X.mg x=some (.int i t))(hd:(x == ("__debug__":Str))=false:=by decide):PE X (.Name x pos) (tC (.int i)):=by
 obtain⟨t,h⟩:=hm;exact pH hg h ⟨t,rfl⟩ hd
theorem aP(i:Nat){e:Expr}{te:TE}{x:Str}{pos' pos:Pos}(hN:X.N.Nodup)(he:PE X e te)(hi:X.N[i]?=some x:=by rfl)(hx:Loc X.env.scope x:=by first|exact Or.inl rfl|exact Or.inr rfl)(hf:X.fn x=true∨X.env.scope.names.lookup x=some .local:=by first|exact .inl rfl|exact .inr rfl|assumption)
  (hs:swapsWithSole [.Name x pos'] e pos.line X.env=pure false:=by rfl) (hw:swappedStores [.Name x pos'] e X.env=pure none:=by rfl) (h1:(assignEach [.Name x pos'] X.env).map (·.2)=[assign (.Name x pos') X.env]:=by rfl) :
  PS X (.Assign [.Name x pos'] e pos) (uq te (nq i)):=fz he (pI hN hi hx hf) hs hw h1
theorem cr(i:Nat){x:Str}{pos:Pos}(hN:X.N.Nodup)(hi:X.N[i]?=some x:=by rfl)(hx:Loc X.env.scope x:=by first|exact Or.inl rfl|exact Or.inr rfl)(hf:X.fn x=true∨X.env.scope.names.lookup x=some .local:=by first|exact .inl rfl|exact .inr rfl|assumption):PG X (.Name x pos) (nq i):=pI hN hi hx hf
end
theorem cy:bootBuiltins "list"=some (.type "list"):=by decide +kernel
theorem fN:bootBuiltins "tuple"=some (.type "tuple"):=by decide +kernel
theorem cX:bootBuiltins "str"=some (.type "str"):=by decide +kernel
theorem le:bootBuiltins "int"=some (.type "int"):=by decide +kernel
theorem eu:bootBuiltins "bool"=some (.type "bool"):=by decide +kernel
theorem wT{K:PySem.W.Frag}{T S:String}{b:Bool}(h:(if (Value.type T == Value.type S)=true then some true else if PySem.W.kitMeta S=true then(fastBuiltinMro T).map (·.contains (Value.type S)) else none)=some b):PySem.W.kitOne K (.type T) (.type S)=some b:=h
theorem boot_isinstance:bootBuiltins "isinstance"=some (.builtin "isinstance"):=by decide +kernel
theorem boot_all:bootBuiltins "all"=some (.builtin "all"):=by decide +kernel
noncomputable def vJ(osc:Scope)(ON N:List Str)(k:Nat)(caps:List Nat)(scope:Scope):Bool :=
 decide (scope.kind=.function)&&scope.names.all (fun y=>decide (y.2≠.cell))&&scope.names.all (fun y=>decide (y.2=.local->scope.names.lookup y.1=some .local)) &&
 scope.names.all (fun y=>decide (y.2=.free->(osc.names.lookup y.1=some .cell∨osc.names.lookup y.1=some .free)))&&decide (N.length=k+caps.length) &&
 (List.range caps.length).all fun j=>match caps[j]?,N[k+j]? with
  | some i,some x=>decide (ON[i]?=some x)&&decide (scope.names.lookup x=some .free)
  | _,_=>false
theorem eE{X:Cx}{osc:Scope}{ON N:List Str}{k:Nat}{caps:List Nat}{scope:Scope}(h:vJ osc ON N k caps scope=true)(ho:X.env.scope=osc)(hN:X.N=ON):BlkScope X N k caps scope:=by
 unfold vJ at h;simp only[Xe,decide_eq_true_eq,Vh]at h;obtain⟨⟨⟨⟨⟨h1,h2⟩,h3⟩,h4⟩,h5⟩,h6⟩:=h;refine⟨h1,h2,h3,fun y hy hf=>?_,h5,fun j i hj=>?_⟩
 ·show X.env.scope.names.lookup y.1=_∨X.env.scope.names.lookup y.1=_;rw[ho];exact h4 y hy hf
 ·have hlt:j<caps.length:=(Qc.mp hj).1;have q:=h6 j (List.mem_range.mpr hlt);rw[hj]at q;cases e:N[k+j]? with
  | none=>rw[e]at q;cases q
  | some x =>
   rw[e]at q;have q':(decide (ON[i]?=some x)&&decide (scope.names.lookup x=some .free))=true:=q;simp only[Xe,decide_eq_true_eq]at q';exact⟨x,rfl,by rw[hN];exact q'.1,q'.2⟩
theorem aX{H:Hp}{p:Addr}(h:H p=none)(o:HO):Same H (upd H p o):=fun b u q=>by rw[aM (aU q h)];exact q
theorem iV{α:Type}{xs:List α}{i:Int}(h0:0<=i)(h1:i<xs.length):∃v,atI xs i=some v/\v∈xs/\xs[i.toNat]?=some v:=by
 have hk:i.toNat<xs.length:=by lia
 have ek:i=((i.toNat:Nat):Int):=by lia
 refine⟨xs[i.toNat],?_,List.getElem_mem hk,Wd hk⟩;have q:atI xs ((i.toNat:Nat):Int)=some xs[i.toNat]:=md (Wd hk);rw[← ek]at q;exact q
end L2
namespace L2
open PySem PySem.Spec PyProof.Rows
section
variable {X:Cx}
theorem kP:MtR X "str.startswith" (fun x vs H Q=>∃(a b:Str),x=.str a/\vs=[.str b]/\Q (.bl (Txt.startswith a b)) H):=by
 intro pins s σ H x vs v us Q I rx rv h;obtain⟨a,b,rfl,rfl,q⟩:=h;obtain⟨t,rfl⟩:=rx;obtain⟨u,rfl,ru⟩:=vals1 rv;obtain⟨t',rfl⟩:=ru;exact SC.startswith ⟨.bl _,H,I,rfl,q⟩
theorem mulOk_of{x:Str}{n:Int}(h0:0<=n)(hn:n<=1000)(hx:x.length<=1000):MulOk x n:=by
 have hx':(x.length:Int)<=1000:=by lia
 have hm:(x.length:Int)*n<=1000*1000:=Int.mul_le_mul hx' hn h0 (by decide)
 have hm2:x.length*n.toNat<=1000*1000:=Nat.mul_le_mul hx (by lia)
 refine⟨?_,fun h1 _=>?_,fun h1 h2=>?_⟩
 ·rw[decide_eq_false (by lia),decide_eq_false (by lia)];rfl
 ·have:(x.length:Int)<=(2 ^ 63-1) / n:=(Int.le_ediv_iff_mul_le (by lia)).mpr (Int.le_trans hm (by decide))
  lia
 ·unfold Builtin.Str.tooLong;have:=qR (Wa 1000);exact decide_eq_false (by rw[sizeLine_eq];lia)
theorem oK:OpR X (binaryOp .Mult) (fun x y H Q=>∃(a:Str)(n:Int),x=.str a/\y=.int n/\MulOk a n/\Q (.str (Txt.mul a n)) H):=by
 intro pins s σ H x y v u Q I rx ry h;obtain⟨a,n,rfl,rfl,hok,q⟩:=h;obtain⟨t,rfl⟩:=rx;obtain⟨t',rfl⟩:=ry;exact bu (SB.mul hok fun t2 k hle=>⟨.str _,H,I.tok k (I.tkl' hle),⟨t2,rfl⟩,q⟩)
theorem wU(hu:X.A.units<cLine):OpR X (compareOp .NotEq) (fun x y H Q=>∃(a b:Addr)(xs:List V),x=.ref a/\y=.ref b/\SqL X.K H a xs/\SqL X.K H b []/\Q (.bl (!xs.isEmpty)) H):=by
 intro pins s σ H x y v u Q I rx ry h;obtain⟨a,b,xs,rfl,rfl,ha,hb,q⟩:=h;cases rx;cases ry;obtain⟨its,r,pl,_⟩:=I.list ha;obtain⟨its2,r2,pl2,_⟩:=I.list hb;cases r2;cases xs with
 | nil =>
  cases r;exact SeqAt.RcNeAt.lists (e:=fun _=>true) pl.isList pl2.isList rfl hu (fun j h1 _=>absurd h1 (by simp)) _ _ _ _ ⟨.bl _,H,I,rfl,q⟩
 | cons x1 xr =>
  cases r;exact SeqAt.RcNeAt.lists_lengths pl.isList pl2.isList (by simp) hu _ _ _ _ ⟨.bl _,H,I,rfl,q⟩
end
theorem uD{X:Cx}{K:PySem.W.Frag}(h:X.K=K):IxR X (rIx K):=h ▸ wI
structure FunD(K:PySem.W.Frag)(x qual:Str)(st:Stmt)(ds:List Value)(f:Addr)(fd:FuncData):Prop where
 ex:∃(oc:Value)(od:Option Addr)(T:Addr)(oT:Obj)(nT:Nat)(kV doc pm:Value)(an:Option Addr)(cdv ct:Value)(osl:Array (Option Value)),
  fd=PySem.W.fnOf x qual (cE st) (b4 st) (am st) (.ref T) kV doc pm an cdv ct/\K.lookup f=some ⟨oc,od,.func fd,osl⟩/\PySem.W.codeIn K cdv qual=true/\K.lookup T=some oT/\oT.data=.seq ds.toArray nT
 kp:PySem.W.keepIn K (.ref f)=true
structure CalD(P:Program)(w:World)(K:PySem.W.Frag)(mg:Str->Option Value)(base:Heap)(x:Str)(k:Nat)(ps:List Str)(dvs:List V)(sp:Sp):Prop where
 ex:∃f fd ds,FnOk P w K mg base CX0 k f fd ps sp/\mg x=some (.ref f)/\PySem.W.keepIn K (.ref f)=true/\Binds K fd ps ds/\Vals dvs ds
noncomputable def vK(sp:Sp)(dvs:List V)(t:TA):TE:=fun σ H Q=>t σ H fun vs H1=>sp (vs++dvs) H1 Q E0
section
variable {P:Program}{w:World}{K:PySem.W.Frag}{mg:Str->Option Value}{base:Heap}
theorem FunD.ok{x qual:Str}{st:Stmt}{ds:List Value}{f:Addr}{fd:FuncData}{N ps:List Str}{k:Nat}{sp:Sp}(F:FunD K x qual st ds f fd)(S:FnScope N ps (am st))(len:∀vs H Q E,sp vs H Q E->vs.length=ps.length)
  (hbody:∀(cdv:Value)(A:Around)(outer:List Env)(s:Shared)(H:Hp)(vs:List V)(Q:VK)(E:XK),Room k (A.deeper (envOfC qual (am st) s.heap.objs.size f cdv))->sp vs H Q E ->
   ∃t,PSs (nv CX0 P w K mg base N qual (am st) f cdv A outer s H E).nox (b4 st) t/\t { nx:=fun _ H'=>Q .non H',rt:=Q } (start N vs) H):FnOk P w K mg base CX0 (k+1) f fd ps sp:=by
 obtain⟨oc,od,T,oT,nT,kV,doc,pm,an,cdv,ct,osl,rfl,lk,hcd,_,_⟩:=F.ex;refine vA lk hcd S len fun A outer s H vs Q E hr hsp=>?_;obtain⟨t,h,q⟩:=hbody cdv A outer s H vs Q E hr hsp;exact⟨t,h.nox,q⟩
theorem FunD.binds{x qual:Str}{st:Stmt}{ds:List Value}{f:Addr}{fd:FuncData}{ps:List Str}(F:FunD K x qual st ds f fd)
  (h:∀(T:Addr)(kV doc pm:Value)(an:Option Addr)(cdv ct:Value)(us:List Value),(us++ds).length=ps.length ->
   ∃k:Option (Array Value)->Sem (List (Str×Value)),bindArgs (PySem.W.fnOf x qual (cE st) (b4 st) (am st) (.ref T) kV doc pm an cdv ct) ⟨us,[]⟩=seqItems? (.ref T) >>= k/\k (some ds.toArray)=pure (ps.zip (us++ds))):Binds K fd ps ds:=by
 obtain⟨oc,od,T,oT,nT,kV,doc,pm,an,cdv,ct,osl,rfl,lk,hcd,hT,hS⟩:=F.ex;intro s us hK hl;obtain⟨k,h1,h2⟩:=h T kV doc pm an cdv ct us hl;exact BindsTo.of_defaults (T:=T) rfl (hK T oT hT) hS h1 h2
end
theorem uE{X:Cx}{x:Str}{k k':Nat}{ps:List Str}{dvs:List V}{sp:Sp}{e:Expr}{es:List Expr}{t:TA}{p pos:Pos}(C:CalD X.prog X.w X.K X.mg X.base x k ps dvs sp)(hr:Room k' X.A)(hg:Gl X x)(ha:PA X (e::es) t)(hk:k<=k':=by decide)
  (hdb:(x == ("__debug__":Str))=false:=by decide) (he:starEach (e::es) X.env=(false,eval e X.env)::starEach es X.env:=by rfl) (hpl:(backTo pos (starEach es X.env)).any (·.1)=false:=by rfl) :
  PE X (.Call (.Name x p) (e::es) [] pos) (vK sp dvs t):=by
 obtain⟨f,fd,ds,F,hm,hkp,hb,hv⟩:=C.ex;intro pins s σ H Q I h;exact pQ F (hr.mono hk) hg hm hkp hb hv vF ha hdb he hpl pins s σ H Q I h
theorem nI{α:Type}[DecidableEq α]:∀(l m:List α),l.Nodup->(∀x∈l,x∈m)->l.length<=m.length
 | [],_,_,_=>Vj _
 | a::l,m,h,hs=>by
  have hm:a∈m:=hs a Xb;have h1:=Vg.mp h;have ih:=nI l (m.erase a) h1.2 fun x hx=>by
   have hne:x≠a:=fun e=>h1.1 (e ▸ hx);exact(List.mem_erase_of_ne hne).mpr (hs x (Va _ hx))
  have hl:=List.length_erase_of_mem hm;have hp:0<m.length:=List.length_pos_of_mem hm;rw[Yd];lia
end L2
namespace VF
open PySem L2
noncomputable abbrev AS:=Addr->Prop
theorem bsP{α β γ:Type}{o:Option (α×β)}{f:α×β->Option γ}{z:γ}{P:Prop}(h:o.bind f=some z)(k:∀a b,o=some (a,b)->f (a,b)=some z->P):P:=by
 obtain⟨⟨a,b⟩,e,h⟩:=Yj.mp h;exact k a b e h
theorem bsO{α γ:Type}{o:Option α}{f:α->Option γ}{z:γ}{P:Prop}(h:o.bind f=some z)(k:∀a,o=some a->f a=some z->P):P:=by
 obtain⟨a,e,h⟩:=Yj.mp h;exact k a e h
theorem aC{α:Type}{c:Prop}{i:Decidable c}{x:Option α}{z:α}(h:(if c then x else none)=some z):c/\x=some z:=by
 by_cases q:c
 ·rw[if_pos q]at h;exact⟨q,h⟩
 ·rw[if_neg q]at h;cases h
noncomputable abbrev U(O Z:AS):AS:=fun p=>O p∨Z p
noncomputable abbrev ins(p:Addr)(O:AS):AS:=fun b=>b=p∨O b
inductive D where
 | non|bl (b:Bool)|int (i:Int)|str (x:Str)|tup (ds:List D)|lst (ds:List D)|fl (ds:List D)|ty (n:String)|dk (kvs:List (Key×D))|dt (kvs:List (List Key×D))
noncomputable def TupA(K:PySem.W.Frag)(Y:AS)(H:Hp)(a:Addr)(vs:List V):Prop:=H a=some (.tup vs)/\¬ Y a
noncomputable def LstA(K:PySem.W.Frag)(Y:AS)(H:Hp)(a:Addr)(vs:List V):Prop:=(Rd H a (.lst vs)/\¬ Y a)∨∀H',SqL K H' a vs
theorem TupA.sq{K:PySem.W.Frag}{Y:AS}{H:Hp}{a:Addr}{vs:List V}(h:TupA K Y H a vs):SqT K H a vs:=.inl (.inl h.1)
theorem LstA.sq{K:PySem.W.Frag}{Y:AS}{H:Hp}{a:Addr}{vs:List V}(h:LstA K Y H a vs):SqL K H a vs:=by
 rcases h with h|h
 ·exact .inl h.1
 ·exact h H
noncomputable def KA(Y:AS)(H:Hp)(as:List Addr):Prop:=∀b∈as,¬ Y b/\H b≠none
theorem KA.go{Y Y':AS}{H H':Hp}{as:List Addr}(h:KA Y H as)(k:∀b o,H b=some o->¬ Y b->H' b=some o)(n:∀b,Y' b->Y b∨H b=none):KA Y' H' as:=fun b hb=>by
 obtain⟨h1,h2⟩:=h b hb;refine⟨fun z=>(n b z).elim h1 h2,?_⟩;cases e:H b with
 | none=>exact absurd e h2
 | some o=>rw[k b o e h1];simp
theorem KA.less{Y Y':AS}{H:Hp}{as:List Addr}(h:KA Y H as)(n:∀b,Y' b->Y b):KA Y' H as:=fun b hb=>⟨fun z=>(h b hb).1 (n b z),(h b hb).2⟩
inductive DA(K:PySem.W.Frag)(Y:AS)(H:Hp):V->D->Prop where
 | non:DA K Y H .non .non
 | bl (b:Bool):DA K Y H (.bl b) (.bl b)
 | int (i:Int):DA K Y H (.int i) (.int i)
 | str (x:Str):DA K Y H (.str x) (.str x)
 | tup {a:Addr} {vs:List V} {ds:List D}:TupA K Y H a vs->vs.length=ds.length->(∀(i:Nat) v d,vs[i]?=some v->ds[i]?=some d->DA K Y H v d)->DA K Y H (.ref a) (.tup ds)
 | ty (n:String):DA K Y H (.ty n) (.ty n)
 | lst {a:Addr} {vs:List V} {ds:List D}:¬ Y a->H a=some (.lst vs)->vs.length=ds.length->(∀(i:Nat) v d,vs[i]?=some v->ds[i]?=some d->DA K Y H v d)->DA K Y H (.ref a) (.lst ds)
 | fl {a:Addr} {vs:List V} {ds:List D}:LstA K Y H a vs->vs.length=ds.length->(∀(i:Nat) v d,vs[i]?=some v->ds[i]?=some d->DA K Y H v d)->DA K Y H (.ref a) (.fl ds)
 | dk {a:Addr} {kvs:List (Key×V)} {ds:List (Key×D)}:¬ Y a->H a=some (.dK kvs)->kvs.map (·.1)=ds.map (·.1)->(∀(i:Nat) v d,kvs[i]?=some v->ds[i]?=some d->DA K Y H v.2 d.2)->DA K Y H (.ref a) (.dk ds)
 | dt {a:Addr} {ep:Nat×List Addr} {kvs:List (List Key×V)} {ds:List (List Key×D)}:¬ Y a->KA Y H ep.2->H a=some (.dT ep kvs)->kvs.map (·.1)=ds.map (·.1)->(∀(i:Nat) v d,kvs[i]?=some v->ds[i]?=some d->DA K Y H v.2 d.2)->DA K Y H (.ref a) (.dt ds)
noncomputable def El(K:PySem.W.Frag)(Y:AS)(H:Hp)(vs:List V)(ds:List D):Prop:=vs.length=ds.length/\∀(i:Nat) v d,vs[i]?=some v->ds[i]?=some d->DA K Y H v d
noncomputable def Lv(H:Hp)(p:Addr):Prop:=H p≠none/\∀vs,H p≠some (.tup vs)
theorem Lv.same{H H':Hp}{p:Addr}(h:Lv H p)(s:∀o,H p=some o->H' p=some o):Lv H' p:=by
 cases e:H p with
 | none=>exact absurd e h.1
 | some o =>
  refine⟨by rw[s o e];simp,fun vs z=>h.2 vs ?_⟩
  rw[s o e]at z;rw[e];exact z
structure Ext(O:AS)(H:Hp)(O':AS)(H':Hp):Prop where
 kp:∀b o,H b=some o->¬ O b->H' b=some o
 nw:∀b,O' b->O b∨H b=none
 al:∀b,H b≠none->H' b≠none
 lv:∀b,Lv H b->Lv H' b
section
variable {K:PySem.W.Frag}{Y Y' O O' O1 O2 Z:AS}{H H' H1 H2:Hp}{v:V}{d:D}{vs:List V}{ds:List D}{a p:Addr}
theorem Ext.refl(O:AS)(H:Hp):Ext O H O H:=⟨fun _ _ h _=>h,fun _ h=>.inl h,fun _ h=>h,fun _ h=>h⟩
theorem Ext.trans(a:Ext O H O1 H1)(b:Ext O1 H1 O2 H2):Ext O H O2 H2:=by
 refine⟨fun c o h n=>b.kp c o (a.kp c o h n) fun z=>?_,fun c h=>?_,fun c h=>b.al c (a.al c h),fun c h=>b.lv c (a.lv c h)⟩
 ·rcases a.nw c z with q|q
  ·exact n q
  ·rw[h]at q;cases q
 ·rcases b.nw c h with q|q
  ·exact a.nw c q
  ·right;cases e:H c with
   | none=>rfl
   | some o=>exact absurd q (a.al c (by rw[e];simp))
theorem Same.ext(h:Same H H'):Ext O H O H':=⟨fun b o e _=>h b o e,fun _ z=>.inl z,fun b z=>by
 cases e:H b with
 | none=>exact absurd e z
 | some o=>rw[h b o e];simp,fun b z=>z.same fun o e=>h b o e⟩
theorem Rd.keep{u:HO}(r:Rd H a u)(k:∀o,H a=some o->H' a=some o):Rd H' a u:=by
 rcases r with r|⟨o,r⟩
 ·exact .inl (k _ r)
 ·exact .inr ⟨o,k _ r⟩
theorem Rd.live{u:HO}(r:Rd H a u):H a≠none:=by
 rcases r with r|⟨o,r⟩<;>(rw[r];simp)
theorem TupA.go(h:TupA K Y H a vs)(k:∀b o,H b=some o->¬ Y b->H' b=some o)(n:∀b,Y' b->Y b∨H b=none):TupA K Y' H' a vs:=by
 obtain⟨h1,h2⟩:=h;refine⟨k a _ h1 h2,fun z=>?_⟩;rcases n a z with q|q
 ·exact h2 q
 ·rw[h1]at q;cases q
theorem LstA.go(h:LstA K Y H a vs)(k:∀b o,H b=some o->¬ Y b->H' b=some o)(n:∀b,Y' b->Y b∨H b=none):LstA K Y' H' a vs:=by
 rcases h with⟨h1,h2⟩|h
 ·refine .inl ⟨Rd.keep h1 fun o e=>k a o e h2,fun z=>?_⟩;rcases n a z with q|q
  ·exact h2 q
  ·exact Rd.live h1 q
 ·exact .inr h
theorem DA.go(h:DA K Y H v d)(k:∀b o,H b=some o->¬ Y b->H' b=some o)(n:∀b,Y' b->Y b∨H b=none):DA K Y' H' v d:=by
 have no:∀a u,H a=some u->¬ Y a->¬ Y' a:=fun a u e ny z=>by
  rcases n a z with q|q
  ·exact ny q
  ·rw[e]at q;cases q
 induction h with
 | non=>exact .non
 | bl b=>exact .bl b
 | int i=>exact .int i
 | str x=>exact .str x
 | tup h1 h2 _ ih=>exact .tup (h1.go k n) h2 ih
 | ty n=>exact .ty n
 | lst h0 h1 h2 _ ih=>exact .lst (no _ _ h1 h0) (k _ _ h1 h0) h2 ih
 | fl h1 h2 _ ih=>exact .fl (h1.go k n) h2 ih
 | dk h0 h1 h2 _ ih=>exact .dk (no _ _ h1 h0) (k _ _ h1 h0) h2 ih
 | dt h0 ka h1 h2 _ ih=>exact .dt (no _ _ h1 h0) (ka.go k n) (k _ _ h1 h0) h2 ih
theorem DA.ext(h:DA K (U O Z) H v d)(e:Ext O H O' H'):DA K (U O' Z) H' v d :=
 h.go (fun b o q n=>e.kp b o q fun z=>n (.inl z)) fun b z=>z.elim (fun q=>(e.nw b q).elim (fun x=>.inl (.inl x)) .inr) fun q=>.inl (.inr q)
theorem DA.less(h:DA K Y H v d)(n:∀b,Y' b->Y b):DA K Y' H v d:=h.go (fun _ _ e _=>e) fun b z=>.inl (n b z)
theorem DA.same(h:DA K Y H v d)(s:Same H H'):DA K Y H' v d:=h.go (fun b o e _=>s b o e) fun _ z=>.inl z
theorem DA.away(h:DA K Y H v d)(s:Same H H')(hp:H p=none):DA K (ins p Y) H' v d:=h.go (fun b o e _=>s b o e) fun b z=>z.elim (fun q=>.inr (q ▸ hp)) .inl
theorem El.go(h:El K Y H vs ds)(k:∀b o,H b=some o->¬ Y b->H' b=some o)(n:∀b,Y' b->Y b∨H b=none):El K Y' H' vs ds:=⟨h.1,fun i v d a b=>(h.2 i v d a b).go k n⟩
theorem El.ext(h:El K (U O Z) H vs ds)(e:Ext O H O' H'):El K (U O' Z) H' vs ds:=⟨h.1,fun i v d a b=>(h.2 i v d a b).ext e⟩
theorem El.less(h:El K Y H vs ds)(n:∀b,Y' b->Y b):El K Y' H vs ds:=⟨h.1,fun i v d a b=>(h.2 i v d a b).less n⟩
theorem El.same(h:El K Y H vs ds)(s:Same H H'):El K Y H' vs ds:=⟨h.1,fun i v d a b=>(h.2 i v d a b).same s⟩
theorem El.away(h:El K Y H vs ds)(s:Same H H')(hp:H p=none):El K (ins p Y) H' vs ds:=⟨h.1,fun i v d a b=>(h.2 i v d a b).away s hp⟩
theorem El.nil:El K Y H [] []:=⟨rfl,fun i v d h=>by simp at h⟩
theorem El.cons(h:DA K Y H v d)(r:El K Y H vs ds):El K Y H (v::vs) (d::ds):=by
 refine⟨by simp[r.1],fun i v' d' h1 h2=>?_⟩
 cases i with
 | zero =>
  have e1:v=v':=by simpa using h1
  have e2:d=d':=by simpa using h2
  subst e1 e2;exact h
 | succ i=>exact r.2 i v' d' (by simpa using h1) (by simpa using h2)
theorem El.uncons{vs:List V}{d:D}{ds:List D}(h:El K Y H vs (d::ds)):∃v r,vs=v::r/\DA K Y H v d/\El K Y H r ds:=by
 cases vs with
 | nil=>have:=h.1;simp at this
 | cons v r =>
  refine⟨v,r,rfl,h.2 0 v d rfl rfl,?_,fun i v' d' h1 h2=>h.2 (i+1) v' d' (by simpa using h1) (by simpa using h2)⟩
  have:=h.1;simpa using this
theorem El.unnil{vs:List V}(h:El K Y H vs []):vs=[]:=by
 have:=h.1;simpa using this
theorem El.app{vs ws:List V}{ds es:List D}(h:El K Y H vs ds)(r:El K Y H ws es):El K Y H (vs++ws) (ds++es):=by
 refine⟨by simp[h.1,r.1],fun i v d h1 h2=>?_⟩
 by_cases hi:i<vs.length
 ·rw[Ye hi]at h1;rw[Ye (by rw[← h.1];exact hi)]at h2
  exact h.2 i v d h1 h2
 ·rw[Wc (by lia)]at h1
  rw[Wc (by rw[← h.1];lia),← h.1]at h2
  exact r.2 _ v d h1 h2
theorem El.at(h:El K Y H vs ds){i:Nat}{d:D}(e:ds[i]?=some d):∃v,vs[i]?=some v/\DA K Y H v d:=by
 have hi:i<ds.length:=(Qc.mp e).1;have hv:i<vs.length:=by rw[h.1];exact hi
 exact⟨vs[i],Wd hv,h.2 i _ d (Wd hv) e⟩
theorem El.one(h:DA K Y H v d):El K Y H [v] [d]:=El.cons h El.nil
set_option tactic.hygienic true in
theorem El.take(h:El K Y H vs ds)(n:Nat):El K Y H (vs.take n) (ds.take n):=by
 refine⟨by simp[h.1],fun i v d h1 h2=>?_⟩
 rw[List.getElem?_take]at h1 h2;split at h1
 ·rename_i q;rw[if_pos q]at h2;exact h.2 i v d h1 h2
 ·cases h1
theorem El.drop(h:El K Y H vs ds)(n:Nat):El K Y H (vs.drop n) (ds.drop n):=by
 refine⟨by simp[h.1],fun i v d h1 h2=>?_⟩
 rw[Wf]at h1 h2;exact h.2 _ v d h1 h2
theorem El.set(h:El K Y H vs ds)(hv:DA K Y H v d)(j:Nat):El K Y H (vs.set j v) (ds.set j d):=by
 refine⟨by simp[h.1],fun i v' d' h1 h2=>?_⟩
 rw[Xh]at h1 h2;by_cases e:j=i
 ·rw[if_pos e]at h1 h2;obtain⟨hl,h1⟩:=aC h1;rw[if_pos (by rw[← h.1];exact hl)]at h2
  have e1:v=v':=by simpa using h1
  have e2:d=d':=by simpa using h2
  subst e1 e2;exact hv
 ·rw[if_neg e]at h1 h2;exact h.2 i v' d' h1 h2
set_option tactic.hygienic true in
theorem El.erase(h:El K Y H vs ds)(j:Nat):El K Y H (vs.eraseIdx j) (ds.eraseIdx j):=by
 refine⟨by simp[List.length_eraseIdx,h.1],fun i v d h1 h2=>?_⟩
 rw[List.getElem?_eraseIdx]at h1 h2;split at h1
 ·rename_i q;rw[if_pos q]at h2;exact h.2 _ v d h1 h2
 ·rename_i q;rw[if_neg q]at h2;exact h.2 _ v d h1 h2
noncomputable def OA(K:PySem.W.Frag)(Y:AS)(H:Hp)(p:Addr):D->Prop
 | .lst ds=>∃vs,H p=some (.lst vs)/\El K Y H vs ds
 | .dk ds=>∃kvs,H p=some (.dK kvs)/\kvs.map (·.1)=ds.map (·.1)/\∀(i:Nat) v d,kvs[i]?=some v->ds[i]?=some d->DA K Y H v.2 d.2
 | .dt ds=>∃ep kvs,KA Y H ep.2/\H p=some (.dT ep kvs)/\kvs.map (·.1)=ds.map (·.1)/\∀(i:Nat) v d,kvs[i]?=some v->ds[i]?=some d->DA K Y H v.2 d.2
 | _=>False
theorem OA.live(h:OA K Y H p d):H p≠none:=by
 cases d with
 | lst ds=>obtain⟨vs,e,_⟩:=h;rw[e];simp
 | dk ds=>obtain⟨vs,e,_⟩:=h;rw[e];simp
 | dt ds=>obtain⟨_,vs,_,e,_⟩:=h;rw[e];simp
 | _=>exact h.elim
theorem OA.lv(h:OA K Y H p d):Lv H p:=by
 cases d with
 | lst ds=>obtain⟨vs,e,_⟩:=h;exact⟨by rw[e];simp,fun _ z=>by rw[e]at z;cases z⟩
 | dk ds=>obtain⟨vs,e,_⟩:=h;exact⟨by rw[e];simp,fun _ z=>by rw[e]at z;cases z⟩
 | dt ds=>obtain⟨_,vs,_,e,_⟩:=h;exact⟨by rw[e];simp,fun _ z=>by rw[e]at z;cases z⟩
 | _=>exact h.elim
theorem OA.go(h:OA K Y H p d)(hp:H' p=H p)(k:∀b o,H b=some o->¬ Y b->H' b=some o)(n:∀b,Y' b->Y b∨H b=none):OA K Y' H' p d:=by
 cases d with
 | lst ds=>obtain⟨vs,e,q⟩:=h;exact⟨vs,hp.trans e,q.go k n⟩
 | dk ds=>obtain⟨vs,e,q1,q2⟩:=h;exact⟨vs,hp.trans e,q1,fun i v d a b=>(q2 i v d a b).go k n⟩
 | dt ds=>obtain⟨ep,vs,ka,e,q1,q2⟩:=h;exact⟨ep,vs,ka.go k n,hp.trans e,q1,fun i v d a b=>(q2 i v d a b).go k n⟩
 | _=>exact h.elim
theorem OA.da(h:OA K Y H p d)(hp:¬ Y' p)(n:∀b,Y' b->Y b):DA K Y' H (.ref p) d:=by
 cases d with
 | lst ds=>obtain⟨vs,e,q⟩:=h;exact .lst hp e q.1 (q.less n).2
 | dk ds=>obtain⟨vs,e,q1,q2⟩:=h;exact .dk hp e q1 fun i v d a b=>(q2 i v d a b).less n
 | dt ds=>obtain⟨ep,vs,ka,e,q1,q2⟩:=h;exact .dt hp (ka.less n) e q1 fun i v d a b=>(q2 i v d a b).less n
 | _=>exact h.elim
noncomputable def BA(K:PySem.W.Frag)(Y:AS)(H:Hp)(v:V):D->Prop
 | .non=>v=.non
 | .bl b=>v=.bl b
 | .int i=>v=.int i
 | .str x=>v=.str x
 | .tup ds=>∃a vs,v=.ref a/\TupA K Y H a vs/\El K Y H vs ds
 | .ty n=>v=.ty n
 | .lst ds=>∃a vs,v=.ref a/\H a=some (.lst vs)/\El K Y H vs ds
 | .fl ds=>∃a vs,v=.ref a/\LstA K Y H a vs/\El K Y H vs ds
 | .dk ds=>∃a kvs,v=.ref a/\H a=some (.dK kvs)/\kvs.map (·.1)=ds.map (·.1)/\∀(i:Nat) v d,kvs[i]?=some v->ds[i]?=some d->DA K Y H v.2 d.2
 | .dt ds=>∃a ep kvs,v=.ref a/\KA Y H ep.2/\H a=some (.dT ep kvs)/\kvs.map (·.1)=ds.map (·.1)/\∀(i:Nat) v d,kvs[i]?=some v->ds[i]?=some d->DA K Y H v.2 d.2
theorem DA.ba(h:DA K Y H v d):BA K Y H v d:=by
 cases h with
 | non=>rfl
 | bl b=>rfl
 | int i=>rfl
 | str x=>rfl
 | tup h1 h2 h3=>exact⟨_,_,rfl,h1,h2,h3⟩
 | ty n=>rfl
 | lst h0 h1 h2 h3=>exact⟨_,_,rfl,h1,h2,h3⟩
 | fl h1 h2 h3=>exact⟨_,_,rfl,h1,h2,h3⟩
 | dk h0 h1 h2 h3=>exact⟨_,_,rfl,h1,h2,h3⟩
 | dt h0 ka h1 h2 h3=>exact⟨_,_,_,rfl,ka,h1,h2,h3⟩
theorem OA.ba(h:OA K Y H p d):BA K Y H (.ref p) d:=by
 cases d with
 | lst ds=>obtain⟨vs,e,q⟩:=h;exact⟨p,vs,rfl,e,q⟩
 | dk ds=>obtain⟨vs,e,q1,q2⟩:=h;exact⟨p,vs,rfl,e,q1,q2⟩
 | dt ds=>obtain⟨ep,vs,ka,e,q1,q2⟩:=h;exact⟨p,ep,vs,rfl,ka,e,q1,q2⟩
 | _=>exact h.elim
end
end VF
namespace VF
open PySem L2
inductive Sl where
 | e|v (d:D)|o (d:D)|io (d:D)
noncomputable abbrev En:=List Sl
noncomputable def Sl.get:Sl->Option D
 | .e=>none
 | .v d=>some d
 | .o d=>some d
 | .io d=>some d
noncomputable def Sl.ow:Sl->Option D
 | .o d=>some d
 | .io d=>some d
 | _=>none
noncomputable def Sl.put(y:D):Sl->Sl
 | .io _=>.io y
 | _=>.o y
theorem Sl.put_ow(y:D)(s:Sl):(s.put y).ow=some y:=by cases s<;>rfl
theorem Sl.put_v(y z:D)(s:Sl):s.put y≠.v z:=by cases s<;>(intro e;cases e)
inductive Rs where
 | d (x:D)|f (x:D)|s (i:Nat)
structure ER(K:PySem.W.Frag)(st:En)(σ:St)(H:Hp)(O Z:AS):Prop where
 len:st.length=σ.length
 val:∀(i:Nat) d,st[i]?=some (.v d)->∃v,σ[i]?=some (some v)/\DA K (U O Z) H v d
 own:∀(i:Nat) s d,st[i]?=some s->s.ow=some d->∃p,σ[i]?=some (some (.ref p))/\O p/\OA K (U O Z) H p d
 uni:∀(i j:Nat) s t d d' p,st[i]?=some s->s.ow=some d->st[j]?=some t->t.ow=some d'->σ[i]?=some (some (.ref p))->σ[j]?=some (some (.ref p))->i=j
 dis:∀p,O p->¬ Z p
 liv:∀p,U O Z p->Lv H p
structure Kp(st st':En):Prop where
 len:st'.length=st.length
 has:∀(i:Nat) s,st[i]?=some s->s.get≠none->∃s',st'[i]?=some s'/\s'.get≠none
 io:∀(i:Nat) d,st[i]?=some (.io d)->∃d',st'[i]?=some (.io d')
theorem Kp.refl(st:En):Kp st st:=⟨rfl,fun i s h g=>⟨s,h,g⟩,fun i d h=>⟨d,h⟩⟩
theorem Kp.trans{a b c:En}(x:Kp a b)(y:Kp b c):Kp a c:=by
 refine⟨y.len.trans x.len,fun i s h g=>?_,fun i d h=>?_⟩
 ·obtain⟨s',h',g'⟩:=x.has i s h g;exact y.has i s' h' g'
 ·obtain⟨d',h'⟩:=x.io i d h;exact y.io i d' h'
noncomputable def RVal(K:PySem.W.Frag)(Z:AS)(st:En)(σ:St)(H:Hp)(O:AS)(v:V):Rs->Prop
 | .d x=>DA K (U O Z) H v x
 | .f x=>∃p,v=.ref p/\¬ O p/\¬ Z p/\OA K (ins p (U O Z)) H p x/\ER K st σ H (ins p O) Z
 | .s i=>σ[i]?=some (some v)/\∃s,st[i]?=some s/\s.get≠none
noncomputable def cont(st:En):Rs->Option D
 | .d x=>some x
 | .f x=>some x
 | .s i=>(st[i]?).bind Sl.get
noncomputable def Rs.nf:Rs->Rs
 | .f x=>.d x
 | r=>r
section
variable {K:PySem.W.Frag}{Y Y' O O' O1 O2 Z:AS}{H H' H1 H2:Hp}{v:V}{d:D}{vs:List V}{ds:List D}{a p:Addr}{st st' st1 st2:En}{σ σ':St}
theorem dG(st:En)(r:Rs):cont st r.nf=cont st r:=by cases r<;>rfl
theorem RVal.nf{r:Rs}(h:RVal K Z st σ H O v r):RVal K Z st σ H O v r.nf:=by
 cases r with
 | d x=>exact h
 | s i=>exact h
 | f x =>
  obtain⟨p,rfl,h1,h2,h3,_⟩:=h;exact h3.da (fun z=>z.elim h1 h2) fun b z=>.inr z
theorem RVal.ba{r:Rs}(h:RVal K Z st σ H O v r)(E:ER K st σ H O Z)(c:cont st r=some d):BA K (U O Z) H v d:=by
 cases r with
 | d x=>cases c;exact DA.ba h
 | f x =>
  cases c;have:=RVal.nf h;exact DA.ba (show DA K (U O Z) H v _ from this)
 | s i =>
  obtain⟨h1,s,h2,h3⟩:=h;have c':(st[i]?).bind Sl.get=some d:=c;rw[h2]at c';cases s with
  | e=>cases c'
  | v x =>
   cases c';obtain⟨u,g1,g2⟩:=E.val i _ h2;rw[h1]at g1;cases g1;exact g2.ba
  | o x =>
   cases c';obtain⟨p,g1,g2,g3⟩:=E.own i _ _ h2 rfl;rw[h1]at g1;cases g1;exact g3.ba
  | io x =>
   cases c';obtain⟨p,g1,g2,g3⟩:=E.own i _ _ h2 rfl;rw[h1]at g1;cases g1;exact g3.ba
theorem RVal.ext{r:Rs}(h:RVal K Z st σ H O v r.nf)(e:Ext O H O' H')(k:Kp st st'):RVal K Z st' σ H' O' v r.nf:=by
 cases r with
 | d x=>exact DA.ext (show DA K (U O Z) H v x from h) e
 | f x=>exact DA.ext (show DA K (U O Z) H v x from h) e
 | s i =>
  obtain⟨h1,s,h2,h3⟩:=h;exact⟨h1,k.has i s h2 h3⟩
theorem ER.same(E:ER K st σ H O Z)(s:Same H H'):ER K st σ H' O Z:=by
 refine⟨E.len,fun i d h=>?_,fun i s' d h1 h2=>?_,E.uni,E.dis,fun p hp=>?_⟩
 ·obtain⟨v,h1,h2⟩:=E.val i d h;exact⟨v,h1,h2.same s⟩
 ·obtain⟨p,g1,g2,g3⟩:=E.own i s' d h1 h2;refine⟨p,g1,g2,g3.go ?_ (fun b o e _=>s b o e) fun b z=>.inl z⟩;cases e:H p with
  | none=>exact absurd e g3.live
  | some o=>exact s p o e
 ·exact(E.liv p hp).same fun o e=>s p o e
theorem ER.away(E:ER K st σ H O Z)(s:Same H H')(hp:H p=none)(hp':Lv H' p):ER K st σ H' (ins p O) Z:=by
 have sub:∀b,U (ins p O) Z b->ins p (U O Z) b:=fun b z=>by
  rcases z with(z|z)|z
  ·exact .inl z
  ·exact .inr (.inl z)
  ·exact .inr (.inr z)
 refine⟨E.len,fun i d h=>?_,fun i s' d h1 h2=>?_,E.uni,fun q hq=>?_,fun q hq=>?_⟩
 ·obtain⟨v,h1,h2⟩:=E.val i d h;exact⟨v,h1,(h2.away s hp).less sub⟩
 ·obtain⟨q,g1,g2,g3⟩:=E.own i s' d h1 h2;refine⟨q,g1,.inr g2,g3.go ?_ (fun b o e _=>s b o e) fun b z=>?_⟩
  ·cases e:H q with
   | none=>exact absurd e g3.live
   | some o=>exact s q o e
  ·rcases sub b z with z|z
   ·exact .inr (z ▸ hp)
   ·exact .inl z
 ·rcases hq with rfl|hq
  ·exact fun z=>(E.liv _ (.inr z)).1 hp
  ·exact E.dis q hq
 ·rcases hq with(rfl|hq)|hq
  ·exact hp'
  ·exact(E.same s).liv q (.inl hq)
  ·exact(E.same s).liv q (.inr hq)
theorem ER.free(E:ER K st σ H O Z)(hp:H p=none):¬ O p/\¬ Z p:=⟨fun z=>(E.liv p (.inl z)).1 hp,fun z=>(E.liv p (.inr z)).1 hp⟩
theorem ER.new(E:ER K st σ H O Z)(hp:H p=none)(el:El K (U O Z) H vs ds):ER K st σ (upd H p (.lst vs)) O Z/\RVal K Z st σ (upd H p (.lst vs)) O (.ref p) (.f (.lst ds)):=by
 have s:=aX hp (.lst vs);have hf:=E.free hp;refine⟨E.same s,p,rfl,hf.1,hf.2,⟨vs,aZ,el.away s hp⟩,E.away s hp ⟨by rw[aZ];simp,fun _ z=>by rw[aZ]at z;cases z⟩⟩
theorem ER.newT(E:ER K st σ H O Z)(hp:H p=none)(el:El K (U O Z) H vs ds):ER K st σ (upd H p (.tup vs)) O Z/\RVal K Z st σ (upd H p (.tup vs)) O (.ref p) (.d (.tup ds)):=by
 have s:=aX hp (.tup vs);have hf:=E.free hp;exact⟨E.same s,.tup ⟨aZ,fun z=>z.elim hf.1 hf.2⟩ el.1 (el.same s).2⟩
noncomputable def qV(st:En)(i:Nat):Option En:=match st[i]? with
 | some (.v _)=>some st
 | some (.o d)=>some (st.set i (.v d))
 | _=>none
noncomputable def si(st:En):Rs->Option En
 | .s i=>qV st i
 | _=>some st
theorem av{α:Type}{l:List α}{i j:Nat}{x:α}(h:i≠j):(l.set i x)[j]?=l[j]?:=by rw[Xh,if_neg h]
theorem aK{α:Type}{l:List α}{i:Nat}{x y:α}(h:l[i]?=some y):(l.set i x)[i]?=some x:=by
 have hi:=(Qc.mp h).1;rw[Xh,if_pos rfl,if_pos hi]
set_option tactic.hygienic true in
theorem uF{i:Nat}(h:qV st i=some st'):Kp st st'/\∃d,st'[i]?=some (.v d)/\(st[i]?).bind Sl.get=some d:=by
 unfold qV at h;split at h
 ·rename_i d e
  cases h;exact⟨Kp.refl st,d,e,by rw[e];rfl⟩
 ·rename_i d e
  cases h;refine⟨⟨by simp,fun j s hj g=>?_,fun j d' hj=>?_⟩,d,aK e,by rw[e];rfl⟩
  ·by_cases q:i=j
   ·subst q;exact⟨.v d,aK e,by simp[Sl.get]⟩
   ·exact⟨s,by rw[av q];exact hj,g⟩
  ·have q:i≠j:=fun z=>by subst z;rw[e]at hj;cases hj
   exact⟨d',by rw[av q];exact hj⟩
 ·cases h
set_option tactic.hygienic true in
theorem ER.frz{i:Nat}(E:ER K st σ H O Z)(h:qV st i=some st'):∃O',Ext O H O' H/\ER K st' σ H O' Z/\(∀b,O' b->O b):=by
 unfold qV at h;split at h
 ·cases h;exact⟨O,Ext.refl O H,E,fun _ z=>z⟩
 ·rename_i d e
  cases h;obtain⟨p,g1,g2,g3⟩:=E.own i _ _ e rfl;have less:∀b,U (fun b=>O b/\b≠p) Z b->U O Z b:=fun b z=>z.elim (fun q=>.inl q.1) .inr;refine⟨fun b=>O b/\b≠p,⟨fun b o q _=>q,fun b z=>.inl z.1,fun b z=>z,fun b z=>z⟩,⟨by simp[E.len],fun j x hj=>?_,fun j s x hj hs=>?_,fun j k s t x y q hj hs hk ht e1 e2=>?_,fun q hq=>E.dis q hq.1,fun q hq=>E.liv q (less q hq)⟩,fun b z=>z.1⟩
  ·by_cases q:i=j
   ·subst q;rw[aK e]at hj;cases hj;exact⟨.ref p,g1,g3.da (fun z=>z.elim (fun y=>y.2 rfl) (E.dis p g2)) less⟩
   ·rw[av q]at hj;obtain⟨v,h1,h2⟩:=E.val j x hj;exact⟨v,h1,h2.less less⟩
  ·have q:i≠j:=fun z=>by
    subst z;rw[aK e]at hj;cases hj;cases hs
   rw[av q]at hj;obtain⟨r,h1,h2,h3⟩:=E.own j s x hj hs;refine⟨r,h1,⟨h2,fun z=>q ?_⟩,h3.go rfl (fun _ _ e _=>e) fun b z=>.inl (less b z)⟩;subst z;exact E.uni i j _ _ _ _ r e rfl hj hs g1 h1
  ·have q1:i≠j:=fun z=>by
    subst z;rw[aK e]at hj;cases hj;cases hs
   have q2:i≠k:=fun z=>by
    subst z;rw[aK e]at hk;cases hk;cases ht
   rw[av q1]at hj;rw[av q2]at hk;exact E.uni j k s t x y q hj hs hk ht e1 e2
 ·cases h
theorem RVal.frz{r:Rs}(h:RVal K Z st σ H O v r)(E:ER K st σ H O Z)(f:si st r=some st')(c:cont st r=some d):∃O',Ext O H O' H/\Kp st st'/\ER K st' σ H O' Z/\DA K (U O' Z) H v d:=by
 cases r with
 | d x=>cases f;cases c;exact⟨O,Ext.refl O H,Kp.refl st,E,h⟩
 | f x=>cases f;cases c;exact⟨O,Ext.refl O H,Kp.refl st,E,RVal.nf h⟩
 | s i =>
  obtain⟨h1,s,h2,h3⟩:=h;have f':qV st i=some st':=f;obtain⟨k,x,k1,k2⟩:=uF f';obtain⟨O',e1,e2,_⟩:=E.frz f';have c':(st[i]?).bind Sl.get=some d:=c;have ex:x=d:=Option.some.inj (k2.symm.trans c');subst ex;obtain⟨u,g1,g2⟩:=e2.val i _ k1;rw[h1]at g1;cases g1;exact⟨O',e1,k,e2,g2⟩
theorem ER.write{i:Nat}{s:Sl}{x y:D}{o:HO}(E:ER K st σ H O Z)(hs:st[i]?=some s)(ho:s.ow=some x)(hp:σ[i]?=some (some (.ref p)))(new:OA K (U O Z) (upd H p o) p y) :
  ER K (st.set i (s.put y)) σ (upd H p o) O Z/\Ext O H O (upd H p o)/\Kp st (st.set i (s.put y)):=by
 obtain⟨q,g1,g2,g3⟩:=E.own i s x hs ho;have eq:q=p:=by rw[hp]at g1;cases g1;rfl
 subst eq;have keep:∀b u,H b=some u->¬ U O Z b->upd H q o b=some u:=fun b u e n=>by
  have hb:b≠q:=fun z=>n (.inl (by rw[z];exact g2))
  rw[aM hb];exact e
 refine⟨⟨by simp[E.len],fun j d hj=>?_,fun j t d hj ht=>?_,fun j k t t' d d' r hj ht hk ht' e1 e2=>?_,E.dis,fun r hr=>?_⟩,⟨fun b u e n=>?_,fun b z=>.inl z,fun b z=>?_,fun b z=>?_⟩,⟨by simp,fun j t hj ht=>?_,fun j d hj=>?_⟩⟩
 ·by_cases e:i=j
  ·subst e;rw[aK hs]at hj;exact absurd (Option.some.inj hj) (Sl.put_v _ _ _)
  ·rw[av e]at hj;obtain⟨v,h1,h2⟩:=E.val j d hj;exact⟨v,h1,h2.go keep fun b z=>.inl z⟩
 ·by_cases e:i=j
  ·subst e;rw[aK hs]at hj;have:=Option.some.inj hj;subst this;rw[Sl.put_ow]at ht;cases ht;exact⟨q,hp,g2,new⟩
  ·rw[av e]at hj;obtain⟨r,h1,h2,h3⟩:=E.own j t d hj ht;have hne:r≠q:=fun z=>by subst z;exact e (E.uni i j s t x d r hs ho hj ht hp h1)
   exact⟨r,h1,h2,h3.go (aM hne) keep fun b z=>.inl z⟩
 ·have own':∀(m:Nat)(t:Sl)(d:D),(st.set i (s.put y))[m]?=some t->t.ow=some d->∃t2 d2,st[m]?=some t2/\t2.ow=some d2:=fun m t d hm ht=>by
   by_cases e:i=m
   ·subst e;exact⟨s,x,hs,ho⟩
   ·rw[av e]at hm;exact⟨t,d,hm,ht⟩
  obtain⟨t1,d1,a1,b1⟩:=own' j t d hj ht;obtain⟨t2,d2,a2,b2⟩:=own' k t' d' hk ht';exact E.uni j k t1 t2 d1 d2 r a1 b1 a2 b2 e1 e2
 ·by_cases e:r=q
  ·subst e;exact new.lv
  ·exact(E.liv r hr).same fun o' eo=>by rw[aM e];exact eo
 ·have hb:b≠q:=fun z=>n (by rw[z];exact g2)
  rw[aM hb];exact e
 ·by_cases e:b=q
  ·subst e;rw[aZ];simp
  ·rw[aM e];exact z
 ·by_cases e:b=q
  ·subst e;exact new.lv
  ·exact z.same fun o' eo=>by rw[aM e];exact eo
 ·by_cases e:i=j
  ·subst e;exact⟨s.put y,aK hs,by cases s<;>simp[Sl.put,Sl.get]⟩
  ·exact⟨t,by rw[av e];exact hj,ht⟩
 ·by_cases e:i=j
  ·subst e;rw[hs]at hj;cases hj;exact⟨y,aK hs⟩
  ·exact⟨d,by rw[av e];exact hj⟩
end
end VF
namespace VF
open PySem L2
noncomputable abbrev FE:=En->Option (Rs×En)
noncomputable abbrev FA:=En->Option (List Rs×En)
noncomputable abbrev FT:=En->Option (Bool×En)
noncomputable abbrev Rz:=D×Bool
noncomputable def mk:Rz->Rs
 | (d,true)=>.f d
 | (d,false)=>.d d
noncomputable def RES(K:PySem.W.Frag)(Y:AS)(H H':Hp)(v:V):Rz->Prop
 | (d,true)=>∃p,v=.ref p/\H p=none/\OA K (ins p Y) H' p d
 | (d,false)=>DA K Y H' v d
noncomputable def Fsh(H:Hp)(v:V):Rs->Prop
 | .f _=>∀p,v=.ref p->H p=none
 | _=>True
theorem Ext.dead{O O':AS}{H H':Hp}(e:Ext O H O' H'){p:Addr}(h:H' p=none):H p=none:=by
 cases q:H p with
 | none=>rfl
 | some o=>exact absurd h (e.al p (by rw[q];simp))
theorem Fsh.back{O O':AS}{H H':Hp}{v:V}{r:Rs}(h:Fsh H' v r)(e:Ext O H O' H'):Fsh H v r:=by
 cases r with
 | f x=>exact fun p hp=>e.dead (h p hp)
 | d x=>trivial
 | s i=>trivial
noncomputable def RdE(K:PySem.W.Frag)(te:TE)(f:FE):Prop:=∀(st:En)(σ:St)(H:Hp)(O Z:AS)(Q:VK),ER K st σ H O Z->∀r st',f st=some (r,st') ->
 (∀v H' O',Ext O H O' H'->Kp st st'->ER K st' σ H' O' Z->RVal K Z st' σ H' O' v r->Fsh H v r->Q v H')->te σ H Q
inductive RVs(K:PySem.W.Frag)(Z:AS)(st:En)(σ:St)(H:Hp)(O:AS):List V->List Rs->Prop where
 | nil:RVs K Z st σ H O [] []
 | cons {v:V} {vs:List V} {r:Rs} {rs:List Rs}:RVal K Z st σ H O v r.nf->RVs K Z st σ H O vs rs->RVs K Z st σ H O (v::vs) (r::rs)
noncomputable def RdA(K:PySem.W.Frag)(ta:TA)(f:FA):Prop:=∀(st:En)(σ:St)(H:Hp)(O Z:AS)(Q:List V->Hp->Prop),ER K st σ H O Z->∀rs st',f st=some (rs,st') ->
 (∀vs H' O',Ext O H O' H'->Kp st st'->ER K st' σ H' O' Z->RVs K Z st' σ H' O' vs rs->Q vs H')->ta σ H Q
noncomputable def RdT(K:PySem.W.Frag)(tt:TT)(f:FT):Prop:=∀(st:En)(σ:St)(H:Hp)(O Z:AS)(Q:Bool->Hp->Prop),ER K st σ H O Z->∀c st',f st=some (c,st') ->
 (∀H' O',Ext O H O' H'->Kp st st'->ER K st' σ H' O' Z->Q c H')->tt σ H Q
noncomputable def RdOp(K:PySem.W.Frag)(r:R2)(b:D->D->Option Rz):Prop:=∀(Y:AS)(H:Hp)(x y:V)(d1 d2:D)(z:Rz)(Q:VK),(∀p,Y p->Lv H p)->BA K Y H x d1->BA K Y H y d2->b d1 d2=some z ->
 (∀v H',Same H H'->RES K Y H H' v z->Q v H')->r x y H Q
noncomputable def wV(K:PySem.W.Frag)(r:V->Hp->VK->Prop)(b:D->Option Rz):Prop:=∀(Y:AS)(H:Hp)(x:V)(d1:D)(z:Rz)(Q:VK),(∀p,Y p->Lv H p)->BA K Y H x d1->b d1=some z ->
 (∀v H',Same H H'->RES K Y H H' v z->Q v H')->r x H Q
inductive BAs(K:PySem.W.Frag)(Y:AS)(H:Hp):List V->List D->Prop where
 | nil:BAs K Y H [] []
 | cons {v:V} {vs:List V} {d:D} {ds:List D}:BA K Y H v d->BAs K Y H vs ds->BAs K Y H (v::vs) (d::ds)
noncomputable def RdCB(K:PySem.W.Frag)(r:List V->Hp->VK->Prop)(b:List D->Option Rz):Prop:=∀(Y:AS)(H:Hp)(xs:List V)(ds:List D)(z:Rz)(Q:VK),(∀p,Y p->Lv H p)->BAs K Y H xs ds->b ds=some z ->
 (∀v H',Same H H'->RES K Y H H' v z->Q v H')->r xs H Q
section
variable {K:PySem.W.Frag}{Y Y' O O' O1 O2 Z:AS}{H H' H1 H2:Hp}{v:V}{d:D}{vs:List V}{ds:List D}{a p:Addr}{st st' st1 st2:En}{σ σ':St}
theorem RES.rv{z:Rz}(E:ER K st σ H O Z)(s:Same H H')(h:RES K (U O Z) H H' v z):ER K st σ H' O Z/\RVal K Z st σ H' O v (mk z):=by
 obtain⟨d,fr⟩:=z;cases fr with
 | false=>exact⟨E.same s,h⟩
 | true =>
  obtain⟨p,rfl,hp,ho⟩:=h;have hf:=E.free hp;exact⟨E.same s,p,rfl,hf.1,hf.2,ho,E.away s hp ho.lv⟩
theorem RES.fsh{z:Rz}(h:RES K Y H H' v z):Fsh H v (mk z):=by
 obtain⟨d,fr⟩:=z;cases fr with
 | false=>trivial
 | true=>obtain⟨p,rfl,hp,_⟩:=h;exact fun q e=>by cases e;exact hp
theorem RVs.ext{rs:List Rs}(h:RVs K Z st σ H O vs rs)(e:Ext O H O' H')(k:Kp st st'):RVs K Z st' σ H' O' vs rs:=by
 induction h with
 | nil=>exact .nil
 | cons h1 _ ih=>exact .cons (h1.ext e k) ih
noncomputable def cf(st:En):List Rs->Option (List D)
 | []=>some []
 | r::rs=>(cont st r).bind fun d=>(cf st rs).bind fun ds=>some (d::ds)
theorem RVs.bas{rs:List Rs}(h:RVs K Z st σ H O vs rs)(E:ER K st σ H O Z):∀{ds:List D},cf st rs=some ds->BAs K (U O Z) H vs ds:=by
 induction h with
 | nil=>intro ds e;cases e;exact .nil
 | @cons v vs r rs h1 _ ih =>
  intro ds e;refine bsO e fun d e1 e=>?_;refine bsO e fun ds' e2 e=>?_;cases e;exact .cons (h1.ba E (by rw[dG];exact e1)) (ih e2)
noncomputable def cz:List Rs->En->Option (List D×En)
 | [],st=>some ([],st)
 | r::rs,st=>(cont st r).bind fun d=>(si st r).bind fun st1=>(cz rs st1).bind fun x=>some (d::x.1,x.2)
theorem uG(st:En)(r:Rs):si st r.nf=si st r:=by cases r<;>rfl
theorem RVs.esc:∀{rs:List Rs}{vs:List V}{st:En}{O:AS}{ds:List D}{st':En},RVs K Z st σ H O vs rs->ER K st σ H O Z->cz rs st=some (ds,st')->∃O',Ext O H O' H/\Kp st st'/\ER K st' σ H O' Z/\El K (U O' Z) H vs ds
 | [],_,st,O,ds,st',.nil,E,e=>by cases e;exact⟨O,Ext.refl O H,Kp.refl _,E,El.nil⟩
 | r::rs,_,st,O,ds,st',.cons h1 h2,E,e=>by
  refine bsO e fun d e1 e=>?_;refine bsO e fun st1 e2 e=>?_;refine bsP e fun ds2 st2 e3 e=>?_;cases e;obtain⟨O1,x1,k1,E1,da⟩:=h1.frz E (by rw[uG];exact e2) (by rw[dG];exact e1)
  obtain⟨O2,x2,k2,E2,el⟩:=RVs.esc (h2.ext x1 k1) E1 e3;exact⟨O2,x1.trans x2,k1.trans k2,E2,El.cons (da.ext x2) el⟩
noncomputable def ag(i:Nat):FE:=fun st=>match st[i]? with
 | some (.v d)=>some (.d d,st)
 | some (.o _)=>some (.s i,st)
 | some (.io _)=>some (.s i,st)
 | _=>none
set_option tactic.hygienic true in
theorem ab(i:Nat):RdE K (oA i) (ag i):=by
 intro st σ H O Z Q E r st' h q;unfold ag at h;split at h
 ·rename_i d e
  cases h;obtain⟨v,h1,h2⟩:=E.val i d e;exact⟨v,h1,q v H O (Ext.refl O H) (Kp.refl _) E h2 True.intro⟩
 ·rename_i d e
  cases h;obtain⟨p,h1,h2,h3⟩:=E.own i _ _ e rfl;exact⟨.ref p,h1,q _ H O (Ext.refl O H) (Kp.refl _) E ⟨h1,_,e,by simp[Sl.get]⟩ True.intro⟩
 ·rename_i d e
  cases h;obtain⟨p,h1,h2,h3⟩:=E.own i _ _ e rfl;exact⟨.ref p,h1,q _ H O (Ext.refl O H) (Kp.refl _) E ⟨h1,_,e,by simp[Sl.get]⟩ True.intro⟩
 ·cases h
noncomputable def fC(d:D):FE:=fun st=>some (.d d,st)
theorem dB{v:V}{d:D}(h:∀Y H,DA K Y H v d):RdE K (tC v) (fC d):=by
 intro st σ H O Z Q E r st' e q;cases e;exact q v H O (Ext.refl O H) (Kp.refl _) E (h _ _) True.intro
theorem aj(i:Int):RdE K (tC (.int i)) (fC (.int i)):=dB fun _ _=>.int i
theorem aF(x:Str):RdE K (tC (.str x)) (fC (.str x)):=dB fun _ _=>.str x
theorem gK(b:Bool):RdE K (tC (.bl b)) (fC (.bl b)):=dB fun _ _=>.bl b
theorem sj:RdE K (tC .non) (fC .non):=dB fun _ _=>.non
noncomputable def fOp(b:D->D->Option Rz)(fa fb:FE):FE:=fun st=>(fa st).bind fun x=>(fb x.2).bind fun y=>(cont y.2 x.1).bind fun d1=>(cont y.2 y.1).bind fun d2=>(b d1 d2).bind fun z=>some (mk z,y.2)
theorem aq{r:R2}{b:D->D->Option Rz}{ta tb:TE}{fa fb:FE}(hr:RdOp K r b)(ha:RdE K ta fa)(hb:RdE K tb fb):RdE K (tOp r ta tb) (fOp b fa fb):=by
 intro st σ H O Z Q E r' st' h q;refine bsP h fun r1 st1 e1 h=>?_;refine bsP h fun r2 st2 e2 h=>?_;refine bsO h fun d1 e3 h=>?_;refine bsO h fun d2 e4 h=>?_;refine bsO h fun z e5 h=>?_;cases h;refine ha st σ H O Z _ E r1 st1 e1 fun v1 H1 O1 x1 k1 E1 rv1 w1=>?_;refine hb st1 σ H1 O1 Z _ E1 r2 st2 e2 fun v2 H2 O2 x2 k2 E2 rv2 w2=>?_;have b1:=(rv1.nf.ext x2 k2).ba E2 (by rw[dG];exact e3)
 refine hr (U O2 Z) H2 v1 v2 d1 d2 z _ E2.liv b1 (rv2.ba E2 e4) e5 fun v H3 s hres=>?_;obtain⟨E3,rv3⟩:=hres.rv E2 s;exact q v H3 O2 ((x1.trans x2).trans (Same.ext s)) (k1.trans k2) E3 rv3 (hres.fsh.back (x1.trans x2))
noncomputable def fUn(b:D->Option Rz)(fa:FE):FE:=fun st=>(fa st).bind fun x=>(cont x.2 x.1).bind fun d1=>(b d1).bind fun z=>some (mk z,x.2)
theorem jT{r:V->Hp->VK->Prop}{b:D->Option Rz}{ta:TE}{fa:FE}(hr:wV K r b)(ha:RdE K ta fa):RdE K (tUn r ta) (fUn b fa):=by
 intro st σ H O Z Q E r' st' h q;refine bsP h fun r1 st1 e1 h=>?_;refine bsO h fun d1 e3 h=>?_;refine bsO h fun z e5 h=>?_;cases h;refine ha st σ H O Z _ E r1 st1 e1 fun v1 H1 O1 x1 k1 E1 rv1 w1=>?_;refine hr (U O1 Z) H1 v1 d1 z _ E1.liv (rv1.ba E1 e3) e5 fun v H3 s hres=>?_;obtain⟨E3,rv3⟩:=hres.rv E1 s;exact q v H3 O1 (x1.trans (Same.ext s)) k1 E3 rv3 (hres.fsh.back x1)
noncomputable def tru(st:En)(r:Rs):Option Bool:=match cont st r with
 | some (.bl c)=>some c
 | _=>none
set_option tactic.hygienic true in
theorem vL{r:Rs}{c:Bool}(E:ER K st σ H O Z)(h:RVal K Z st σ H O v r)(t:tru st r=some c):v=.bl c:=by
 unfold tru at t;split at t
 ·rename_i b e
  cases t;exact h.ba E e
 ·cases t
noncomputable def aE(fa:FE):FT:=fun st=>(fa st).bind fun x=>(tru x.2 x.1).bind fun c=>some (c,x.2)
theorem aL{ta:TE}{fa:FE}(ha:RdE K ta fa):RdT K (pO ta) (aE fa):=by
 intro st σ H O Z Q E c st' h q;refine bsP h fun r1 st1 e1 h=>?_;refine bsO h fun c' e2 h=>?_;cases h;exact ha st σ H O Z _ E r1 st1 e1 fun v1 H1 O1 x1 k1 E1 rv1 w1=>⟨c,vL E1 rv1 e2,q H1 O1 x1 k1 E1⟩
theorem cc{ta:TE}{fa:FE}(ha:RdE K ta fa):RdT K (tB ta) (aE fa):=aL ha
noncomputable def cO(f:FT):FT:=fun st=>(f st).bind fun x=>some (!x.1,x.2)
theorem b5{t:TT}{f:FT}(h:RdT K t f):RdT K (x9 t) (cO f):=by
 intro st σ H O Z Q E c st' e q;refine bsP e fun c1 st1 e1 e=>?_;cases e;exact h st σ H O Z _ E c1 st1 e1 q
noncomputable def ip(f g:FT):FT:=fun st=>(f st).bind fun x=>if x.1=true then g x.2 else some (false,x.2)
theorem mo{t u:TT}{f g:FT}(h:RdT K t f)(h':RdT K u g):RdT K (x8 t u) (ip f g):=by
 intro st σ H O Z Q E c st' e q;refine bsP e fun c1 st1 e1 e=>?_;refine h st σ H O Z _ E c1 st1 e1 fun H1 O1 x1 k1 E1=>?_;cases c1 with
 | true =>
  rw[if_pos rfl]at e ⊢;exact h' st1 σ H1 O1 Z _ E1 c st' e fun H2 O2 x2 k2 E2=>q H2 O2 (x1.trans x2) (k1.trans k2) E2
 | false =>
  simp only[Qd,if_false]at e ⊢;cases e;exact q H1 O1 x1 k1 E1
noncomputable def iW(f g:FT):FT:=fun st=>(f st).bind fun x=>if x.1=true then some (true,x.2) else g x.2
theorem dP{t u:TT}{f g:FT}(h:RdT K t f)(h':RdT K u g):RdT K (tOr t u) (iW f g):=by
 intro st σ H O Z Q E c st' e q;refine bsP e fun c1 st1 e1 e=>?_;refine h st σ H O Z _ E c1 st1 e1 fun H1 O1 x1 k1 E1=>?_;cases c1 with
 | true =>
  rw[if_pos rfl]at e ⊢;cases e;exact q H1 O1 x1 k1 E1
 | false =>
  simp only[Qd,if_false]at e ⊢;exact h' st1 σ H1 O1 Z _ E1 c st' e fun H2 O2 x2 k2 E2=>q H2 O2 (x1.trans x2) (k1.trans k2) E2
noncomputable def fu:FT:=fun st=>some (true,st)
theorem fO:RdT K yq fu:=by
 intro st σ H O Z Q E c st' e q;cases e;exact q H O (Ext.refl O H) (Kp.refl _) E
noncomputable def iq(fa fb:FE):FE:=fun st=>(fa st).bind fun x=>(tru x.2 x.1).bind fun c=>if c=true then fb x.2 else some (.d (.bl false),x.2)
theorem gw{ta tb:TE}{fa fb:FE}(ha:RdE K ta fa)(hb:RdE K tb fb):RdE K (vt ta tb) (iq fa fb):=by
 intro st σ H O Z Q E r st' h q;refine bsP h fun r1 st1 e1 h=>?_;refine bsO h fun c e2 h=>?_;refine ha st σ H O Z _ E r1 st1 e1 fun v1 H1 O1 x1 k1 E1 rv1 w1=>⟨c,vL E1 rv1 e2,?_⟩;cases c with
 | true =>
  rw[if_pos rfl]at h ⊢;exact hb st1 σ H1 O1 Z _ E1 r st' h fun v H2 O2 x2 k2 E2 rv w2=>q v H2 O2 (x1.trans x2) (k1.trans k2) E2 rv (w2.back x1)
 | false =>
  rw[if_neg (by decide)]at h ⊢
  cases h;exact q _ H1 O1 x1 k1 E1 (.bl false) True.intro
noncomputable def fIf(f:FT)(fa fb:FE):FE:=fun st=>(f st).bind fun x=>if x.1=true then fa x.2 else fb x.2
theorem vM{t:TT}{f:FT}{ta tb:TE}{fa fb:FE}(h:RdT K t f)(ha:RdE K ta fa)(hb:RdE K tb fb):RdE K (tIf t ta tb) (fIf f fa fb):=by
 intro st σ H O Z Q E r st' e q;refine bsP e fun c1 st1 e1 e=>?_;refine h st σ H O Z _ E c1 st1 e1 fun H1 O1 x1 k1 E1=>?_;cases c1 with
 | true =>
  rw[if_pos rfl]at e ⊢;exact ha st1 σ H1 O1 Z _ E1 r st' e fun v H2 O2 x2 k2 E2 rv w2=>q v H2 O2 (x1.trans x2) (k1.trans k2) E2 rv (w2.back x1)
 | false =>
  simp only[Qd,if_false]at e ⊢;exact hb st1 σ H1 O1 Z _ E1 r st' e fun v H2 O2 x2 k2 E2 rv w2=>q v H2 O2 (x1.trans x2) (k1.trans k2) E2 rv (w2.back x1)
noncomputable def mq(b b':D->D->Option Rz)(fa fb fc:FE):FE:=fun st=>(fa st).bind fun x=>(fb x.2).bind fun y=>(cont y.2 x.1).bind fun d1=>(cont y.2 y.1).bind fun d2=>(b d1 d2).bind fun z=>match z with
 | (.bl true,false)=>(fc y.2).bind fun w=>(cont w.2 y.1).bind fun d2'=>(cont w.2 w.1).bind fun d3=>(b' d2' d3).bind fun z'=>some (mk z',w.2)
 | (.bl false,false)=>some (.d (.bl false),y.2)
 | _=>none
theorem sk{r r':R2}{b b':D->D->Option Rz}{ta tb tc:TE}{fa fb fc:FE}(hr:RdOp K r b)(hr':RdOp K r' b')(ha:RdE K ta fa)(hb:RdE K tb fb)(hc:RdE K tc fc):RdE K (rO r r' ta tb tc) (mq b b' fa fb fc):=by
 intro st σ H O Z Q E r0 st' h q;refine bsP h fun r1 st1 e1 h=>?_;refine bsP h fun r2 st2 e2 h=>?_;refine bsO h fun d1 e3 h=>?_;refine bsO h fun d2 e4 h=>?_;refine bsO h fun z e5 h=>?_;refine ha st σ H O Z _ E r1 st1 e1 fun v1 H1 O1 x1 k1 E1 rv1 w1=>?_;refine hb st1 σ H1 O1 Z _ E1 r2 st2 e2 fun v2 H2 O2 x2 k2 E2 rv2 w2=>?_;have b1:=(rv1.nf.ext x2 k2).ba E2 (by rw[dG];exact e3)
 refine hr (U O2 Z) H2 v1 v2 d1 d2 z _ E2.liv b1 (rv2.ba E2 e4) e5 fun v H3 s hres=>?_;obtain⟨dz,fr⟩:=z;cases dz with
 | bl c =>
  cases fr with
  | true=>cases c<;>cases h
  | false =>
   have ev:v=.bl c:=DA.ba (show DA K (U O2 Z) H3 v (.bl c) from hres);refine⟨c,ev,?_⟩;have E3:=E2.same s;have x3:Ext O2 H2 O2 H3:=Same.ext s;cases c with
   | false =>
    rw[if_neg (by decide)]
    cases h;exact q _ H3 O2 ((x1.trans x2).trans x3) (k1.trans k2) E3 (.bl false) True.intro
   | true =>
    rw[if_pos rfl];refine bsP h fun r3 st3 g1 h=>?_;refine bsO h fun d2' g2 h=>?_;refine bsO h fun d3 g3 h=>?_;refine bsO h fun z' g4 h=>?_;cases h;refine hc st2 σ H3 O2 Z _ E3 r3 st3 g1 fun v3 H4 O4 x4 k4 E4 rv4 w4=>?_;have b2:=(rv2.nf.ext (x3.trans x4) k4).ba E4 (by rw[dG];exact g2)
    refine hr' (U O4 Z) H4 v2 v3 d2' d3 z' _ E4.liv b2 (rv4.ba E4 g3) g4 fun w H5 s5 hres5=>?_;obtain⟨E5,rv5⟩:=hres5.rv E4 s5;exact q w H5 O4 ((((x1.trans x2).trans x3).trans x4).trans (Same.ext s5)) ((k1.trans k2).trans k4) E5 rv5 (hres5.fsh.back (((x1.trans x2).trans x3).trans x4))
 | _=>cases fr<;>cases h
noncomputable def ao:FA:=fun st=>some ([],st)
theorem ad:RdA K oF ao:=by
 intro st σ H O Z Q E rs st' e q;cases e;exact q [] H O (Ext.refl O H) (Kp.refl _) E .nil
noncomputable def ac(fa:FE)(fr:FA):FA:=fun st=>(fa st).bind fun x=>(fr x.2).bind fun y=>some (x.1::y.1,y.2)
theorem aa{ta:TE}{fa:FE}{tr:TA}{fr:FA}(ha:RdE K ta fa)(hr:RdA K tr fr):RdA K (fD ta tr) (ac fa fr):=by
 intro st σ H O Z Q E rs st' h q;refine bsP h fun r1 st1 e1 h=>?_;refine bsP h fun rs2 st2 e2 h=>?_;cases h;refine ha st σ H O Z _ E r1 st1 e1 fun v1 H1 O1 x1 k1 E1 rv1 w1=>?_;refine hr st1 σ H1 O1 Z _ E1 rs2 st2 e2 fun vs H2 O2 x2 k2 E2 rvs=>?_;exact q (v1::vs) H2 O2 (x1.trans x2) (k1.trans k2) E2 (.cons (rv1.nf.ext x2 k2) rvs)
theorem few{n:Nat}(h:n<=1000000):n<=sizeLine:=Wb h (by decide)
noncomputable def jU(fa:FA):FE:=fun st=>(fa st).bind fun x=>(cz x.1 x.2).bind fun y=>if y.1.length<=1000000 then some (.d (.tup y.1),y.2) else none
theorem gY{ta:TA}{fa:FA}(ha:RdA K ta fa):RdE K (yj ta) (jU fa):=by
 intro st σ H O Z Q E r st' h q;refine bsP h fun rs st1 e1 h=>?_;refine bsP h fun ds st2 e2 h=>?_;refine ha st σ H O Z _ E rs st1 e1 fun vs H1 O1 x1 k1 E1 rvs=>?_;obtain⟨O2,x2,k2,E2,el⟩:=rvs.esc E1 e2;obtain⟨hz,h⟩:=aC h;cases h;refine⟨by rw[el.1];exact few hz,fun p hp=>?_⟩
 obtain⟨E3,rv⟩:=E2.newT hp el;exact q _ _ O2 ((x1.trans x2).trans (Same.ext (aX hp _))) (k1.trans k2) E3 rv True.intro
noncomputable def bX(fa:FA):FE:=fun st=>(fa st).bind fun x=>(cz x.1 x.2).bind fun y=>if y.1.length<=1000000 then some (.f (.lst y.1),y.2) else none
theorem bj{ta:TA}{fa:FA}(ha:RdA K ta fa):RdE K (wy ta) (bX fa):=by
 intro st σ H O Z Q E r st' h q;refine bsP h fun rs st1 e1 h=>?_;refine bsP h fun ds st2 e2 h=>?_;refine ha st σ H O Z _ E rs st1 e1 fun vs H1 O1 x1 k1 E1 rvs=>?_;obtain⟨O2,x2,k2,E2,el⟩:=rvs.esc E1 e2;obtain⟨hz,h⟩:=aC h;cases h;refine⟨by rw[el.1];exact few hz,fun p hp=>?_⟩
 obtain⟨E3,rv⟩:=E2.new hp el;exact q _ _ O2 ((x1.trans x2).trans (Same.ext (aX hp _))) (k1.trans k2) E3 rv fun p' e=>by cases e;exact(x1.trans x2).dead hp
noncomputable def fCB(b:List D->Option Rz)(fa:FA):FE:=fun st=>(fa st).bind fun x=>(cf x.2 x.1).bind fun ds=>(b ds).bind fun z=>some (mk z,x.2)
theorem be{r:List V->Hp->VK->Prop}{b:List D->Option Rz}{ta:TA}{fa:FA}(hr:RdCB K r b)(ha:RdA K ta fa):RdE K (tCB r ta) (fCB b fa):=by
 intro st σ H O Z Q E r0 st' h q;refine bsP h fun rs st1 e1 h=>?_;refine bsO h fun ds e2 h=>?_;refine bsO h fun z e3 h=>?_;cases h;refine ha st σ H O Z _ E rs st1 e1 fun vs H1 O1 x1 k1 E1 rvs=>?_;refine hr (U O1 Z) H1 vs ds z _ E1.liv (rvs.bas E1 e2) e3 fun v H3 s hres=>?_;obtain⟨E3,rv3⟩:=hres.rv E1 s;exact q v H3 O1 (x1.trans (Same.ext s)) k1 E3 rv3 (hres.fsh.back x1)
end
end VF
namespace VF
open PySem L2
noncomputable def D.isSc:D->Bool
 | .non=>true
 | .bl _=>true
 | .int _=>true
 | .str _=>true
 | .ty _=>true
 | _=>false
noncomputable def spV(K:PySem.W.Frag)(g:List D->Option Rz):Sp:=fun vs H Q _=>∃(Z:AS)(ds:List D)(z:Rz),El K Z H vs ds/\(∀p,Z p->Lv H p)/\g ds=some z/\∀v H',Same H H'->RES K Z H H' v z->Q v H'
noncomputable def zy(K:PySem.W.Frag)(Y:AS)(f:Addr)(x':D)(H H':Hp)(v:V):Rz->Prop
 | (d,true)=>∃p,v=.ref p/\H p=none/\OA K (ins p Y) H' p d/\OA K (ins p Y) H' f x'
 | (d,false)=>DA K Y H' v d/\OA K Y H' f x'
noncomputable def fP(K:PySem.W.Frag)(g:D->List D->Option (Rz×D)):Sp:=fun vs H Q _=>∃(f:Addr)(ws:List V)(Z:AS)(x:D)(ds:List D)(z:Rz)(x':D),vs=.ref f::ws/\¬ Z f/\OA K (ins f Z) H f x/\El K (ins f Z) H ws ds/\(∀p,Z p->Lv H p)/\g x ds=some (z,x') /\
 ∀v H',(∀b o,H b=some o->b≠f->H' b=some o)->zy K (ins f Z) f x' H H' v z->Q v H'
section
variable {K:PySem.W.Frag}{Y Y' O O' O1 O2 Z:AS}{H H' H1 H2:Hp}{v:V}{d:D}{vs:List V}{ds:List D}{a p:Addr}{st st' st1 st2:En}{σ σ':St}
noncomputable def b8(g:List D->Option Rz)(fa:FA):FE:=fun st=>(fa st).bind fun x=>(cz x.1 x.2).bind fun y=>(g y.1).bind fun z=>some (mk z,y.2)
theorem bK{g:List D->Option Rz}{ta:TA}{fa:FA}(ha:RdA K ta fa):RdE K (qU (spV K g) ta) (b8 g fa):=by
 intro st σ H O Z Q E r0 st' h q;refine bsP h fun rs st1 e1 h=>?_;refine bsP h fun ds st2 e2 h=>?_;refine bsO h fun z e3 h=>?_;cases h;refine ha st σ H O Z _ E rs st1 e1 fun vs H1 O1 x1 k1 E1 rvs=>?_;obtain⟨O2,x2,k2,E2,el⟩:=rvs.esc E1 e2;refine⟨U O2 Z,ds,z,el,E2.liv,e3,fun v H3 s hres=>?_⟩;obtain⟨E3,rv3⟩:=hres.rv E2 s;exact q v H3 O2 ((x1.trans x2).trans (Same.ext s)) (k1.trans k2) E3 rv3 (hres.fsh.back (x1.trans x2))
theorem RVal.da0{r:Rs}(h:RVal K Z st σ H O v r)(E:ER K st σ H O Z)(c:cont st r=some d):DA K (fun _=>False) H v d:=by
 cases r with
 | d x=>cases c;exact DA.less (show DA K (U O Z) H v d from h) fun b z=>z.elim
 | f x=>cases c;exact DA.less (show DA K (U O Z) H v d from RVal.nf h) fun b z=>z.elim
 | s i =>
  obtain⟨h1,s,h2,h3⟩:=h;have c':(st[i]?).bind Sl.get=some d:=c;rw[h2]at c';cases s with
  | e=>cases c'
  | v x =>
   cases c';obtain⟨u,g1,g2⟩:=E.val i _ h2;rw[h1]at g1;cases g1;exact g2.less fun b z=>z.elim
  | o x =>
   cases c';obtain⟨p,g1,g2,g3⟩:=E.own i _ _ h2 rfl;rw[h1]at g1;cases g1;exact g3.da (fun z=>z) fun b z=>z.elim
  | io x =>
   cases c';obtain⟨p,g1,g2,g3⟩:=E.own i _ _ h2 rfl;rw[h1]at g1;cases g1;exact g3.da (fun z=>z) fun b z=>z.elim
theorem RVs.el0{rs:List Rs}(h:RVs K Z st σ H O vs rs)(E:ER K st σ H O Z):∀{ds:List D},cf st rs=some ds->El K (fun _=>False) H vs ds:=by
 induction h with
 | nil=>intro ds e;cases e;exact El.nil
 | @cons v vs r rs h1 _ ih =>
  intro ds e;refine bsO e fun d e1 e=>?_;refine bsO e fun ds' e2 e=>?_;cases e;exact El.cons (h1.da0 E (by rw[dG];exact e1)) (ih e2)
theorem DA.sc(h:DA K Y H v d)(s:d.isSc=true):DA K Y' H' v d:=by
 cases h with
 | non=>exact .non
 | bl b=>exact .bl b
 | int i=>exact .int i
 | str x=>exact .str x
 | ty n=>exact .ty n
 | _=>cases s
noncomputable def bm(g:List D->Option Rz)(fa:FA):FE:=fun st=>(fa st).bind fun x=>(cf x.2 x.1).bind fun ds=>(g ds).bind fun z=>if (z.1.isSc&&!z.2)=true then some (.d z.1,x.2) else none
theorem aV{g:List D->Option Rz}{ta:TA}{fa:FA}(ha:RdA K ta fa):RdE K (qU (spV K g) ta) (bm g fa):=by
 intro st σ H O Z Q E r0 st' h q;refine bsP h fun rs st1 e1 h=>?_;refine bsO h fun ds e2 h=>?_;refine bsP h fun dz fr e3 h=>?_;obtain⟨hc,h⟩:=aC h;cases h;have h1:dz.isSc=true/\fr=false:=by simpa using hc
 obtain⟨h1,rfl⟩:=h1;refine ha st σ H O Z _ E rs _ e1 fun vs H1 O1 x1 k1 E1 rvs=>?_;refine⟨fun _=>False,ds,(dz,false),rvs.el0 E1 e2,fun p z=>z.elim,e3,fun v H3 s hres=>?_⟩;exact q v H3 O1 (x1.trans (Same.ext s)) k1 (E1.same s) (DA.sc (show DA K (fun _=>False) H3 v dz from hres) h1) True.intro
theorem jh{i:Nat}{s:Sl}{g:D->List D->Option (Rz×D)}{x x':D}{z:Rz}{Q:VK}{ws:List V}{XE:XK}(E:ER K st σ H O Z)(hs:st[i]?=some s)(hx:s.ow=some x)(hv:σ[i]?=some (some v))(el:El K (U O Z) H ws ds)(hg:g x ds=some (z,x'))
  (q:∀v H' O',Ext O H O' H'->Kp st (st.set i (s.put x'))->ER K (st.set i (s.put x')) σ H' O' Z->RVal K Z (st.set i (s.put x')) σ H' O' v (mk z)->Fsh H v (mk z)->Q v H'):fP K g (v::ws) H Q XE:=by
 obtain⟨p,g1,g2,g3⟩:=E.own i s x hs hx;have ev:v=.ref p:=by rw[hv]at g1;cases g1;rfl
 subst ev;have a1:∀b,ins p (fun b=>U O Z b/\b≠p) b->U O Z b:=fun b z=>z.elim (fun q=>by rw[q];exact .inl g2) fun q=>q.1
 have a2:∀b,U O Z b->ins p (fun b=>U O Z b/\b≠p) b:=fun b z=>by
  by_cases e:b=p
  ·exact .inl e
  ·exact .inr ⟨z,e⟩
 refine⟨p,ws,fun b=>U O Z b/\b≠p,x,ds,z,x',rfl,fun z=>z.2 rfl,g3.go rfl (fun _ _ e _=>e) (fun b z=>.inl (a1 b z)),el.less a1,fun b z=>E.liv b z.1,hg,fun u H' kp hres=>?_⟩;have ho:OA K (ins p fun b=>U O Z b/\b≠p) H' p x':=by
  obtain⟨dz,fr⟩:=z;cases fr with
  | false=>exact hres.2
  | true=>obtain⟨r,_,_,_,h⟩:=hres;exact h.go rfl (fun _ _ e _=>e) fun b z=>.inl (.inr z)
 have kp':∀b o,H b=some o->¬ U O Z b->H' b=some o:=fun b o e n=>kp b o e fun z=>n (by rw[z];exact .inl g2)
 have al:∀b,H b≠none->H' b≠none:=fun b hb=>by
  by_cases e:b=p
  ·rw[e];exact ho.live
  ·cases eb:H b with
   | none=>exact absurd eb hb
   | some o=>rw[kp b o eb e];simp
 have al':∀b,Lv H b->Lv H' b:=fun b hb=>by
  by_cases e:b=p
  ·rw[e];exact ho.lv
  ·exact hb.same fun o eb=>kp b o eb e
 have ex:Ext O H O H':=⟨fun b o e n=>kp b o e fun z=>n (by rw[z];exact g2),fun b z=>.inl z,al,al'⟩
 have ho':OA K (U O Z) H' p x':=ho.go rfl (fun _ _ e _=>e) fun b z=>.inl (a2 b z);have mkE:∀(O2:AS),(∀b,O b->O2 b)->(∀b,O2 b->O b∨H b=none)->(∀b,O2 b->¬ Z b)->(∀b,O2 b->Lv H' b)->OA K (U O2 Z) H' p x'->ER K (st.set i (s.put x')) σ H' O2 Z:=fun O2 up dn ds lv ho2=>by
  have nn:∀b,U O2 Z b->U O Z b∨H b=none:=fun b z=>z.elim (fun y=>(dn b y).elim (fun w=>.inl (.inl w)) .inr) fun y=>.inl (.inr y);refine⟨by simp[E.len],fun j d hj=>?_,fun j t d hj ht=>?_,fun j k t t' d d' r hj ht hk ht' e1 e2=>?_,ds,fun r hr=>hr.elim (lv r) fun y=>al' r (E.liv r (.inr y))⟩
  ·by_cases e:i=j
   ·subst e;rw[aK hs]at hj;exact absurd (Option.some.inj hj) (Sl.put_v _ _ _)
   ·rw[av e]at hj;obtain⟨v,h1,h2⟩:=E.val j d hj;exact⟨v,h1,h2.go kp' nn⟩
  ·by_cases e:i=j
   ·subst e;rw[aK hs]at hj;have:=Option.some.inj hj;subst this;rw[Sl.put_ow]at ht;cases ht;exact⟨p,g1,up p g2,ho2⟩
   ·rw[av e]at hj;obtain⟨r,h1,h2,h3⟩:=E.own j t d hj ht;have hne:r≠p:=fun z=>by subst z;exact e (E.uni i j s t x d r hs hx hj ht g1 h1)
    refine⟨r,h1,up r h2,h3.go ?_ kp' nn⟩;cases er:H r with
    | none=>exact absurd er h3.live
    | some o=>exact kp r o er hne
  ·have own':∀(m:Nat)(t:Sl)(d:D),(st.set i (s.put x'))[m]?=some t->t.ow=some d->∃t2 d2,st[m]?=some t2/\t2.ow=some d2:=fun m t d hm ht=>by
    by_cases e:i=m
    ·subst e;exact⟨s,x,hs,hx⟩
    ·rw[av e]at hm;exact⟨t,d,hm,ht⟩
   obtain⟨t1,d1,a1,b1⟩:=own' j t d hj ht;obtain⟨t2,d2,a2,b2⟩:=own' k t' d' hk ht';exact E.uni j k t1 t2 d1 d2 r a1 b1 a2 b2 e1 e2
 have kk:Kp st (st.set i (s.put x')):=by
  refine⟨by simp,fun j t hj ht=>?_,fun j d hj=>?_⟩
  ·by_cases e:i=j
   ·subst e;exact⟨s.put x',aK hs,by cases s<;>simp[Sl.put,Sl.get]⟩
   ·exact⟨t,by rw[av e];exact hj,ht⟩
  ·by_cases e:i=j
   ·subst e;rw[hs]at hj;cases hj;exact⟨x',aK hs⟩
   ·exact⟨d,by rw[av e];exact hj⟩
 have E':=mkE O (fun _ z=>z) (fun _ z=>.inl z) E.dis (fun b z=>al' b (E.liv b (.inl z))) ho';refine q u H' O ex kk E' ?_ ?_
 rotate_left
 ·obtain⟨dz,fr⟩:=z;cases fr with
  | false=>trivial
  | true=>obtain⟨r,rfl,hr,_⟩:=hres;exact fun q e=>by cases e;exact hr
 obtain⟨dz,fr⟩:=z;cases fr with
 | false=>exact DA.less (show DA K _ H' u dz from hres.1) a2
 | true =>
  obtain⟨r,rfl,hr,hor,hof⟩:=hres;have hf:=E.free hr;have a3:∀b,ins r (U O Z) b->ins r (ins p fun b=>U O Z b/\b≠p) b:=fun b z=>z.elim .inl fun y=>.inr (a2 b y);refine⟨r,rfl,hf.1,hf.2,hor.go rfl (fun _ _ e _=>e) (fun b z=>.inl (a3 b z)),mkE (ins r O) (fun _ z=>.inr z) (fun b z=>z.elim (fun y=>.inr (by rw[y];exact hr)) .inl) (fun b z=>z.elim (fun y=>by rw[y];exact hf.2) (E.dis b)) (fun b z=>z.elim (fun y=>by rw[y];exact hor.lv) fun y=>al' b (E.liv b (.inl y))) ?_⟩
  exact hof.go rfl (fun _ _ e _=>e) fun b z=>.inl (a3 b (z.elim (fun y=>y.elim .inl fun w=>.inr (.inl w)) fun y=>.inr (.inr y)))
noncomputable def fIO(g:D->List D->Option (Rz×D))(i:Nat)(fr:FA):FE:=fun st=>(st[i]?).bind fun s0=>(s0.ow).bind fun _=>(fr st).bind fun x=>(cz x.1 x.2).bind fun y=>(y.2[i]?).bind fun s=>(s.ow).bind fun d=>(g d y.1).bind fun z=>some (mk z.1,y.2.set i (s.put z.2))
theorem bw{g:D->List D->Option (Rz×D)}{i:Nat}{tr:TA}{fr:FA}(hr:RdA K tr fr):RdE K (qU (fP K g) (fD (oA i) tr)) (fIO g i fr):=by
 intro st σ H O Z Q E r0 st' h q;refine bsO h fun s0 f1 h=>?_;refine bsO h fun x0 f2 h=>?_;refine bsP h fun rs st1 e1 h=>?_;refine bsP h fun ds st2 e2 h=>?_;refine bsO h fun s e3 h=>?_;refine bsO h fun x e4 h=>?_;refine bsP h fun z x' e5 h=>?_;cases h;obtain⟨p,g1,_,_⟩:=E.own i s0 x0 f1 f2;refine⟨.ref p,g1,?_⟩;refine hr st σ H O Z _ E rs st1 e1 fun vs H1 O1 x1 k1 E1 rvs=>?_;obtain⟨O2,x2,k2,E2,el⟩:=rvs.esc E1 e2;exact jh E2 e3 e4 g1 el e5 fun v H' O' ex kk E' rv w=>q v H' O' ((x1.trans x2).trans ex) ((k1.trans k2).trans kk) E' rv (w.back (x1.trans x2))
end
end VF
namespace VF
open PySem L2
structure Kq(st:En)(σ:St)(st':En)(σ':St):Prop where
 len:st'.length=st.length
 io:∀(i:Nat) d,st[i]?=some (.io d)->σ'[i]?=σ[i]?/\∃d',st'[i]?=some (.io d')
theorem Kq.refl(st:En)(σ:St):Kq st σ st σ:=⟨rfl,fun i d h=>⟨rfl,d,h⟩⟩
theorem Kq.trans{a b c:En}{x y z:St}(h:Kq a x b y)(g:Kq b y c z):Kq a x c z:=by
 refine⟨g.len.trans h.len,fun i d e=>?_⟩;obtain⟨e1,d1,e2⟩:=h.io i d e;obtain⟨e3,d2,e4⟩:=g.io i d1 e2;exact⟨e3.trans e1,d2,e4⟩
theorem Kp.kq{st st':En}{σ:St}(k:Kp st st'):Kq st σ st' σ:=⟨k.len,fun i d h=>⟨rfl,k.io i d h⟩⟩
noncomputable abbrev FG:=D->En->Option En
noncomputable def RdG(K:PySem.W.Frag)(g:TG)(fg:FG)(tg:List Nat):Prop:=∀(st:En)(σ:St)(H:Hp)(O Z:AS)(x:V)(d:D)(Q:St->Hp->Prop),ER K st σ H O Z->DA K (U O Z) H x d->∀st',fg d st=some st' ->
 (∀σ',(∀j,j∉tg->σ'[j]?=σ[j]?/\st'[j]?=st[j]?)->Kq st σ st' σ'->ER K st' σ' H O Z->Q σ' H)->g x σ H Q
noncomputable def Sl.isIo:Sl->Bool
 | .io _=>true
 | _=>false
noncomputable def iX(i:Nat)(s:Sl)(st:En):Option En:=(st[i]?).bind fun t=>if t.isIo=true then none else some (st.set i s)
section
variable {K:PySem.W.Frag}{Y Y' O O' O1 O2 Z:AS}{H H' H1 H2:Hp}{v:V}{d:D}{vs:List V}{ds:List D}{a p:Addr}{st st' st1 st2:En}{σ σ':St}
theorem jH{i:Nat}{s:Sl}(h:iX i s st=some st'):∃t,st[i]?=some t/\t.isIo=false/\st'=st.set i s:=by
 refine bsO h fun t e h=>?_;by_cases c:t.isIo=true
 ·simp only[if_pos c]at h;cases h
 ·simp only[if_neg c]at h;cases h;exact⟨t,e,by simpa using c,rfl⟩
theorem mr{i:Nat}{s t:Sl}{w:Option V}(e:st[i]?=some t)(n:t.isIo=false):Kq st σ (st.set i s) (σ.set i w):=by
 refine⟨by simp,fun j d h=>?_⟩
 have q:i≠j:=fun z=>by subst z;rw[e]at h;cases h;cases n
 exact⟨av q,d,by rw[av q];exact h⟩
theorem ER.asg{i:Nat}{t:Sl}(E:ER K st σ H O Z)(e:st[i]?=some t)(h:DA K (U O Z) H v d):ER K (st.set i (.v d)) (σ.set i (some v)) H O Z:=by
 have hi:i<σ.length:=by rw[← E.len];exact(Qc.mp e).1
 have sg:(σ.set i (some v))[i]?=some (some v):=by rw[Xh,if_pos rfl,if_pos hi]
 have ne:∀(j:Nat) s x,(st.set i (.v d))[j]?=some s->s.ow=some x->i≠j/\st[j]?=some s:=fun j s x h1 h2=>by
  by_cases q:i=j
  ·subst q;rw[aK e]at h1;cases h1;cases h2
  ·exact⟨q,by rw[av q]at h1;exact h1⟩
 refine⟨by simp[E.len],fun j x hj=>?_,fun j s x h1 h2=>?_,fun j k s s' x x' r h1 h2 h3 h4 h5 h6=>?_,E.dis,E.liv⟩
 ·by_cases q:i=j
  ·subst q;rw[aK e]at hj;cases hj;exact⟨v,sg,h⟩
  ·rw[av q]at hj;obtain⟨w,g1,g2⟩:=E.val j x hj;exact⟨w,by rw[av q];exact g1,g2⟩
 ·obtain⟨q,h1⟩:=ne j s x h1 h2;obtain⟨r,g1,g2⟩:=E.own j s x h1 h2;exact⟨r,by rw[av q];exact g1,g2⟩
 ·obtain⟨q1,h1⟩:=ne j s x h1 h2;obtain⟨q2,h3⟩:=ne k s' x' h3 h4;rw[av q1]at h5;rw[av q2]at h6;exact E.uni j k s s' x x' r h1 h2 h3 h4 h5 h6
theorem ER.asgF{i:Nat}{t:Sl}{x:D}(E0:ER K st σ H O Z)(E:ER K st σ H (ins p O) Z)(np:¬ O p)(e:st[i]?=some t)(h:OA K (ins p (U O Z)) H p x):ER K (st.set i (.o x)) (σ.set i (some (.ref p))) H (ins p O) Z:=by
 have hi:i<σ.length:=by rw[← E.len];exact(Qc.mp e).1
 have sg:(σ.set i (some (V.ref p)))[i]?=some (some (.ref p)):=by rw[Xh,if_pos rfl,if_pos hi]
 have fresh:∀(j:Nat) s y,st[j]?=some s->s.ow=some y->σ[j]?≠some (some (.ref p)):=fun j s y h1 h2 z=>by
  obtain⟨r,g1,g2,_⟩:=E0.own j s y h1 h2;rw[z]at g1;cases g1;exact np g2
 refine⟨by simp[E.len],fun j y hj=>?_,fun j s y h1 h2=>?_,fun j k s s' y y' r h1 h2 h3 h4 h5 h6=>?_,E.dis,E.liv⟩
 ·by_cases q:i=j
  ·subst q;rw[aK e]at hj;cases hj
  ·rw[av q]at hj;obtain⟨w,g1,g2⟩:=E.val j y hj;exact⟨w,by rw[av q];exact g1,g2⟩
 ·by_cases q:i=j
  ·subst q;rw[aK e]at h1;cases h1;cases h2;refine⟨p,sg,.inl rfl,h.go rfl (fun _ _ e _=>e) fun b z=>.inl ?_⟩;rcases z with(z|z)|z
   ·exact .inl z
   ·exact .inr (.inl z)
   ·exact .inr (.inr z)
  ·rw[av q]at h1;obtain⟨r,g1,g2⟩:=E.own j s y h1 h2;exact⟨r,by rw[av q];exact g1,g2⟩
 ·by_cases q1:i=j
  ·by_cases q2:i=k
   ·exact q1.symm.trans q2
   ·subst q1;rw[av q2]at h3 h6;rw[sg]at h5;cases h5;exact absurd h6 (fresh k s' y' h3 h4)
  ·by_cases q2:i=k
   ·subst q2;rw[av q1]at h1 h5;rw[sg]at h6;cases h6;exact absurd h5 (fresh j s y h1 h2)
   ·rw[av q1]at h1 h5;rw[av q2]at h3 h6;exact E.uni j k s s' y y' r h1 h2 h3 h4 h5 h6
noncomputable def gN(i:Nat):FG:=fun d st=>iX i (.v d) st
theorem bB(i:Nat):RdG K (nq i) (gN i) [i]:=by
 intro st σ H O Z x d Q E da st' h q;obtain⟨t,e,n,rfl⟩:=jH h;refine q (σ.set i (some x)) (fun j hj=>?_) (mr e n) (E.asg e da);have q:i≠j:=fun z=>hj (by rw[z];simp)
 exact⟨av q,av q⟩
noncomputable def uH(K:PySem.W.Frag)(g:TGs)(fg:List D->En->Option En)(tg:List Nat):Prop:=∀(st:En)(σ:St)(H:Hp)(O Z:AS)(xs:List V)(ds:List D)(Q:St->Hp->Prop),ER K st σ H O Z->El K (U O Z) H xs ds->∀st',fg ds st=some st' ->
 (∀σ',(∀j,j∉tg->σ'[j]?=σ[j]?/\st'[j]?=st[j]?)->Kq st σ st' σ'->ER K st' σ' H O Z->Q σ' H)->g xs σ H Q
noncomputable def gsN:List D->En->Option En:=fun ds st=>match ds with
 | []=>some st
 | _=>none
theorem uI:uH K yd gsN []:=by
 intro st σ H O Z xs ds Q E el st' h q;cases ds with
 | nil =>
  cases h;exact⟨el.unnil,q σ (fun j _=>⟨rfl,rfl⟩) (Kq.refl _ _) E⟩
 | cons d ds=>cases h
noncomputable def gsC(fg:FG)(fgs:List D->En->Option En):List D->En->Option En:=fun ds st=>match ds with
 | d::r=>(fg d st).bind fun st1=>fgs r st1
 | []=>none
theorem nJ{g:TG}{gs:TGs}{fg:FG}{fgs:List D->En->Option En}{t1 t2:List Nat}(h1:RdG K g fg t1)(h2:uH K gs fgs t2):uH K (vx g gs) (gsC fg fgs) (t1++t2):=by
 intro st σ H O Z xs ds Q E el st' h q;cases ds with
 | nil=>cases h
 | cons d ds =>
  refine bsO h fun st1 e1 h=>?_;obtain⟨v,r,rfl,da,el⟩:=el.uncons;refine⟨v,r,rfl,h1 st σ H O Z v d _ E da st1 e1 fun σ1 k1 q1 E1=>?_⟩;refine h2 st1 σ1 H O Z r ds _ E1 el st' h fun σ2 k2 q2 E2=>q σ2 (fun j hj=>?_) (q1.trans q2) E2;have a:=k1 j fun z=>hj (List.mem_append_left _ z);have b:=k2 j fun z=>hj (Ze _ z);exact⟨b.1.trans a.1,b.2.trans a.2⟩
noncomputable def gT(n:Nat)(fgs:List D->En->Option En):FG:=fun d st=>match d with
 | .tup ds=>if ds.length=n then fgs ds st else none
 | _=>none
theorem wW{n:Nat}{gs:TGs}{fgs:List D->En->Option En}{t:List Nat}(h:uH K gs fgs t):RdG K (wn K n gs) (gT n fgs) t:=by
 intro st σ H O Z x d Q E da st' e q;cases d with
 | tup ds =>
  obtain⟨hn,e⟩:=aC e;cases da with
  | tup h1 h2 h3=>exact⟨_,_,rfl,h1.sq,h2.trans hn,h st σ H O Z _ ds Q E ⟨h2,h3⟩ st' e q⟩
 | _=>cases e
noncomputable abbrev FI:=En->Option (List D×En)
noncomputable def yr(K:PySem.W.Frag)(Z:AS)(J:It)(items:List D)(H:Hp)(O:AS):Prop:=∀H' O',Ext O H O' H'->(∀p,U O' Z p->Lv H' p)->(∀i,items.length<=i->J.stop i H')/\∀(i:Nat) d,items[i]?=some d->J.go i H'/\∀x H'',J.yld i H' x H''->Same H' H''/\DA K (U O' Z) H'' x d
noncomputable def RdI(K:PySem.W.Frag)(wi:TI)(fi:FI):Prop:=∀(st:En)(σ:St)(H:Hp)(O Z:AS)(R:It->Hp->Prop),ER K st σ H O Z->∀items st',fi st=some (items,st') ->
 (∀J H' O',Ext O H O' H'->Kp st st'->ER K st' σ H' O' Z->yr K Z J items H' O'->R J H')->wi σ H R
noncomputable def esc(r:Rs)(st:En):Option (D×En):=(cont st r).bind fun d=>(si st r).bind fun st1=>some (d,st1)
theorem RVal.esc{r:Rs}(h:RVal K Z st σ H O v r)(E:ER K st σ H O Z)(e:esc r st=some (d,st')):∃O',Ext O H O' H/\Kp st st'/\ER K st' σ H O' Z/\DA K (U O' Z) H v d:=by
 refine bsO e fun x e1 e=>?_;refine bsO e fun s1 e2 e=>?_;cases e;exact h.frz E e2 e1
noncomputable def D.its:D->Option (List D)
 | .lst ds=>some ds
 | .fl ds=>some ds
 | _=>none
noncomputable def D.itt:D->Option (List D)
 | .tup ds=>some ds
 | _=>none
noncomputable def fIL(fe:FE):FI:=fun st=>(fe st).bind fun x=>(esc x.1 x.2).bind fun y=>(y.1.its).bind fun ds=>some (ds,y.2)
theorem uJ{te:TE}{fe:FE}(h:RdE K te fe):RdI K (pJ K te) (fIL fe):=by
 intro st σ H O Z R E items st' e q;refine bsP e fun r st1 e1 e=>?_;refine bsP e fun d st2 e2 e=>?_;refine bsO e fun ds e3 e=>?_;cases e;refine h st σ H O Z _ E r st1 e1 fun v H1 O1 x1 k1 E1 rv w1=>?_;obtain⟨O2,x2,k2,E2,da⟩:=rv.esc E1 e2;have fin:∀{a:Addr}{vs:List V},El K (U O2 Z) H1 vs items->(∀H' O',Ext O2 H1 O' H'->SqL K H' a vs)->pJ K (fun _ H Q=>Q (.ref a) H) σ H1 R:=fun {a vs} el sq=>by
  refine⟨a,rfl,⟨vs,sq H1 O2 (Ext.refl _ _)⟩,q _ H1 O2 (x1.trans x2) (k1.trans k2) E2 fun H' O' ex _=>?_⟩;have g1:=sq H' O' ex;have el':=el.ext ex;have hl:=el.1;refine⟨fun i hi=>⟨vs,g1,by lia⟩,fun i d hd=>?_⟩
  obtain⟨v,hv,hdv⟩:=el'.at hd;refine⟨⟨vs,v,g1,hv⟩,fun x H'' hx=>?_⟩;obtain⟨rfl,hx⟩:=hx;have:=hx vs g1;rw[hv]at this;cases this;exact⟨Same.refl _,hdv⟩
 cases d with
 | lst ds' =>
  cases e3;cases da with
  | @lst a vs _ h0 h1 h2 h3=>exact fin ⟨h2,h3⟩ fun H' O' ex=>.inl (.inl (ex.kp a _ h1 fun z=>h0 (.inl z)))
 | fl ds' =>
  cases e3;cases da with
  | @fl a vs _ h1 h2 h3 =>
   refine fin ⟨h2,h3⟩ fun H' O' ex=>?_;rcases h1 with⟨h1,hn⟩|h1
   ·exact .inl (Rd.keep h1 fun o e=>ex.kp a o e fun z=>hn (.inl z))
   ·exact h1 H'
 | _=>cases e3
noncomputable def fIT(fe:FE):FI:=fun st=>(fe st).bind fun x=>(esc x.1 x.2).bind fun y=>(y.1.itt).bind fun ds=>some (ds,y.2)
theorem wX{te:TE}{fe:FE}(h:RdE K te fe):RdI K (wq K te) (fIT fe):=by
 intro st σ H O Z R E items st' e q;refine bsP e fun r st1 e1 e=>?_;refine bsP e fun d st2 e2 e=>?_;refine bsO e fun ds e3 e=>?_;cases e;refine h st σ H O Z _ E r st1 e1 fun v H1 O1 x1 k1 E1 rv w1=>?_;obtain⟨O2,x2,k2,E2,da⟩:=rv.esc E1 e2;cases d with
 | tup ds' =>
  cases e3;cases da with
  | @tup a vs _ h1 h2 h3 =>
   refine⟨a,rfl,⟨vs,h1.sq⟩,q _ H1 O2 (x1.trans x2) (k1.trans k2) E2 fun H' O' ex _=>?_⟩;have da':=(DA.tup h1 h2 h3).ext ex;cases da' with
   | @tup _ ws _ g1 g2 g3 =>
    refine⟨fun i hi=>⟨ws,g1.sq,by lia⟩,fun i d hd=>?_⟩
    obtain⟨v,hv,hdv⟩:=El.at ⟨g2,g3⟩ hd;refine⟨⟨ws,v,g1.sq,hv⟩,fun x H'' hx=>?_⟩;obtain⟨rfl,hx⟩:=hx;have:=hx ws g1.sq;rw[hv]at this;cases this;exact⟨Same.refl _,hdv⟩
 | _=>cases e3
noncomputable def rng(lo:Int)(n:Nat):List D:=(List.range n).map fun(i:Nat)=>D.int (lo+(i:Int))
theorem so{lo:Int}{n i:Nat}{d:D}(h:(rng lo n)[i]?=some d):i<n/\d=.int (lo+i):=by
 unfold rng at h;rw[Vd]at h;by_cases hi:i<n
 ·rw[List.getElem?_range hi]at h;exact⟨hi,(Option.some.inj h).symm⟩
 ·rw[List.getElem?_eq_none (by simpa using hi)]at h;cases h
theorem dH(lo:Int)(n:Nat):(rng lo n).length=n:=by simp[rng]
theorem sr{lo:Int}{n:Nat}:yr K Z (Itr lo n) (rng lo n) H O:=fun H' O' ex _=>by
 refine⟨fun i hi=>by rw[dH]at hi;exact hi,fun i d hd=>?_⟩
 obtain⟨h1,rfl⟩:=so hd;refine⟨h1,fun x H'' hx=>?_⟩;obtain⟨rfl,rfl⟩:=hx;exact⟨Same.refl _,.int _⟩
noncomputable def wY:List D->Option Int
 | [.int j]=>some j
 | _=>none
noncomputable def oM(fa:FA):FI:=fun st=>(fa st).bind fun x=>(cf x.2 x.1).bind fun ds=>(wY ds).bind fun j=>if -(2 ^ 62)<=j/\j<2 ^ 62 then some (rng 0 j.toNat,x.2) else none
theorem mt{ta:TA}{fa:FA}(h:RdA K ta fa):RdI K (vy ta) (oM fa):=by
 intro st σ H O Z R E items st' e q;refine bsP e fun rs st1 e1 e=>?_;refine bsO e fun ds e2 e=>?_;refine bsO e fun j e3 e=>?_;obtain⟨hc,e⟩:=aC e;cases e;refine h st σ H O Z _ E rs _ e1 fun vs H1 O1 x1 k1 E1 rvs=>?_;have bs:=rvs.bas E1 e2;have ed:ds=[.int j]:=by
  unfold wY at e3;split at e3
  ·cases e3;rfl
  ·cases e3
 subst ed;cases bs with
 | cons b1 b2 =>
  cases b2;obtain rfl:=(show _=V.int j from b1);exact⟨j,rfl,hc.1,hc.2,q _ H1 O1 x1 k1 E1 sr⟩
noncomputable def jV(x:Str):List D:=x.cps.toList.map fun c=>D.str ⟨#[c]⟩
noncomputable def fIS(fe:FE):FI:=fun st=>(fe st).bind fun x=>match cont x.2 x.1 with
 | some (.str z)=>some (jV z,x.2)
 | _=>none
set_option tactic.hygienic true in
theorem wZ{te:TE}{fe:FE}(h:RdE K te fe):RdI K (wQ te) (fIS fe):=by
 intro st σ H O Z R E items st' e q;refine bsP e fun r st1 e1 e=>?_;refine h st σ H O Z _ E r st1 e1 fun v H1 O1 x1 k1 E1 rv w1=>?_;dsimp only at e;split at e
 ·rename_i z ez
  cases e;have ev:v=.str z:=rv.ba E1 ez;refine⟨z,ev,q _ H1 O1 x1 k1 E1 fun H' O' ex _=>⟨fun i hi=>?_,fun i d hd=>?_⟩⟩
  ·show z.cps.size<=i;simpa[jV]using hi
  ·unfold jV at hd;rw[Vd]at hd;obtain⟨c,hc,rfl⟩:=Zg.mp hd;have hc':z.cps[i]?=some c:=by simpa using hc
   refine⟨(Array.getElem?_eq_some_iff.mp hc').1,fun x H'' hx=>?_⟩;obtain⟨rfl,c',h1,rfl⟩:=hx;rw[hc']at h1;cases h1;exact⟨Same.refl _,.str _⟩
 ·cases e
inductive Ot where
 | nx (st:En)|rt (r:Rs) (st:En)|bk (st:En)|ct (st:En)
noncomputable abbrev FS:=En->Option Ot
noncomputable def Out(K:PySem.W.Frag)(Z O:AS)(H:Hp)(st:En)(σ:St)(Dn:Ends):Ot->Prop
 | .nx st'=>∀σ' H' O',Ext O H O' H'->Kq st σ st' σ'->ER K st' σ' H' O' Z->Dn.nx σ' H'
 | .rt r st'=>∀v σ' H' O',Ext O H O' H'->Kq st σ st' σ'->ER K st' σ' H' O' Z->RVal K Z st' σ' H' O' v r->Fsh H v r->Dn.rt v H'
 | .bk st'=>∀σ' H' O',Ext O H O' H'->Kq st σ st' σ'->ER K st' σ' H' O' Z->Dn.bk σ' H'
 | .ct st'=>∀σ' H' O',Ext O H O' H'->Kq st σ st' σ'->ER K st' σ' H' O' Z->Dn.ct σ' H'
noncomputable def RdS(K:PySem.W.Frag)(ts:TS)(F:FS):Prop:=∀(st:En)(σ:St)(H:Hp)(O Z:AS)(Dn:Ends),ER K st σ H O Z->∀o,F st=some o->Out K Z O H st σ Dn o->ts Dn σ H
theorem Out.trans{Dn:Ends}{o:Ot}(h:Out K Z O H st σ Dn o)(x:Ext O H O1 H1)(k:Kq st σ st1 σ'):Out K Z O1 H1 st1 σ' Dn o:=by
 cases o with
 | nx s=>exact fun σ2 H2 O2 x2 k2 E2=>h σ2 H2 O2 (x.trans x2) (k.trans k2) E2
 | bk s=>exact fun σ2 H2 O2 x2 k2 E2=>h σ2 H2 O2 (x.trans x2) (k.trans k2) E2
 | ct s=>exact fun σ2 H2 O2 x2 k2 E2=>h σ2 H2 O2 (x.trans x2) (k.trans k2) E2
 | rt r s=>exact fun v σ2 H2 O2 x2 k2 E2 rv w=>h v σ2 H2 O2 (x.trans x2) (k.trans k2) E2 rv (w.back x)
noncomputable def bt:FS:=fun st=>some (.nx st)
theorem aO:RdS K vv bt:=by
 intro st σ H O Z Dn E o e q;cases e;exact q σ H O (Ext.refl _ _) (Kq.refl _ _) E
noncomputable def aA(F G:FS):FS:=fun st=>(F st).bind fun o=>match o with
 | .nx s=>G s
 | o=>some o
theorem ar{t u:TS}{F G:FS}(h1:RdS K t F)(h2:RdS K u G):RdS K (ya t u) (aA F G):=by
 intro st σ H O Z Dn E o e q;refine bsO e fun o1 e1 e=>?_;refine h1 st σ H O Z _ E o1 e1 ?_;cases o1 with
 | nx s=>exact fun σ1 H1 O1 x1 k1 E1=>h2 s σ1 H1 O1 Z Dn E1 o e (q.trans x1 k1)
 | bk s=>cases e;exact q
 | ct s=>cases e;exact q
 | rt r s=>cases e;exact q
noncomputable def cu(fe:FE):FS:=fun st=>(fe st).bind fun x=>some (.nx x.2)
theorem b6{te:TE}{fe:FE}(h:RdE K te fe):RdS K (vw te) (cu fe):=by
 intro st σ H O Z Dn E o e q;refine bsP e fun r st1 e1 e=>?_;cases e;exact h st σ H O Z _ E r st1 e1 fun v H1 O1 x1 k1 E1 rv w1=>q σ H1 O1 x1 k1.kq E1
noncomputable def bo(fe:FE):FS:=fun st=>(fe st).bind fun x=>some (.rt x.1 x.2)
theorem aJ{te:TE}{fe:FE}(h:RdE K te fe):RdS K (yb te) (bo fe):=by
 intro st σ H O Z Dn E o e q;refine bsP e fun r st1 e1 e=>?_;cases e;exact h st σ H O Z _ E r st1 e1 fun v H1 O1 x1 k1 E1 rv w1=>q v σ H1 O1 x1 k1.kq E1 rv w1
noncomputable def sIf(f:FT)(F G:FS):FS:=fun st=>(f st).bind fun x=>if x.1=true then F x.2 else G x.2
theorem bq{c:TT}{f:FT}{t u:TS}{F G:FS}(hc:RdT K c f)(h1:RdS K t F)(h2:RdS K u G):RdS K (yc c t u) (sIf f F G):=by
 intro st σ H O Z Dn E o e q;refine bsP e fun b st1 e1 e=>?_;refine hc st σ H O Z _ E b st1 e1 fun H1 O1 x1 k1 E1=>?_;cases b with
 | true =>
  rw[if_pos rfl]at e ⊢;exact h1 st1 σ H1 O1 Z Dn E1 o e (q.trans x1 k1.kq)
 | false =>
  simp only[Qd,if_false]at e ⊢;exact h2 st1 σ H1 O1 Z Dn E1 o e (q.trans x1 k1.kq)
noncomputable def aY(fe:FE)(i:Nat):FS:=fun st=>(fe st).bind fun x=>match x.1 with
 | .d y=>(iX i (.v y) x.2).bind fun s=>some (.nx s)
 | .f y=>(iX i (.o y) x.2).bind fun s=>some (.nx s)
 | .s j=>(esc (.s j) x.2).bind fun y=>(iX i (.v y.1) y.2).bind fun s=>some (.nx s)
theorem aG{te:TE}{fe:FE}{i:Nat}(h:RdE K te fe):RdS K (uq te (nq i)) (aY fe i):=by
 intro st σ H O Z Dn E o e q;refine bsP e fun r st1 e1 e=>?_;refine h st σ H O Z _ E r st1 e1 fun v H1 O1 x1 k1 E1 rv w1=>?_;show Dn.nx (σ.set i (some v)) H1;cases r with
 | d y =>
  refine bsO e fun s e2 e=>?_;cases e;obtain⟨t,f1,f2,rfl⟩:=jH e2;exact q _ H1 O1 x1 (k1.kq.trans (mr f1 f2)) (E1.asg f1 rv)
 | f y =>
  refine bsO e fun s e2 e=>?_;cases e;obtain⟨t,f1,f2,rfl⟩:=jH e2;obtain⟨p,rfl,np,nz,ho,E2⟩:=rv;have hp:H p=none:=w1 p rfl;exact q _ H1 (ins p O1) ⟨x1.kp,fun b z=>z.elim (fun y=>by rw[y];exact .inr hp) (x1.nw b),x1.al,x1.lv⟩ (k1.kq.trans (mr f1 f2)) (E1.asgF E2 np f1 ho)
 | s j =>
  refine bsP e fun d st2 e2 e=>?_;refine bsO e fun s e3 e=>?_;cases e;obtain⟨O2,x2,k2,E2,da⟩:=rv.esc E1 e2;obtain⟨t,f1,f2,rfl⟩:=jH e3;exact q _ H1 O2 (x1.trans x2) ((k1.kq.trans k2.kq).trans (mr f1 f2)) (E2.asg f1 da)
end
end VF
namespace VF
open PySem L2
section
variable {K:PySem.W.Frag}{Y Y' O O' O1 O2 Z:AS}{H H' H1 H2:Hp}{v:V}{d:D}{vs:List V}{ds:List D}{a p:Addr}{st st' st1 st2:En}{σ σ':St}
noncomputable def ce(fg:FG)(B:FS):List D->FS
 | [],st=>some (.nx st)
 | x::r,st=>(fg x st).bind fun s1=>(B s1).bind fun o=>match o with
  | .nx s2=>ce fg B r s2
  | .ct s2=>ce fg B r s2
  | .bk s2=>some (.nx s2)
  | .rt y s2=>some (.rt y s2)
noncomputable def gE(fi:FI)(fg:FG)(B:FS):FS:=fun st=>(fi st).bind fun x=>ce fg B x.1 x.2
theorem fQ{wi:TI}{fi:FI}{g:TG}{fg:FG}{tg:List Nat}{tb:TS}{B:FS}(hi:RdI K wi fi)(hg:RdG K g fg tg)(hb:RdS K tb B):RdS K (yf wi g tb) (gE fi fg B):=by
 intro st σ H O Z Dn E o e q;refine bsP e fun items st1 e1 e=>?_;refine hi st σ H O Z _ E items st1 e1 fun J H1 O1 x1 k1 E1 it=>?_;have q1:=q.trans x1 (k1.kq (σ:=σ));refine⟨fun i m σ' H'=>m=items.length-i/\i<=items.length/\∃s O',Ext O1 H1 O' H'/\Kq st1 σ s σ'/\ER K s σ' H' O' Z/\ce fg B (items.drop i) s=some o,⟨items.length,by simp,Vj _,st1,O1,Ext.refl _ _,Kq.refl _ _,E1,e⟩,?_⟩
 rintro i m σ' H' ⟨rfl,hle,s,O',x2,k2,E2,e2⟩;obtain⟨stop,go⟩:=it H' O' x2 E2.liv;by_cases hlt:i<items.length
 ·right;have hd:items.drop i=items[i]::items.drop (i+1):=List.drop_eq_getElem_cons hlt;rw[hd]at e2;refine bsO e2 fun s1 e3 e2=>?_;refine bsO e2 fun o1 e4 e2=>?_;obtain⟨g1,g2⟩:=go i _ (Wd hlt);refine⟨g1,fun σ3 H3=>∃s O3,Ext O1 H1 O3 H3/\Kq st1 σ s σ3/\ER K s σ3 H3 O3 Z/\ce fg B (items.drop (i+1)) s=some o,fun σ3 H3 ⟨s3,O3,x3,k3,E3,e3'⟩=>⟨items.length-(i+1),by lia,rfl,hlt,s3,O3,x3,k3,E3,e3'⟩,fun x H'' hy=>?_⟩
  obtain⟨sm,da⟩:=g2 x H'' hy;have xm:Ext O' H' O' H'':=Same.ext sm;refine hg s σ' H'' O' Z x _ _ (E2.same sm) da s1 e3 fun σ4 _ k4 E4=>?_;refine hb s1 σ4 H'' O' Z _ E4 o1 e4 ?_;have xx:=x2.trans xm;cases o1 with
  | nx s2=>exact fun σ5 H5 O5 x5 k5 E5=>⟨s2,O5,xx.trans x5,(k2.trans k4).trans k5,E5,e2⟩
  | ct s2=>exact fun σ5 H5 O5 x5 k5 E5=>⟨s2,O5,xx.trans x5,(k2.trans k4).trans k5,E5,e2⟩
  | bk s2 =>
   cases e2;exact fun σ5 H5 O5 x5 k5 E5=>q1 σ5 H5 O5 (xx.trans x5) ((k2.trans k4).trans k5) E5
  | rt y s2 =>
   cases e2;exact fun v σ5 H5 O5 x5 k5 E5 rv w=>q1 v σ5 H5 O5 (xx.trans x5) ((k2.trans k4).trans k5) E5 rv (w.back xx)
 ·left;have hn:items.drop i=[]:=List.drop_eq_nil_of_le (by lia)
  rw[hn]at e2;cases e2;exact⟨stop i (by lia),q1 σ' H' O' x2 k2 E2⟩
noncomputable def sWh(f:FT)(B:FS):Nat->FS
 | 0,_=>none
 | n+1,st=>(f st).bind fun x=>if x.1=true then(B x.2).bind fun o=>match o with
   | .nx s2=>sWh f B n s2
   | .ct s2=>sWh f B n s2
   | .bk s2=>some (.nx s2)
   | .rt y s2=>some (.rt y s2)
  else some (.nx x.2)
theorem nK(n:Nat){c:TT}{f:FT}{tb:TS}{B:FS}(hc:RdT K c f)(hb:RdS K tb B):RdS K (rH c tb) (sWh f B n):=by
 intro st σ H O Z Dn E o e q;refine⟨fun m σ' H'=>∃s O',Ext O H O' H'/\Kq st σ s σ'/\ER K s σ' H' O' Z/\sWh f B m s=some o,⟨n,st,O,Ext.refl _ _,Kq.refl _ _,E,e⟩,?_⟩;rintro m σ' H' ⟨s,O',x2,k2,E2,e2⟩;cases m with
 | zero=>cases e2
 | succ m =>
  refine bsP e2 fun b s1 e3 e2=>?_;refine hc s σ' H' O' Z _ E2 b s1 e3 fun H3 O3 x3 k3 E3=>?_;have xx:=x2.trans x3;have kk:=k2.trans (k3.kq (σ:=σ'));cases b with
  | false =>
   simp only[Qd,if_false]at e2 ⊢;cases e2;exact q σ' H3 O3 xx kk E3
  | true =>
   rw[if_pos rfl]at e2 ⊢;refine bsO e2 fun o1 e4 e2=>?_;refine⟨fun σ5 H5=>∃s O5,Ext O H O5 H5/\Kq st σ s σ5/\ER K s σ5 H5 O5 Z/\sWh f B m s=some o,fun σ5 H5 h=>⟨m,Nat.lt_succ_self _,h⟩,?_⟩;refine hb s1 σ' H3 O3 Z _ E3 o1 e4 ?_;cases o1 with
   | nx s2=>exact fun σ5 H5 O5 x5 k5 E5=>⟨s2,O5,xx.trans x5,kk.trans k5,E5,e2⟩
   | ct s2=>exact fun σ5 H5 O5 x5 k5 E5=>⟨s2,O5,xx.trans x5,kk.trans k5,E5,e2⟩
   | bk s2 =>
    cases e2;exact fun σ5 H5 O5 x5 k5 E5=>q σ5 H5 O5 (xx.trans x5) (kk.trans k5) E5
   | rt y s2 =>
    cases e2;exact fun v σ5 H5 O5 x5 k5 E5 rv w=>q v σ5 H5 O5 (xx.trans x5) (kk.trans k5) E5 rv (w.back xx)
structure RdM(K:PySem.W.Frag)(T:String)(r:V->List V->Hp->VK->Prop)(ok:D->Bool)(m:D->List D->Option (D×D)):Prop where
 ty:∀(Y:AS)(H:Hp)(p:Addr)(x:D),OA K Y H p x->ok x=true->tyV K T (.ref p) H
 run:∀(Y:AS)(H:Hp)(p:Addr)(x:D)(vs:List V)(ds:List D)(y x':D)(Q:VK),Y p->OA K Y H p x->El K Y H vs ds->m x ds=some (y,x') ->
  (∀v o,DA K Y (upd H p o) v y->OA K Y (upd H p o) p x'->Q v (upd H p o))->r (.ref p) vs H Q
noncomputable def fM(ok:D->Bool)(m:D->List D->Option (D×D))(i:Nat)(fa:FA):FE:=fun st=>(st[i]?).bind fun s0=>(s0.ow).bind fun x0=>if ok x0=true then(fa st).bind fun x=>(cz x.1 x.2).bind fun y=>(y.2[i]?).bind fun s=>(s.ow).bind fun d=>(m d y.1).bind fun z=>some (.d z.1,y.2.set i (s.put z.2)) else none
theorem jx{T:String}{r:V->List V->Hp->VK->Prop}{ok:D->Bool}{m:D->List D->Option (D×D)}{i:Nat}{ta:TA}{fa:FA}(hm:RdM K T r ok m)(ha:RdA K ta fa):RdE K (tBM K T r (oA i) ta) (fM ok m i fa):=by
 intro st σ H O Z Q E r0 st' h q;refine bsO h fun s0 f1 h=>?_;refine bsO h fun x0 f2 h=>?_;obtain⟨hok,h⟩:=aC h;refine bsP h fun rs st1 e1 h=>?_;refine bsP h fun ds st2 e2 h=>?_;refine bsO h fun s e3 h=>?_;refine bsO h fun x e4 h=>?_;refine bsP h fun y x' e5 h=>?_;cases h;obtain⟨p,g1,g2,g3⟩:=E.own i s0 x0 f1 f2;refine⟨.ref p,g1,hm.ty _ _ _ _ g3 hok,?_⟩;refine ha st σ H O Z _ E rs st1 e1 fun vs H1 O1 x1 k1 E1 rvs=>?_;obtain⟨O2,x2,k2,E2,el⟩:=rvs.esc E1 e2;obtain⟨p',j1,j2,j3⟩:=E2.own i s x e3 e4;have ep:p'=p:=by rw[g1]at j1;cases j1;rfl
 subst ep;refine hm.run (U O2 Z) H1 p' x vs ds y x' _ (.inl j2) j3 el e5 fun v o da ho=>?_;obtain⟨E3,x3,k3⟩:=E2.write e3 e4 g1 ho;exact q v _ O2 ((x1.trans x2).trans x3) ((k1.trans k2).trans k3) E3 da True.intro
noncomputable def su(K:PySem.W.Frag)(t:qG)(m:D->D->D->Option D):Prop:=∀(Y:AS)(H:Hp)(p:Addr)(x:D)(k v:V)(dk dv x':D)(Q:Hp->Prop),Y p->OA K Y H p x->BA K Y H k dk->DA K Y H v dv->m x dk dv=some x' ->
 (∀o,OA K Y (upd H p o) p x'->Q (upd H p o))->t (.ref p) k v H Q
noncomputable def kQ(m:D->D->D->Option D)(fe:FE)(i:Nat)(fi:FE):FS:=fun st=>(fe st).bind fun x=>(esc x.1 x.2).bind fun y=>(y.2[i]?).bind fun s0=>(s0.ow).bind fun _=>(fi y.2).bind fun w=>(cont w.2 w.1).bind fun dk=>(w.2[i]?).bind fun s=>(s.ow).bind fun z=>(m z dk y.1).bind fun z'=>some (.nx (w.2.set i (s.put z')))
theorem gZ{t:qG}{m:D->D->D->Option D}{te ti:TE}{fe fi:FE}{i:Nat}(hm:su K t m)(he:RdE K te fe)(hi:RdE K ti fi):RdS K (uq te (ye (oA i) ti t)) (kQ m fe i fi):=by
 intro st σ H O Z Dn E o e q;refine bsP e fun r st1 e1 e=>?_;refine bsP e fun dv st2 e2 e=>?_;refine bsO e fun s0 e3 e=>?_;refine bsO e fun x0 e4 e=>?_;refine bsP e fun rk st3 e5 e=>?_;refine bsO e fun dk e6 e=>?_;refine bsO e fun s e7 e=>?_;refine bsO e fun x e8 e=>?_;refine bsO e fun x' e9 e=>?_;cases e;refine he st σ H O Z _ E r st1 e1 fun v H1 O1 x1 k1 E1 rv w1=>?_;obtain⟨O2,x2,k2,E2,da⟩:=rv.esc E1 e2;obtain⟨p,g1,g2,g3⟩:=E2.own i s0 x0 e3 e4;refine⟨.ref p,g1,?_⟩;refine hi st2 σ H1 O2 Z _ E2 rk st3 e5 fun k H3 O3 x3 k3 E3 rk' w3=>?_;obtain⟨p',j1,j2,j3⟩:=E3.own i s x e7 e8;have ep:p'=p:=by rw[g1]at j1;cases j1;rfl
 subst ep;refine hm (U O3 Z) H3 p' x k v dk dv x' _ (.inl j2) j3 (rk'.ba E3 e6) (da.ext x3) e9 fun o ho=>?_;obtain⟨E4,x4,k4⟩:=E3.write e7 e8 g1 ho;exact q σ _ O3 (((x1.trans x2).trans x3).trans x4) (((k1.trans k2).trans k3).trans k4).kq E4
noncomputable def gF(k:Nat)(caps:List Nat)(st:En):En:=List.replicate k Sl.e++caps.map fun i=>(st[i]?).getD .e
noncomputable def rst(k:Nat)(s:En):En:=List.replicate k Sl.e++s.drop k
noncomputable def wb:List Nat->En->En->En
 | i::r,s::sb,st=>wb r sb (st.set i s)
 | _,_,st=>st
noncomputable def cP(fg:FG)(fc:FT)(fe:FE)(k:Nat):List D->En->Option (List D×En)
 | [],sb=>some ([],sb)
 | x::r,sb=>(fg x sb).bind fun s1=>(fc s1).bind fun c=>if c.1=true then(fe c.2).bind fun y=>(esc y.1 y.2).bind fun w=>(cP fg fc fe k r (rst k w.2)).bind fun z=>some (w.1::z.1,z.2)
  else cP fg fc fe k r (rst k c.2)
noncomputable def mv(caps:List Nat)(n:Nat):Bool:=decide caps.Nodup&&caps.all fun i=>decide (i<n)
noncomputable def cv(k:Nat)(caps:List Nat)(fi:FI)(fg:FG)(fc:FT)(fe:FE):FE:=fun st=>(fi st).bind fun x=>if (mv caps x.2.length&&decide (x.1.length<=1000000))=true then(cP fg fc fe k x.1 (gF k caps x.2)).bind fun y=>some (.f (.lst y.1),wb caps (y.2.drop k) x.2) else none
theorem oN:∀(caps:List Nat)(sb st:En),(wb caps sb st).length=st.length
 | [],_,_=>by simp[wb]
 | _::_,[],_=>by simp[wb]
 | i::r,s::sb,st=>by rw[wb,oN r sb];simp
theorem jW:∀(caps:List Nat)(sb st:En){i:Nat},i∉caps->(wb caps sb st)[i]?=st[i]?
 | [],_,_,_,_=>by simp[wb]
 | _::_,[],_,_,_=>by simp[wb]
 | j::r,s::sb,st,i,h=>by
  rw[wb,jW r sb _ (fun z=>h (Va _ z))];exact av fun z=>h (by rw[z];simp)
theorem sv:∀(caps:List Nat)(sb st:En){j i:Nat},caps.Nodup->sb.length=caps.length->caps[j]?=some i->i<st.length->(wb caps sb st)[i]?=sb[j]?
 | [],_,_,_,_,_,_,h,_=>by simp at h
 | _::_,[],_,_,_,_,h,_,_=>by simp at h
 | c::r,s::sb,st,0,i,nd,hl,h,hi=>by
  have e:c=i:=by simpa using h
  subst e;rw[wb,jW r sb _ (Vg.mp nd).1];rw[Xh,if_pos rfl,if_pos hi];rfl
 | c::r,s::sb,st,j+1,i,nd,hl,h,hi=>by
  rw[wb,sv r sb _ (j:=j) (Vg.mp nd).2 (by simpa using hl) (by simpa using h) (by simpa using hi)];rfl
theorem p6{k:Nat}{caps:List Nat}{j i:Nat}(h:caps[j]?=some i):(gF k caps st)[k+j]?=some ((st[i]?).getD .e):=by
 unfold gF;rw[Wc (by simp),Ve,Nat.add_sub_cancel_left,Vd,h];rfl
theorem ir{k:Nat}{caps:List Nat}{i:Nat}{s:Sl}(h:(gF k caps st)[i]?=some s)(n:s.get≠none):∃j i',i=k+j/\caps[j]?=some i'/\st[i']?=some s:=by
 unfold gF at h;by_cases hi:i<k
 ·rw[Ye (by simpa using hi),Vf,if_pos hi]at h
  cases h;exact absurd rfl n
 ·rw[Wc (by simpa using hi),Ve,Vd]at h
  refine⟨i-k,?_⟩;obtain⟨i',e1,e2⟩:=Zg.mp h;refine⟨i',by lia,e1,?_⟩
  cases q:st[i']? with
  | none=>rw[q]at e2;subst e2;exact absurd rfl n
  | some t=>rw[q]at e2;subst e2;rfl
theorem g5{k:Nat}{caps:List Nat}{j i:Nat}(h:caps[j]?=some i):(blk k caps σ)[k+j]?=some ((σ[i]?).getD none):=by
 unfold blk;rw[Wc (by simp),Ve,Nat.add_sub_cancel_left,Vd,h];rfl
theorem fR{s:Sl}{d:D}(h:s.ow=some d):s.get≠none:=by cases s<;>first|(cases h;done)|simp[Sl.get]
theorem sw{l:List Nat}{j j' i:Nat}(nd:l.Nodup)(h:l[j]?=some i)(h':l[j']?=some i):j=j':=by
 obtain⟨h1,h2⟩:=Qc.mp h;obtain⟨h3,h4⟩:=Qc.mp h';exact(List.getElem_inj nd).mp (h2.trans h4.symm)
noncomputable def Ob(caps:List Nat)(st:En)(σ:St):AS:=fun p=>∃i∈caps,∃s d,st[i]?=some s/\s.ow=some d/\σ[i]?=some (some (.ref p))
noncomputable def Zb(caps:List Nat)(st:En)(σ:St)(O Z:AS):AS:=fun p=>Z p∨(O p/\¬ Ob caps st σ p)
theorem Ob.o{caps:List Nat}(E:ER K st σ H O Z){q:Addr}(h:Ob caps st σ q):O q:=by
 obtain⟨i,_,s,d,h1,h2,h3⟩:=h;obtain⟨p,g1,g2,_⟩:=E.own i s d h1 h2;rw[h3]at g1;cases g1;exact g2
theorem w5{k:Nat}{caps:List Nat}(E:ER K st σ H O Z)(nd:caps.Nodup):ER K (gF k caps st) (blk k caps σ) H (Ob caps st σ) (Zb caps st σ O Z):=by
 have up:∀b,U (Ob caps st σ) (Zb caps st σ O Z) b->U O Z b:=fun b z=>z.elim (fun y=>.inl (Ob.o E y)) fun y=>y.elim .inr fun w=>.inl w.1;refine⟨by simp[gF,blk],fun i d h=>?_,fun i s d h1 h2=>?_,fun i j s t d d' p h1 h2 h3 h4 h5 h6=>?_,fun p h z=>?_,fun p h=>E.liv p (up p h)⟩
 ·obtain⟨j,i',rfl,hc,hs⟩:=ir h (by simp[Sl.get])
  obtain⟨v,g1,g2⟩:=E.val i' d hs;exact⟨v,by rw[g5 hc,g1];rfl,g2.less up⟩
 ·obtain⟨j,i',rfl,hc,hs⟩:=ir h1 (fR h2);obtain⟨p,g1,g2,g3⟩:=E.own i' s d hs h2;exact⟨p,by rw[g5 hc,g1];rfl,⟨i',Xi hc,s,d,hs,h2,g1⟩,g3.go rfl (fun _ _ e _=>e) fun b z=>.inl (up b z)⟩
 ·obtain⟨j1,i1,rfl,c1,s1⟩:=ir h1 (fR h2);obtain⟨j2,i2,rfl,c2,s2⟩:=ir h3 (fR h4);obtain⟨p1,g1,_⟩:=E.own i1 s d s1 h2;obtain⟨p2,g2,_⟩:=E.own i2 t d' s2 h4;rw[g5 c1,g1]at h5;rw[g5 c2,g2]at h6;have e1:p1=p:=by simpa using h5
  have e2:p2=p:=by simpa using h6
  subst e1;subst e2;have e:=E.uni i1 i2 s t d d' _ s1 h2 s2 h4 g1 g2;subst e;rw[sw nd c1 c2]
 ·rcases z with z|z
  ·exact E.dis p (Ob.o E h) z
  ·exact z.2 h
theorem sx{k:Nat}{τ τ':St}(E:ER K st τ H O Z)(hl:τ'.length=τ.length)(hk:k<=st.length)(h:∀j,k<=j->τ'[j]?=τ[j]?):ER K (rst k st) τ' H O Z:=by
 have at_:∀(i:Nat) s,(rst k st)[i]?=some s->s.get≠none->k<=i/\st[i]?=some s:=fun i s e n=>by
  unfold rst at e;by_cases hi:i<k
  ·rw[Ye (by simpa using hi),Vf,if_pos hi]at e
   cases e;exact absurd rfl n
  ·rw[Wc (by simpa using hi),Ve,Wf]at e
   have:k+(i-k)=i:=by lia
   rw[this]at e;exact⟨by lia,e⟩
 refine⟨?_,fun i d e=>?_,fun i s d e1 e2=>?_,fun i j s t d d' p e1 e2 e3 e4 e5 e6=>?_,E.dis,E.liv⟩
 ·rw[hl,← E.len];simp[rst];lia
 ·obtain⟨hk,e⟩:=at_ i _ e (by simp[Sl.get])
  obtain⟨v,g1,g2⟩:=E.val i d e;exact⟨v,by rw[h i hk];exact g1,g2⟩
 ·obtain⟨hk,e⟩:=at_ i _ e1 (fR e2);obtain⟨p,g1,g2⟩:=E.own i s d e e2;exact⟨p,by rw[h i hk];exact g1,g2⟩
 ·obtain⟨hk1,e1⟩:=at_ i _ e1 (fR e2);obtain⟨hk2,e3⟩:=at_ j _ e3 (fR e4);rw[h i hk1]at e5;rw[h j hk2]at e6;exact E.uni i j s t d d' p e1 e2 e3 e4 e5 e6
noncomputable def Oo(caps:List Nat)(st:En)(σ:St)(O Oi:AS):AS:=fun p=>Oi p∨(O p/\¬ Ob caps st σ p)
theorem oO{caps:List Nat}{Oi:AS}(E:ER K st σ H O Z)(x:Ext (Ob caps st σ) H Oi H'):Ext O H (Oo caps st σ O Oi) H' :=
 ⟨fun b o e n=>x.kp b o e fun z=>n (Ob.o E z),fun b z=>z.elim (fun y=>(x.nw b y).elim (fun w=>.inl (Ob.o E w)) .inr) fun y=>.inl y.1,x.al,x.lv⟩
theorem sy{k:Nat}{caps:List Nat}{Oi:AS}{sb:En}(E:ER K st σ H O Z)(nd:caps.Nodup)(lt:∀i∈caps,i<st.length)(hl:sb.length=k+caps.length)(x:Ext (Ob caps st σ) H Oi H')(B:ER K sb (blk k caps σ) H' Oi (Zb caps st σ O Z)) :
  ER K (wb caps (sb.drop k) st) σ H' (Oo caps st σ O Oi) Z:=by
 have dl:(sb.drop k).length=caps.length:=by rw[Zk];lia
 have cap:∀(j i:Nat),caps[j]?=some i->(wb caps (sb.drop k) st)[i]?=sb[k+j]?:=fun j i h=>by
  rw[sv caps _ st nd dl h (lt i (Xi h)),Wf]
 have out:∀i,i∉caps->(wb caps (sb.drop k) st)[i]?=st[i]?:=fun i h=>jW caps _ st h;have same:∀b,U (Oo caps st σ O Oi) Z b->U Oi (Zb caps st σ O Z) b:=fun b z=>by
  rcases z with(z|z)|z
  ·exact .inl z
  ·exact .inr (.inr z)
  ·exact .inr (.inl z)
 have kp:∀b o,H b=some o->¬ U O Z b->H' b=some o:=fun b o e n=>x.kp b o e fun z=>n (.inl (Ob.o E z));have nn:∀b,U (Oo caps st σ O Oi) Z b->U O Z b∨H b=none:=fun b z=>by
  rcases z with z|z
  ·exact((oO E x).nw b z).elim (fun y=>.inl (.inl y)) .inr
  ·exact .inl (.inr z)
 have nob:∀(i:Nat) s d p,i∉caps->st[i]?=some s->s.ow=some d->σ[i]?=some (some (.ref p))->¬ Ob caps st σ p:=fun i s d p hn h1 h2 h3 z=>by
  obtain⟨i0,hm,s0,d0,g1,g2,g3⟩:=z;have:=E.uni i i0 s s0 d d0 p h1 h2 g1 g2 h3 g3;subst this;exact hn hm
 have bget:∀{j i:Nat}{v:V},caps[j]?=some i->(blk k caps σ)[k+j]?=some (some v)->σ[i]?=some (some v):=fun {j i v} hc hb=>by
  rw[g5 hc]at hb;have hb':=Option.some.inj hb;cases q:σ[i]? with
  | none=>rw[q]at hb';cases hb'
  | some w=>rw[q]at hb';have:w=some v:=hb';rw[this]
 have own:∀(i:Nat) s d,(wb caps (sb.drop k) st)[i]?=some s->s.ow=some d->(∃j,caps[j]?=some i/\sb[k+j]?=some s)∨(i∉caps/\st[i]?=some s):=fun i s d h1 _=>by
  by_cases hc:i∈caps
  ·obtain⟨j,hj⟩:=Wh hc;rw[cap j i hj]at h1;exact .inl ⟨j,hj,h1⟩
  ·rw[out i hc]at h1;exact .inr ⟨hc,h1⟩
 refine⟨by rw[oN];exact E.len,fun i d h=>?_,fun i s d h1 h2=>?_,fun i j s t d d' p h1 h2 h3 h4 h5 h6=>?_,fun p h=>?_,fun p h=>?_⟩
 ·by_cases hc:i∈caps
  ·obtain⟨j,hj⟩:=Wh hc;rw[cap j i hj]at h;obtain⟨v,g1,g2⟩:=B.val _ d h;exact⟨v,bget hj g1,g2.less same⟩
  ·rw[out i hc]at h;obtain⟨v,g1,g2⟩:=E.val i d h;exact⟨v,g1,g2.go kp nn⟩
 ·rcases own i s d h1 h2 with⟨j,hj,hs⟩|⟨hc,hs⟩
  ·obtain⟨p,g1,g2,g3⟩:=B.own _ s d hs h2;exact⟨p,bget hj g1,.inl g2,g3.go rfl (fun _ _ e _=>e) fun b z=>.inl (same b z)⟩
  ·obtain⟨p,g1,g2,g3⟩:=E.own i s d hs h2;have nb:=nob i s d p hc hs h2 g1;refine⟨p,g1,.inr ⟨g2,nb⟩,g3.go ?_ kp nn⟩;cases q:H p with
   | none=>exact absurd q g3.live
   | some o=>exact x.kp p o q nb
 ·rcases own i s d h1 h2 with⟨j1,c1,s1⟩|⟨c1,s1⟩<;>rcases own j t d' h3 h4 with⟨j2,c2,s2⟩|⟨c2,s2⟩
  ·have e:=B.uni _ _ s t d d' p s1 h2 s2 h4 (by rw[g5 c1,h5];rfl) (by rw[g5 c2,h6];rfl)
   have e':j1=j2:=by lia
   subst e';rw[c1]at c2;exact Option.some.inj c2
  ·exfalso
   obtain⟨q,g1,g2,_⟩:=B.own _ s d s1 h2;have:=bget c1 g1;rw[h5]at this;cases this;have nb:=nob j t d' p c2 s2 h4 h6;obtain⟨q2,k1,_,k3⟩:=E.own j t d' s2 h4;rw[h6]at k1;cases k1;exact(x.nw p g2).elim nb k3.live
  ·exfalso
   obtain⟨q,g1,g2,_⟩:=B.own _ t d' s2 h4;have:=bget c2 g1;rw[h6]at this;cases this;have nb:=nob i s d p c1 s1 h2 h5;obtain⟨q2,k1,_,k3⟩:=E.own i s d s1 h2;rw[h5]at k1;cases k1;exact(x.nw p g2).elim nb k3.live
  ·exact E.uni i j s t d d' p s1 h2 s2 h4 h5 h6
 ·rcases h with h|h
  ·exact fun z=>B.dis p h (.inl z)
  ·exact E.dis p h.1
 ·rcases h with(h|h)|h
  ·exact B.liv p (.inl h)
  ·exact x.lv p (E.liv p (.inl h.1))
  ·exact x.lv p (E.liv p (.inr h))
theorem sA{k:Nat}{a b:En}(h0:∀(i:Nat) s,a[i]?=some s->i<k->s=.e)(h:Kp a b)(hk:k<=b.length):Kp a (rst k b):=by
 have lk:(rst k b).length=b.length:=by simp[rst];lia
 have at_:∀i,k<=i->(rst k b)[i]?=b[i]?:=fun i hi=>by
  unfold rst;rw[Wc (by simpa using hi),Ve,Wf]
  congr 1;lia
 refine⟨lk.trans h.len,fun i s e g=>?_,fun i d e=>?_⟩
 ·by_cases hi:i<k
  ·have:=h0 i s e hi;subst this;exact absurd rfl g
  ·obtain⟨s',e',g'⟩:=h.has i s e g;exact⟨s',by rw[at_ i (by lia)];exact e',g'⟩
 ·by_cases hi:i<k
  ·have:=h0 i _ e hi;cases this
  ·obtain⟨d',e'⟩:=h.io i d e;exact⟨d',by rw[at_ i (by lia)];exact e'⟩
theorem yt{k:Nat}{caps:List Nat}{sb:En}(nd:caps.Nodup)(lt:∀i∈caps,i<st.length)(hl:sb.length=k+caps.length)(h:Kp (gF k caps st) sb):Kp st (wb caps (sb.drop k) st):=by
 have dl:(sb.drop k).length=caps.length:=by rw[Zk];lia
 have cap:∀(j i:Nat),caps[j]?=some i->(wb caps (sb.drop k) st)[i]?=sb[k+j]?:=fun j i h=>by
  rw[sv caps _ st nd dl h (lt i (Xi h)),Wf]
 refine⟨oN _ _ _,fun i s e g=>?_,fun i d e=>?_⟩
 ·by_cases hc:i∈caps
  ·obtain⟨j,hj⟩:=Wh hc;rw[cap j i hj];exact h.has (k+j) s (by rw[p6 hj,e];rfl) g
  ·exact⟨s,by rw[jW _ _ _ hc];exact e,g⟩
 ·by_cases hc:i∈caps
  ·obtain⟨j,hj⟩:=Wh hc;rw[cap j i hj];exact h.io (k+j) d (by rw[p6 hj,e];rfl)
  ·exact⟨d,by rw[jW _ _ _ hc];exact e⟩
theorem mw{k:Nat}{caps:List Nat}(i:Nat)(s:Sl)(h:(gF k caps st)[i]?=some s)(hi:i<k):s=.e:=by
 unfold gF at h;rw[Ye (by simpa using hi),Vf,if_pos hi]at h
 exact(Option.some.inj h).symm
noncomputable def ItC(K:PySem.W.Frag)(Z:AS)(caps:List Nat)(st:En)(σ:St)(J:It)(items:List D)(H:Hp)(O:AS):Prop:=∀H' Oi,Ext (Ob caps st σ) H Oi H'->(∀p,U (Oo caps st σ O Oi) Z p->Lv H' p)->(∀i,items.length<=i->J.stop i H')/\∀(i:Nat) d,items[i]?=some d->J.go i H'/\∀x H'',J.yld i H' x H''->Same H' H''/\DA K (U (Oo caps st σ O Oi) Z) H'' x d
noncomputable def yu(K:PySem.W.Frag)(caps:List Nat)(wi:TI)(fi:FI):Prop:=∀(st:En)(σ:St)(H:Hp)(O Z:AS)(R:It->Hp->Prop),ER K st σ H O Z->∀items st',fi st=some (items,st') ->
 (∀J H' O',Ext O H O' H'->Kp st st'->ER K st' σ H' O' Z->ItC K Z caps st' σ J items H' O'->R J H')->wi σ H R
theorem RdI.ic{caps:List Nat}{wi:TI}{fi:FI}(h:RdI K wi fi):yu K caps wi fi:=fun st σ H O Z R E items st' e q =>
 h st σ H O Z R E items st' e fun J H1 O1 x1 k1 E1 it=>q J H1 O1 x1 k1 E1 fun H' Oi x2 lv=>it H' _ (oO E1 x2) lv
theorem sB{k:Nat}{caps:List Nat}{wi:TI}{fi:FI}{g:TG}{fg:FG}{tg:List Nat}{tc:TT}{fc:FT}{te:TE}{fe:FE}(hi:yu K caps wi fi)(hg:RdG K g fg tg)(ht:∀j∈tg,j<k)(hc:RdT K tc fc)(he:RdE K te fe) :
  RdE K (pZ k caps wi g tc te) (cv k caps fi fg fc fe):=by
 intro st σ H O Z Q E r st' h q;refine bsP h fun items st1 e1 h=>?_;by_cases hok:(mv caps st1.length&&decide (items.length<=1000000))=true
 rotate_left
 ·simp only[if_neg hok]at h;cases h
 simp only[if_pos hok]at h;refine bsP h fun total sf e2 h=>?_;cases h;have hok1:caps.Nodup/\(∀i∈caps,i<st1.length)/\items.length<=1000000:=by
  rw[Xe,decide_eq_true_eq]at hok;unfold mv at hok;rw[Xe,decide_eq_true_eq,Vh]at hok;exact⟨hok.1.1,fun i hi=>of_decide_eq_true (hok.1.2 i hi),hok.2⟩
 obtain⟨nd,lt,hfew⟩:=hok1;refine hi st σ H O Z _ E items st1 e1 fun J H1 O1 x1 k1 E1 it=>?_;have bl:(blk k caps σ).length=k+caps.length:=by simp[blk]
 have el:(gF k caps st1).length=k+caps.length:=by simp[gF]
 refine⟨items.length,fun i xs H'=>∃sb Oi ds ds2,Ext (Ob caps st1 σ) H1 Oi H'/\ER K sb (blk k caps σ) H' Oi (Zb caps st1 σ O1 Z)/\El K (U Oi (Zb caps st1 σ O1 Z)) H' xs ds/\cP fg fc fe k (items.drop i) sb=some (ds2,sf)/\ds++ds2=total/\Kp (gF k caps st1) sb/\xs.length<=i,
  ⟨gF k caps st1,Ob caps st1 σ,[],total,Ext.refl _ _,w5 E1 nd,El.nil,e2,rfl,Kp.refl _,Wa _⟩,?_,?_⟩
 ·rintro xs H' ⟨sb,Oi,ds,ds2,x2,B,exs,e3,ed,kb,_⟩;rw[List.drop_eq_nil_of_le (Wa _)]at e3;obtain⟨rfl,rfl⟩:([]:List D)=ds2/\sb=sf:=by
   have:=Option.some.inj e3;exact⟨congrArg Prod.fst this,congrArg Prod.snd this⟩
  rw[Zc]at ed;subst ed;obtain⟨stop,_⟩:=it H' Oi x2 (sy E1 nd lt (kb.len.trans el) x2 B).liv;refine⟨stop _ (Wa _),fun p hp=>?_⟩;have sl:sb.length=k+caps.length:=kb.len.trans el;have Eo:=sy E1 nd lt sl x2 B;have ko:=yt nd lt sl kb;have el2:El K (U (Oo caps st1 σ O1 Oi) Z) H' xs ds:=exs.less fun b z=>by
   rcases z with(z|z)|z
   ·exact .inl z
   ·exact .inr (.inr z)
   ·exact .inr (.inl z)
  obtain⟨E3,rv⟩:=Eo.new hp el2;have xx:=x1.trans (oO E1 x2);exact q _ _ _ (xx.trans (Same.ext (aX hp _))) (k1.trans ko) E3 rv fun p' e=>by cases e;exact xx.dead hp
 ·rintro i xs H' hlt ⟨sb,Oi,ds,ds2,x2,B,exs,e3,ed,kb,hxl⟩;have hd:items.drop i=items[i]::items.drop (i+1):=List.drop_eq_getElem_cons hlt;rw[hd]at e3;refine bsO e3 fun s1 e4 e3=>?_;refine bsP e3 fun c s2 e5 e3=>?_;obtain⟨_,go⟩:=it H' Oi x2 (sy E1 nd lt (kb.len.trans el) x2 B).liv;obtain⟨g1,g2⟩:=go i _ (Wd hlt);refine⟨g1,Nat.lt_of_le_of_lt hxl (Yb hlt (few hfew)),fun x H'' hy=>?_⟩;obtain⟨sm,da⟩:=g2 x H'' hy;have xm:Ext Oi H' Oi H'':=Same.ext sm;have da':DA K (U Oi (Zb caps st1 σ O1 Z)) H'' x items[i]:=da.less fun b z=>by
   rcases z with z|z|z
   ·exact .inl (.inl z)
   ·exact .inr z
   ·exact .inl (.inr z)
  refine hg sb _ H'' Oi _ x _ _ (B.same sm) da' s1 e4 fun τ kt kq3 E4=>?_;have sl:sb.length=k+caps.length:=kb.len.trans el;have tl:τ.length=(blk k caps σ).length:=by rw[← E4.len,kq3.len,sl,bl]
  have tk:∀j,k<=j->(blk k caps σ)[j]?=τ[j]?:=fun j hj=>((kt j fun z=>absurd (ht j z) (by lia)).1).symm
  have drop:τ.drop k=(blk k caps σ).drop k:=by
   refine List.ext_getElem? fun j=>?_;rw[Wf,Wf];exact(tk _ (by lia)).symm
  have kp1:Kp (gF k caps st1) s1:=by
   refine⟨kq3.len.trans kb.len,fun j s e g=>?_,fun j d e=>?_⟩
   ·by_cases hj:j<k
    ·have:=mw j s e hj;subst this;exact absurd rfl g
    ·obtain⟨s',e',g'⟩:=kb.has j s e g;exact⟨s',by rw[(kt j fun z=>absurd (ht j z) (by lia)).2];exact e',g'⟩
   ·by_cases hj:j<k
    ·have:=mw j _ e hj;cases this
    ·obtain⟨d',e'⟩:=kb.io j d e;exact⟨d',by rw[(kt j fun z=>absurd (ht j z) (by lia)).2];exact e'⟩
  refine hc s1 τ H'' Oi _ _ E4 c s2 e5 fun H3 O3 x3 k3 E5=>?_;have kp2:=kp1.trans k3;cases c with
  | false =>
   simp only[Qd,if_false]at e3 ⊢;have hs2:k<=s2.length:=by rw[kp2.len,el];lia
   exact⟨drop,rst k s2,O3,ds,ds2,(x2.trans xm).trans x3,sx E5 tl.symm hs2 tk,exs.ext (xm.trans x3),e3,ed,sA mw kp2 hs2,by lia⟩
  | true =>
   rw[if_pos rfl]at e3 ⊢;refine bsP e3 fun ry s3 e6 e3=>?_;refine bsP e3 fun dy s4 e7 e3=>?_;refine bsP e3 fun ds3 sf' e8 e3=>?_;cases e3;refine he s2 τ H3 O3 _ _ E5 ry s3 e6 fun y H4 O4 x4 k4 E6 rv w=>?_;obtain⟨O5,x5,k5,E7,day⟩:=rv.esc E6 e7;have kp3:=(kp2.trans k4).trans k5;have hs4:k<=s4.length:=by rw[kp3.len,el];lia
   refine⟨drop,rst k s4,O5,ds++[dy],ds3,(((x2.trans xm).trans x3).trans x4).trans x5,sx E7 tl.symm hs4 tk,(exs.ext (((xm.trans x3).trans x4).trans x5)).app (El.one day),e8,by rw[Vb];exact ed,sA mw kp3 hs4,by simp;lia⟩
theorem cS{k:Nat}{caps:List Nat}{wi:TI}{fi:FI}{g:TG}{fg:FG}{tg:List Nat}{tc:TT}{fc:FT}{te:TE}{fe:FE}(hi:RdI K wi fi)(hg:RdG K g fg tg)(ht:∀j∈tg,j<k)(hc:RdT K tc fc)(he:RdE K te fe) :
  RdE K (pZ k caps wi g tc te) (cv k caps fi fg fc fe):=sB hi.ic hg ht hc he
noncomputable def g6(n:Nat)(ds:List D):En:=ds.map Sl.v++List.replicate (n-ds.length) Sl.e
noncomputable def w6(st:En):Rs->Option Rz
 | .d x=>some (x,false)
 | .f x=>some (x,true)
 | .s i=>match st[i]? with
  | some (.o x)=>some (x,true)
  | some (.v x)=>some (x,false)
  | _=>none
noncomputable def fin:Ot->Option Rz
 | .nx _=>some (.non,false)
 | .rt r st=>w6 st r
 | _=>none
noncomputable def bx(F:FS)(n m:Nat):List D->Option Rz:=fun ds=>if ds.length=m then(F (g6 n ds)).bind fin else none
theorem sC{N:List Str}(el:El K Z H vs ds)(lv:∀p,Z p->Lv H p):ER K (g6 N.length ds) (L2.start N vs) H (fun _=>False) Z:=by
 have gv:∀(i:Nat) s,(g6 N.length ds)[i]?=some s->s.get≠none->∃d,s=.v d/\ds[i]?=some d:=fun i s e n=>by
  unfold g6 at e;by_cases hi:i<ds.length
  ·rw[Ye (by simpa using hi),Vd]at e
   obtain⟨d,h1,h2⟩:=Zg.mp e;exact⟨d,h2.symm,h1⟩
  ·rw[Wc (by simpa using hi),Vf]at e
   by_cases hz:i-(ds.map Sl.v).length<N.length-ds.length
   ·rw[if_pos hz]at e;cases e;exact absurd rfl n
   ·rw[if_neg hz]at e;cases e
 have no:∀(i:Nat) s d,(g6 N.length ds)[i]?=some s->s.ow=some d->False:=fun i s d e h=>by
  obtain⟨x,rfl,_⟩:=gv i s e (fR h);cases h
 refine⟨by simp[g6,L2.start,el.1],fun i d e=>?_,fun i s d e h=>(no i s d e h).elim,fun i j s t d d' p e h=>(no i s d e h).elim,fun p h=>h.elim,fun p h=>h.elim (fun z=>z.elim) (lv p)⟩
 obtain⟨x,h1,h2⟩:=gv i _ e (by simp[Sl.get])
 cases h1;obtain⟨v,g1,g2⟩:=el.at h2;refine⟨v,?_,g2.less fun b z=>z.elim (fun y=>y.elim) fun y=>y⟩;unfold L2.start;have hi:=(Qc.mp g1).1;rw[Ye (by simpa using hi),Vd,g1];rfl
theorem uK{ts:TS}{F:FS}{N:List Str}{Q:VK}{XE:XK}(h:RdS K ts F){m:Nat}(sp:spV K (bx F N.length m) vs H Q XE):ts { nx:=fun _ H'=>Q .non H',rt:=Q } (L2.start N vs) H:=by
 obtain⟨Z,ds,z,el,lv,e,q⟩:=sp;have hm:ds.length=m:=by
  by_cases hm:ds.length=m
  ·exact hm
  ·simp only[bx,if_neg hm]at e;cases e
 simp only[bx,if_pos hm]at e;refine bsO e fun o e1 e2=>?_;have same:∀{O':AS}{H':Hp},Ext (fun _=>False) H O' H'->Same H H':=fun {O' H'} x b o e=>x.kp b o e fun z=>z;refine h _ _ H _ Z _ (sC el lv) o e1 ?_;cases o with
 | nx s =>
  cases e2;exact fun σ' H' O' x _ _=>q .non H' (same x) .non
 | bk s=>cases e2
 | ct s=>cases e2
 | rt r s =>
  intro v σ' H' O' x k E rv w;have sub:∀b,Z b->U O' Z b:=fun b z=>.inr z;cases r with
  | d y=>cases e2;exact q v H' (same x) (DA.less (show DA K (U O' Z) H' v y from rv) sub)
  | f y =>
   cases e2;obtain⟨p,rfl,h1,h2,h3,_⟩:=rv;exact q _ H' (same x) ⟨p,rfl,w p rfl,h3.go rfl (fun _ _ e _=>e) fun b z=>.inl (z.elim .inl fun y=>.inr (.inr y))⟩
  | s i =>
   obtain⟨h1,t,h2,h3⟩:=rv
   have e2':(match s[i]? with
    | some (.o x)=>some (x,true)
    | some (.v x)=>some (x,false)
    | _=>none)=some z:=e2
   rw[h2]at e2';cases t with
   | e=>cases e2'
   | io y=>cases e2'
   | v y =>
    cases e2';obtain⟨u,g1,g2⟩:=E.val i y h2;rw[h1]at g1;cases g1;exact q v H' (same x) (g2.less sub)
   | o y =>
    cases e2';obtain⟨p,g1,g2,g3⟩:=E.own i _ y h2 rfl;rw[h1]at g1;cases g1;refine q _ H' (same x) ⟨p,rfl,(x.nw p g2).elim (fun z=>z.elim) (fun z=>z),g3.go rfl (fun _ _ e _=>e) fun b z=>.inl (z.elim (fun y=>.inl (by rw[y];exact g2)) fun y=>.inr y)⟩
noncomputable def dQ(n:Nat)(x:D)(ds:List D):En:=Sl.io x::(ds.map Sl.v++List.replicate (n-(ds.length+1)) Sl.e)
noncomputable def qW(z:Option Rz)(st:En):Option (Rz×D):=match st[0]? with
 | some (Sl.io x)=>z.bind fun y=>some (y,x)
 | _=>none
noncomputable def vN:Ot->Option (Rz×D)
 | .nx st=>qW (some (.non,false)) st
 | .rt r st=>qW (w6 st r) st
 | _=>none
noncomputable def bS(F:FS)(n m:Nat):D->List D->Option (Rz×D):=fun x ds=>if ds.length+1=m then(F (dQ n x ds)).bind vN else none
theorem qX{N : List Str}{f : Addr}{x : D}{ws : List V}(nz : ¬ Z f)(ho : OA K (ins f Z) H f x)(el : El K (ins f Z) H ws ds)(lv : ∀ p, Z p → Lv H p) : ER K (dQ N.length x ds) (L2.start N (.ref f :: ws)) H (fun b => b = f) Z := by
  have gv : ∀ (i : Nat) s, (dQ N.length x ds)[i]? = some s → s.get ≠ none → (i = 0 ∧ s = .io x) ∨ ∃ j d, i = j + 1 ∧ s = .v d ∧ ds[j]? = some d := fun i s e n => by
    cases i with
    | zero => left; exact ⟨rfl, by have : Sl.io x = s := by simpa [dQ] using e
                                   exact this.symm⟩
    | succ j =>
      right;have e : (ds.map Sl.v ++ List.replicate (N.length - (ds.length + 1)) Sl.e)[j]? = some s := by simpa [dQ] using e
      by_cases hi : j < ds.length
      · rw [List.getElem?_append_left (by simpa using hi), List.getElem?_map] at e
        obtain ⟨d, h1, h2⟩ := Option.map_eq_some_iff.mp e;exact ⟨j, d, rfl, h2.symm, h1⟩
      · rw [List.getElem?_append_right (by simpa using hi), List.getElem?_replicate] at e
        by_cases hz : j - (ds.map Sl.v).length < N.length - (ds.length + 1)
        · rw [if_pos hz] at e; cases e; exact absurd rfl n
        · rw [if_neg hz] at e; cases e
  have s0 : (L2.start N (.ref f :: ws))[0]? = some (some (.ref f)) := by simp [L2.start]
  have own0 : ∀ (i : Nat) s d, (dQ N.length x ds)[i]? = some s → s.ow = some d → i = 0 ∧ d = x := fun i s d e h => by
    rcases gv i s e (fR h) with ⟨h1, rfl⟩ | ⟨j, d', _, rfl, _⟩
    · cases h; exact ⟨h1, rfl⟩
    · cases h
  refine ⟨by simp [dQ, L2.start, el.1], fun i d e => ?_, fun i s d e h => ?_, fun i j s t d d' p e h e' h' _ _ => ?_, fun p h => by rw [h]; exact nz, fun p h => ?_⟩
  · rcases gv i _ e (by simp [Sl.get]) with ⟨_, h⟩ | ⟨j, d', rfl, h, h2⟩
    · cases h
    · cases h
      obtain ⟨v, g1, g2⟩ := el.at h2;refine ⟨v, ?_, g2⟩;have hi := (List.getElem?_eq_some_iff.mp g1).1;unfold L2.start;rw [List.getElem?_append_left (by simp; lia), List.getElem?_map]
      simp [g1]
  · obtain ⟨rfl, rfl⟩ := own0 i s d e h
    exact ⟨f, s0, rfl, ho⟩
  · rw [(own0 i s d e h).1, (own0 j t d' e' h').1]
  · rcases h with h | h
    · rw [h]; exact ho.lv
    · exact lv p h
set_option tactic.hygienic true in
theorem lf{ts:TS}{F:FS}{N:List Str}{Q:VK}{XE:XK}(h:RdS K ts F){m:Nat}(sp:fP K (bS F N.length m) vs H Q XE):ts { nx:=fun _ H'=>Q .non H',rt:=Q } (L2.start N vs) H:=by
 obtain⟨f,ws,Z,x,ds,z,x',rfl,nz,ho,el,lv,e,q⟩:=sp;have hm:ds.length+1=m:=by
  by_cases hm:ds.length+1=m
  ·exact hm
  ·simp only[bS,if_neg hm]at e;cases e
 simp only[bS,if_pos hm]at e;refine bsO e fun o e1 e2=>?_;have but:∀{O':AS}{H':Hp},Ext (fun b=>b=f) H O' H'->∀b o,H b=some o->b≠f->H' b=some o:=fun {O' H'} x b o e n=>x.kp b o e n;have i0:(dQ N.length x ds)[0]?=some (.io x):=rfl;have s0:(L2.start N (.ref f::ws))[0]?=some (some (.ref f)):=by simp[L2.start]
 have f0:∀{s:En}{σ':St}{H':Hp}{O':AS}{y:D},Kq (dQ N.length x ds) (L2.start N (.ref f::ws)) s σ'->ER K s σ' H' O' Z->s[0]?=some (.io y)->O' f/\OA K (U O' Z) H' f y:=fun {s σ' H' O' y} k E e=>by
  obtain⟨g1,_⟩:=k.io 0 x i0;obtain⟨p,h1,h2,h3⟩:=E.own 0 _ y e rfl;rw[g1,s0]at h1;cases h1;exact⟨h2,h3⟩
 refine h _ _ H _ Z _ (qX nz ho el lv) o e1 ?_;cases o with
 | bk s=>cases e2
 | ct s=>cases e2
 | nx s =>
  intro σ' H' O' x2 k E;have e3:qW (some (.non,false)) s=some (z,x'):=e2;unfold qW at e3;split at e3
  ·rename_i y ey
   cases e3;obtain⟨h1,h2⟩:=f0 k E ey;exact q .non H' (but x2) ⟨.non,h2.go rfl (fun _ _ e _=>e) fun b z=>.inl (z.elim (fun w=>.inl (by rw[w];exact h1)) .inr)⟩
  ·cases e3
 | rt r s =>
  intro v σ' H' O' x2 k E rv w;have e3:qW (w6 s r) s=some (z,x'):=e2;unfold qW at e3;split at e3
  ·rename_i y ey
   refine bsO e3 fun z' e4 e3=>?_;cases e3;obtain⟨h1,h2⟩:=f0 k E ey;have sub:∀b,ins f Z b->U O' Z b:=fun b z=>z.elim (fun w=>.inl (by rw[w];exact h1)) .inr
   cases r with
   | d u=>cases e4;exact q v H' (but x2) ⟨DA.less (show DA K (U O' Z) H' v u from rv) sub,h2.go rfl (fun _ _ e _=>e) fun b z=>.inl (sub b z)⟩
   | f u =>
    cases e4;obtain⟨p,rfl,g1,g2,g3,E2⟩:=rv;obtain⟨h3,h4⟩:=f0 k E2 ey;exact q _ H' (but x2) ⟨p,rfl,w p rfl,g3.go rfl (fun _ _ e _=>e) (fun b z=>.inl (z.elim .inl fun y=>.inr (sub b y))),h4.go rfl (fun _ _ e _=>e) fun b z=>.inl (z.elim (fun y=>.inl (.inl y)) fun y=>(sub b y).elim (fun a=>.inl (.inr a)) .inr)⟩
   | s i =>
    obtain⟨g1,t,g2,g3⟩:=rv
    have e5:(match s[i]? with
     | some (.o x)=>some (x,true)
     | some (.v x)=>some (x,false)
     | _=>none)=some z:=e4
    rw[g2]at e5;cases t with
    | e=>cases e5
    | io u=>cases e5
    | v u =>
     cases e5;obtain⟨u',j1,j2⟩:=E.val i u g2;rw[g1]at j1;cases j1;exact q v H' (but x2) ⟨j2.less sub,h2.go rfl (fun _ _ e _=>e) fun b z=>.inl (sub b z)⟩
    | o u =>
     cases e5;obtain⟨p,j1,j2,j3⟩:=E.own i _ u g2 rfl;rw[g1]at j1;cases j1;have npf:p≠f:=fun z=>by
      subst z;obtain⟨p0,l1,_⟩:=E.own 0 _ _ ey rfl;obtain⟨l2,_⟩:=k.io 0 x i0;rw[l2,s0]at l1;cases l1;have:=E.uni i 0 _ _ u _ _ g2 rfl ey rfl g1 (by rw[l2,s0])
      subst this;rw[ey]at g2;cases g2
     have hp:H p=none:=(x2.nw p j2).elim (fun z=>absurd z npf) (fun z=>z);have sub2:∀b,ins p (ins f Z) b->U O' Z b:=fun b z=>z.elim (fun y=>.inl (by rw[y];exact j2)) (sub b)
     exact q _ H' (but x2) ⟨p,rfl,hp,j3.go rfl (fun _ _ e _=>e) (fun b z=>.inl (sub2 b z)),h2.go rfl (fun _ _ e _=>e) fun b z=>.inl (sub2 b z)⟩
  ·cases e3
theorem w9{F:FS}{n m:Nat}{Q:VK}{XE:XK}(sp:spV K (bx F n m) vs H Q XE):vs.length=m:=by
 obtain⟨Z,ds,z,el,lv,e,q⟩:=sp;by_cases hm:ds.length=m
 ·exact el.1.trans hm
 ·simp only[bx,if_neg hm]at e;cases e
theorem vO{F:FS}{n m:Nat}{Q:VK}{XE:XK}(sp:fP K (bS F n m) vs H Q XE):vs.length=m:=by
 obtain⟨f,ws,Z,x,ds,z,x',rfl,nz,ho,el,lv,e,q⟩:=sp;by_cases hm:ds.length+1=m
 ·have:=el.1;simp;lia
 ·simp only[bS,if_neg hm]at e;cases e
end
end VF
namespace VF
open PySem L2
section
variable {K:PySem.W.Frag}{Y Y':AS}{H H':Hp}{v:V}{d:D}{vs:List V}{ds:List D}
noncomputable def orD(b b':D->D->Option Rz):D->D->Option Rz:=fun x y=>match b x y with
 | some z=>some z
 | none=>b' x y
set_option tactic.hygienic true in
theorem RdOp.or{r r':R2}{b b':D->D->Option Rz}(h:RdOp K r b)(h':RdOp K r' b'):RdOp K (fun x y H Q=>r x y H Q∨r' x y H Q) (orD b b'):=by
 intro Y H x y d1 d2 z Q lv b1 b2 e q;unfold orD at e;split at e
 ·rename_i z' ez
  cases e;exact .inl (h Y H x y d1 d2 z Q lv b1 b2 ez q)
 ·exact .inr (h' Y H x y d1 d2 z Q lv b1 b2 e q)
noncomputable def orC(b b':List D->Option Rz):List D->Option Rz:=fun x=>match b x with
 | some z=>some z
 | none=>b' x
set_option tactic.hygienic true in
theorem RdCB.or{r r':List V->Hp->VK->Prop}{b b':List D->Option Rz}(h:RdCB K r b)(h':RdCB K r' b'):RdCB K (fun xs H Q=>r xs H Q∨r' xs H Q) (orC b b'):=by
 intro Y H xs ds z Q lv b1 e q;unfold orC at e;split at e
 ·rename_i z' ez
  cases e;exact .inl (h Y H xs ds z Q lv b1 ez q)
 ·exact .inr (h' Y H xs ds z Q lv b1 e q)
noncomputable def bI0(g:Int->Int->D):D->D->Option Rz
 | .int i,.int j=>some (g i j,false)
 | _,_=>none
theorem lh{gV:Int->Int->V}{gD:Int->Int->D}(h:∀Y H i j,DA K Y H (gV i j) (gD i j)):RdOp K (rI0 gV) (bI0 gD):=by
 intro Y H x y d1 d2 z Q lv b1 b2 e q;cases d1 with
 | int i =>
  cases d2 with
  | int j =>
   cases e;exact⟨i,j,b1,b2,q _ H (Same.refl H) (h Y H i j)⟩
  | _=>cases e
 | _=>cases e
noncomputable def bI(C:Int->Int->Prop)[∀i j,Decidable (C i j)](g:Int->Int->D):D->D->Option Rz
 | .int i,.int j=>if C i j then some (g i j,false) else none
 | _,_=>none
theorem uL{C:Int->Int->Prop}[dc:∀i j,Decidable (C i j)]{gV:Int->Int->V}{gD:Int->Int->D}(h:∀Y H i j,DA K Y H (gV i j) (gD i j)):RdOp K (rI C gV) (bI C gD):=by
 intro Y H x y d1 d2 z Q lv b1 b2 e q;cases d1 with
 | int i =>
  cases d2 with
  | int j =>
   obtain⟨c,e⟩:=aC e;cases e;exact⟨i,j,b1,b2,c,q _ H (Same.refl H) (h Y H i j)⟩
  | _=>cases e
 | _=>cases e
noncomputable instance (i j:Int):Decidable (CMul i j):=by unfold CMul;infer_instance
noncomputable instance (i j:Int):Decidable (oE i j):=by unfold oE;infer_instance
noncomputable instance (i j:Int):Decidable (rK i j):=by unfold rK;infer_instance
noncomputable def p8:=bI0 fun i j=>.int (i+j)
noncomputable def yv:=bI0 fun i j=>.int (i-j)
noncomputable def qa:=bI CMul fun i j=>.int (i*j)
noncomputable def jy:=bI oE fun i j=>.int (i / j)
noncomputable def jX:=bI (fun _ j=>0<j) fun i j=>.int (i % j)
noncomputable def yw:=bI rK fun i j=>.int (i ^ j.toNat)
noncomputable def yx:=bI0 fun i j=>.bl (decide (i<j))
noncomputable def bLe:=bI0 fun i j=>.bl (decide (i<=j))
noncomputable def bGt:=bI0 fun i j=>.bl (decide (j<i))
noncomputable def bGe:=bI0 fun i j=>.bl (decide (j<=i))
theorem ro_addI:RdOp K (rI0 fun i j=>.int (i+j)) p8:=lh fun _ _ _ _=>.int _
theorem xa:RdOp K (rI0 fun i j=>.int (i-j)) yv:=lh fun _ _ _ _=>.int _
theorem ro_mulI:RdOp K (rI CMul fun i j=>.int (i*j)) qa:=uL fun _ _ _ _=>.int _
theorem jY:RdOp K (rI oE fun i j=>.int (i / j)) jy:=uL fun _ _ _ _=>.int _
theorem fS:RdOp K (rI (fun _ j=>0<j) fun i j=>.int (i % j)) jX:=uL fun _ _ _ _=>.int _
theorem xb:RdOp K (rI rK fun i j=>.int (i ^ j.toNat)) yw:=uL fun _ _ _ _=>.int _
theorem ro_ltI:RdOp K (rI0 fun i j=>.bl (decide (i<j))) yx:=lh fun _ _ _ _=>.bl _
theorem vP:RdOp K (rI0 fun i j=>.bl (decide (i<=j))) bLe:=lh fun _ _ _ _=>.bl _
theorem yy:RdOp K (rI0 fun i j=>.bl (decide (j<i))) bGt:=lh fun _ _ _ _=>.bl _
theorem yz:RdOp K (rI0 fun i j=>.bl (decide (j<=i))) bGe:=lh fun _ _ _ _=>.bl _
noncomputable def qY:D->Option Rz
 | .int i=>some (.int (-i),false)
 | _=>none
theorem mx:wV K (rU fun i=>.int (-i)) qY:=by
 intro Y H x d1 z Q lv b1 e q;cases d1 with
 | int i=>cases e;exact⟨i,b1,q _ H (Same.refl H) (.int _)⟩
 | _=>cases e
noncomputable def scD:D->Option V
 | .non=>some .non
 | .bl b=>some (.bl b)
 | .int i=>some (.int i)
 | .str x=>some (.str x)
 | _=>none
theorem iY{w:V}(h:BA K Y H v d)(e:scD d=some w):v=w:=by
 cases d with
 | non=>cases e;exact h
 | bl b=>cases e;exact h
 | int i=>cases e;exact h
 | str x=>cases e;exact h
 | _=>cases e
theorem nL{w:V}(e:scD d=some w):gJ w=true:=by
 cases d with
 | non=>cases e;rfl
 | bl b=>cases e;rfl
 | int i=>cases e;rfl
 | str x=>cases e;rfl
 | _=>cases e
noncomputable def uM(neg:Bool):D->D->Option Rz:=fun a b=>(scD a).bind fun x=>(scD b).bind fun y=>if wx x y=true then some (.bl (if neg then !decide (x=y) else decide (x=y)),false) else none
theorem xc:RdOp K rEq (uM false):=by
 intro Y H x y d1 d2 z Q lv b1 b2 e q;refine bsO e fun x' e1 e=>?_;refine bsO e fun y' e2 e=>?_;obtain⟨c,e⟩:=aC e;cases e;obtain rfl:=iY b1 e1;obtain rfl:=iY b2 e2;exact⟨c,q _ H (Same.refl H) (.bl _)⟩
theorem ro_neS:RdOp K rNe (uM true):=by
 intro Y H x y d1 d2 z Q lv b1 b2 e q;refine bsO e fun x' e1 e=>?_;refine bsO e fun y' e2 e=>?_;obtain⟨c,e⟩:=aC e;cases e;obtain rfl:=iY b1 e1;obtain rfl:=iY b2 e2;exact⟨c,q _ H (Same.refl H) (.bl _)⟩
noncomputable def D.isN:D->Bool
 | .non=>true
 | _=>false
theorem xf(h:BA K Y H v d):decide (v=.non)=d.isN:=by
 cases d with
 | non=>rw[show v=V.non from h];rfl
 | bl b=>rw[show v=V.bl b from h];rfl
 | int i=>rw[show v=V.int i from h];rfl
 | str x=>rw[show v=V.str x from h];rfl
 | ty x=>rw[show v=V.ty x from h];rfl
 | tup ds=>obtain⟨a,_,rfl,_⟩:=h;rfl
 | lst ds=>obtain⟨a,_,rfl,_⟩:=h;rfl
 | fl ds=>obtain⟨a,_,rfl,_⟩:=h;rfl
 | dk ds=>obtain⟨a,_,rfl,_⟩:=h;rfl
 | dt ds=>obtain⟨a,_,_,rfl,_⟩:=h;rfl
noncomputable def xg(neg:Bool):D->D->Option Rz
 | a,.non=>some (.bl (if neg then !a.isN else a.isN),false)
 | _,_=>none
theorem sD:RdOp K (fun x y H Q=>y=.non/\Q (.bl (decide (x=.non))) H) (xg false):=by
 intro Y H x y d1 d2 z Q lv b1 b2 e q;cases d2 with
 | non =>
  cases e;refine⟨b2,?_⟩;rw[xf b1];exact q _ H (Same.refl H) (.bl _)
 | _=>cases e
noncomputable def qb:D->D->Option Rz
 | .str a,.str b=>if a.length+b.length<=1000000 then some (.str (a++b),false) else none
 | _,_=>none
theorem ro_addS:RdOp K (fun x y H Q=>∃i j,x=.str i/\y=.str j/\i.length+j.length<=sizeLine/\Q (.str (i++j)) H) qb:=by
 intro Y H x y d1 d2 z Q lv b1 b2 e q;cases d1 with
 | str a =>
  cases d2 with
  | str b =>
   obtain⟨c,e⟩:=aC e;cases e;exact⟨a,b,b1,b2,few c,q _ H (Same.refl H) (.str _)⟩
  | _=>cases e
 | _=>cases e
theorem gx{ds:List D}{p:Addr}(el:El K Y H vs ds)(hp:H p=none):RES K Y H (upd H p (.lst vs)) (.ref p) (.lst ds,true) :=
 ⟨p,rfl,hp,vs,aZ,el.away (aX hp _) hp⟩
theorem fT{ds:List D}{p:Addr}(el:El K Y H vs ds)(hp:H p=none)(lv:∀p,Y p->Lv H p):RES K Y H (upd H p (.tup vs)) (.ref p) (.tup ds,false) :=
 .tup ⟨aZ,fun z=>(lv p z).1 hp⟩ el.1 (el.same (aX hp _)).2
noncomputable def uN:D->D->Option Rz
 | .lst a,.lst b=>if a.length+b.length<=1000000 then some (.lst (a++b),true) else none
 | _,_=>none
theorem ro_cat:RdOp K wM uN:=by
 intro Y H x y d1 d2 z Q lv b1 b2 e q;cases d1 with
 | lst a =>
  cases d2 with
  | lst b =>
   obtain⟨c,e⟩:=aC e;cases e;obtain⟨p,xs,rfl,hp,el⟩:=b1;obtain⟨p2,ys,rfl,hp2,el2⟩:=b2;exact⟨p,p2,xs,ys,rfl,rfl,hp,hp2,by rw[el.1,el2.1];exact few c,fun r hr=>q _ _ (aX hr _) (gx (el.app el2) hr)⟩
  | _=>cases e
 | _=>cases e
noncomputable def vQ:D->D->Option Rz
 | .tup (x::a),.tup (y::b)=>if a.length+b.length<=999998 then some (.tup ((x::a)++(y::b)),false) else none
 | .tup (x::a),.tup []=>if a.length<=999998 then some (.tup (x::a),false) else none
 | _,_=>none
theorem uO:RdOp K (rW K) vQ:=by
 intro Y H x y d1 d2 z Q lv b1 b2 e q;cases d1 with
 | tup a =>
  cases a with
  | nil=>cases e
  | cons a0 a =>
  cases d2 with
  | tup b =>
   obtain⟨p,xs,rfl,hp,el⟩:=b1;obtain⟨p2,ys,rfl,hp2,el2⟩:=b2;have hx:xs≠[]:=fun z=>by have:=el.1;rw[z]at this;cases this
   cases b with
   | nil =>
    obtain⟨c,e⟩:=aC e;cases e;obtain rfl:=el2.unnil;exact⟨p,p2,xs,[],rfl,rfl,hp.sq,hp2.sq,hx,by rw[el.1];exact few (by simp;lia),fun _=>q _ H (Same.refl H) (.tup hp el.1 el.2),fun z=>absurd rfl z⟩
   | cons b0 b =>
    obtain⟨c,e⟩:=aC e;cases e;have hy:ys≠[]:=fun z=>by have:=el2.1;rw[z]at this;cases this
    exact⟨p,p2,xs,ys,rfl,rfl,hp.sq,hp2.sq,hx,by rw[el.1,el2.1];exact few (by simp;lia),fun z=>absurd z hy,fun _ r hr=>q _ _ (aX hr _) (fT (el.app el2) hr lv)⟩
  | _=>cases e
 | _=>cases e
noncomputable def bY:=orD p8 (orD qb (orD uN vQ))
noncomputable def sE:D->D->Option Rz
 | .str a,.int n=>if 0<=n/\n<=1000/\a.length<=1000 then some (.str (Txt.mul a n),false) else none
 | _,_=>none
theorem uP:RdOp K (fun x y H Q=>∃(a:Str)(n:Int),x=.str a/\y=.int n/\MulOk a n/\Q (.str (Txt.mul a n)) H) sE:=by
 intro Y H x y d1 d2 z Q lv b1 b2 e q;cases d1 with
 | str a =>
  cases d2 with
  | int n =>
   obtain⟨c,e⟩:=aC e;cases e;exact⟨a,n,b1,b2,mulOk_of c.1 c.2.1 c.2.2,q _ H (Same.refl H) (.str _)⟩
  | _=>cases e
 | _=>cases e
noncomputable def jz:=orD qa sE
noncomputable def yA:D->D->Option Rz
 | .str a,.str b=>some (.bl (decide (a.cps.toList<b.cps.toList)),false)
 | _,_=>none
theorem xh:RdOp K (fun x y H Q=>∃i j,x=.str i/\y=.str j/\Q (.bl (decide (i.cps.toList<j.cps.toList))) H) yA:=by
 intro Y H x y d1 d2 z Q lv b1 b2 e q;cases d1 with
 | str a =>
  cases d2 with
  | str b=>cases e;exact⟨a,b,b1,b2,q _ H (Same.refl H) (.bl _)⟩
  | _=>cases e
 | _=>cases e
noncomputable def bLt:=orD yx yA
noncomputable def nM(neg:Bool):D->D->Option Rz
 | .str a,.str b=>some (.bl (if neg then !(!(Builtin.Str.occurrences b a 0 b.length 1).isEmpty) else !(Builtin.Str.occurrences b a 0 b.length 1).isEmpty),false)
 | _,_=>none
theorem ro_inS:RdOp K (fun x y H Q=>∃i j,x=.str i/\y=.str j/\Q (.bl (!(Builtin.Str.occurrences j i 0 j.length 1).isEmpty)) H) (nM false):=by
 intro Y H x y d1 d2 z Q lv b1 b2 e q;cases d1 with
 | str a =>
  cases d2 with
  | str b=>cases e;exact⟨a,b,b1,b2,q _ H (Same.refl H) (.bl _)⟩
  | _=>cases e
 | _=>cases e
theorem ro_notinS:RdOp K (fun x y H Q=>∃i j,x=.str i/\y=.str j/\Q (.bl (!(!(Builtin.Str.occurrences j i 0 j.length 1).isEmpty))) H) (nM true):=by
 intro Y H x y d1 d2 z Q lv b1 b2 e q;cases d1 with
 | str a =>
  cases d2 with
  | str b=>cases e;exact⟨a,b,b1,b2,q _ H (Same.refl H) (.bl _)⟩
  | _=>cases e
 | _=>cases e
noncomputable def ji:List D->Option (List V)
 | []=>some []
 | d::r=>(scD d).bind fun v=>(ji r).bind fun vs=>some (v::vs)
theorem nN:∀{ds:List D}{vs ws:List V},El K Y H vs ds->ji ds=some ws->vs=ws/\ws.all gJ=true
 | [],vs,ws,el,e=>by cases e;exact⟨el.unnil,rfl⟩
 | d::r,vs,ws,el,e=>by
  refine bsO e fun w e1 e=>?_;refine bsO e fun ws' e2 e=>?_;cases e;obtain⟨v,t,rfl,da,el⟩:=el.uncons;obtain⟨rfl,h⟩:=nN el e2;have hv:=iY da.ba e1;subst hv;exact⟨rfl,by rw[Qj,nL e1,h];rfl⟩
noncomputable def D.seq:D->Option (List D)
 | .lst ds=>some ds
 | .tup ds=>some ds
 | .fl ds=>some ds
 | _=>none
theorem my(h:BA K Y H v d)(e:d.seq=some ds):∃a vs,v=.ref a/\(SqL K H a vs∨SqT K H a vs)/\El K Y H vs ds:=by
 cases d with
 | lst _=>cases e;obtain⟨a,vs,h1,h2,h3⟩:=h;exact⟨a,vs,h1,.inl (.inl (.inl h2)),h3⟩
 | tup _=>cases e;obtain⟨a,vs,h1,h2,h3⟩:=h;exact⟨a,vs,h1,.inr h2.sq,h3⟩
 | fl _=>cases e;obtain⟨a,vs,h1,h2,h3⟩:=h;exact⟨a,vs,h1,.inl h2.sq,h3⟩
 | _=>cases e
noncomputable def mz(neg:Bool):D->D->Option Rz:=fun a b=>(scD a).bind fun x=>(b.seq).bind fun ds=>(ji ds).bind fun ws=>some (.bl (if neg then !inV x ws else inV x ws),false)
theorem sF(neg:Bool):RdOp K (rIn K neg) (mz neg):=by
 intro Y H x y d1 d2 z Q lv b1 b2 e q;refine bsO e fun x' e1 e=>?_;refine bsO e fun ds e2 e=>?_;refine bsO e fun ws e3 e=>?_;cases e;obtain⟨a,vs,rfl,sq,el⟩:=my b2 e2;obtain rfl:=iY b1 e1;obtain⟨rfl,h⟩:=nN el e3;exact⟨a,vs,rfl,sq,nL e1,h,q _ H (Same.refl H) (.bl _)⟩
noncomputable def bIn:=orD (nM false) (mz false)
noncomputable def g7:=orD (nM true) (mz true)
noncomputable def sG:D->D->Option Rz
 | .lst ds,.int i=>(atI ds i).bind fun d=>some (d,false)
 | .fl ds,.int i=>(atI ds i).bind fun d=>some (d,false)
 | _,_=>none
noncomputable def uQ:D->D->Option Rz
 | .tup ds,.int i=>(atI ds i).bind fun d=>some (d,false)
 | _,_=>none
noncomputable def xi:D->D->Option Rz
 | .str z,.int i=>if z.length<=1000000 then(atI z.cps.toList i).bind fun c=>some (.str ⟨#[c]⟩,false) else none
 | _,_=>none
theorem oP{i:Int}(el:El K Y H vs ds)(e:atI ds i=some d):∃v,atI vs i=some v/\DA K Y H v d:=by
 unfold atI at e ⊢;rw[el.1];refine bsO e fun j e1 e2=>?_;obtain⟨v,h1,h2⟩:=el.at e2;exact⟨v,by rw[e1];exact h1,h2⟩
theorem ro_ixL:RdOp K (wF K) sG:=by
 intro Y H x y d1 d2 z Q lv b1 b2 e q;cases d1 with
 | lst a =>
  cases d2 with
  | int i =>
   refine bsO e fun d e1 e=>?_;cases e;obtain⟨p,xs,rfl,hp,el⟩:=b1;obtain⟨v,h1,h2⟩:=oP el e1;exact⟨p,xs,i,v,rfl,b2,.inl (.inl hp),h1,q v H (Same.refl H) h2⟩
  | _=>cases e
 | fl a =>
  cases d2 with
  | int i =>
   refine bsO e fun d e1 e=>?_;cases e;obtain⟨p,xs,rfl,hp,el⟩:=b1;obtain⟨v,h1,h2⟩:=oP el e1;exact⟨p,xs,i,v,rfl,b2,hp.sq,h1,q v H (Same.refl H) h2⟩
  | _=>cases e
 | _=>cases e
theorem ro_ixT:RdOp K (wG K) uQ:=by
 intro Y H x y d1 d2 z Q lv b1 b2 e q;cases d1 with
 | tup a =>
  cases d2 with
  | int i =>
   refine bsO e fun d e1 e=>?_;cases e;obtain⟨p,xs,rfl,hp,el⟩:=b1;obtain⟨v,h1,h2⟩:=oP el e1;exact⟨p,xs,i,v,rfl,b2,hp.sq,h1,q v H (Same.refl H) h2⟩
  | _=>cases e
 | _=>cases e
theorem xj:RdOp K wH xi:=by
 intro Y H x y d1 d2 z Q lv b1 b2 e q;cases d1 with
 | str a =>
  cases d2 with
  | int i =>
   obtain⟨c,e⟩:=aC e;refine bsO e fun ch e1 e=>?_;cases e;exact⟨a,i,ch,b1,b2,few c,e1,q _ H (Same.refl H) (.str _)⟩
  | _=>cases e
 | _=>cases e
noncomputable def bIx:=orD sG (orD uQ xi)
theorem bn:RdOp K (rIx K) bIx:=ro_ixL.or (ro_ixT.or xj)
noncomputable abbrev FO:=En->Option (Option Int×En)
noncomputable def RdO(K:PySem.W.Frag)(t:TO)(f:FO):Prop:=∀(st:En)(σ:St)(H:Hp)(O Z:AS)(Q:Option Int->Hp->Prop),ER K st σ H O Z->∀c st',f st=some (c,st') ->
 (∀H' O',Ext O H O' H'->Kp st st'->ER K st' σ H' O' Z->Q c H')->t σ H Q
noncomputable def oNo:FO:=fun st=>some (none,st)
theorem mB:RdO K pT oNo:=by
 intro st σ H O Z Q E c st' e q;cases e;exact q H O (Ext.refl _ _) (Kp.refl _) E
noncomputable def asInt(st:En)(r:Rs):Option Int:=match cont st r with
 | some (.int i)=>some i
 | _=>none
noncomputable def ff(fe:FE):FO:=fun st=>(fe st).bind fun x=>(asInt x.2 x.1).bind fun i=>some (some i,x.2)
set_option tactic.hygienic true in
theorem cI{te:TE}{fe:FE}(h:RdE K te fe):RdO K (vD te) (ff fe):=by
 intro st σ H O Z Q E c st' e q;refine bsP e fun r st1 e1 e=>?_;refine bsO e fun i e2 e=>?_;cases e;refine h st σ H O Z _ E r _ e1 fun v H1 O1 x1 k1 E1 rv w=>?_;have ev:v=.int i:=by
  unfold asInt at e2;split at e2
  ·rename_i j ej
   cases e2;exact rv.ba E1 ej
  ·cases e2
 exact⟨i,ev,q H1 O1 x1 k1 E1⟩
noncomputable def RdSl(K:PySem.W.Frag)(r:V->Option Int->Option Int->Hp->VK->Prop)(b:D->Option Int->Option Int->Option Rz):Prop:=∀(Y:AS)(H:Hp)(x:V)(lo hi:Option Int)(d1:D)(z:Rz)(Q:VK),(∀p,Y p->Lv H p)->BA K Y H x d1->b d1 lo hi=some z ->
 (∀v H',Same H H'->RES K Y H H' v z->Q v H')->r x lo hi H Q
noncomputable def fSl(b:D->Option Int->Option Int->Option Rz)(fe:FE)(fl fh:FO):FE:=fun st=>(fe st).bind fun x=>(fl x.2).bind fun l=>(fh l.2).bind fun u=>(cont u.2 x.1).bind fun d=>(b d l.1 u.1).bind fun z=>some (mk z,u.2)
theorem ee{r:V->Option Int->Option Int->Hp->VK->Prop}{b:D->Option Int->Option Int->Option Rz}{te:TE}{fe:FE}{tl th:TO}{fl fh:FO}(hr:RdSl K r b)(he:RdE K te fe)(hl:RdO K tl fl)(hh:RdO K th fh):RdE K (tSl r te tl th) (fSl b fe fl fh):=by
 intro st σ H O Z Q E r' st' h q;refine bsP h fun r1 st1 e1 h=>?_;refine bsP h fun lo st2 e2 h=>?_;refine bsP h fun hi st3 e3 h=>?_;refine bsO h fun d1 e4 h=>?_;refine bsO h fun z e5 h=>?_;cases h;refine he st σ H O Z _ E r1 st1 e1 fun v1 H1 O1 x1 k1 E1 rv1 w1=>?_;refine hl st1 σ H1 O1 Z _ E1 lo st2 e2 fun H2 O2 x2 k2 E2=>?_;refine hh st2 σ H2 O2 Z _ E2 hi _ e3 fun H3 O3 x3 k3 E3=>?_;have b1:=(rv1.nf.ext (x2.trans x3) (k2.trans k3)).ba E3 (by rw[dG];exact e4)
 refine hr (U O3 Z) H3 v1 lo hi d1 z _ E3.liv b1 e5 fun v H4 s hres=>?_;obtain⟨E4,rv4⟩:=hres.rv E3 s;have xx:=(x1.trans x2).trans x3;exact q v H4 O3 (xx.trans (Same.ext s)) ((k1.trans k2).trans k3) E4 rv4 (hres.fsh.back xx)
noncomputable def cutD(xs:List D)(lo hi:Option Int):List D:=(xs.drop (HT.sIx xs.length 0 lo)).take (HT.sIx xs.length xs.length hi-HT.sIx xs.length 0 lo)
theorem El.cut(el:El K Y H vs ds)(lo hi:Option Int):El K Y H (nE vs lo hi) (cutD ds lo hi):=by
 unfold nE cutD;rw[el.1];exact(el.drop _).take _
noncomputable def orS(b b':D->Option Int->Option Int->Option Rz):D->Option Int->Option Int->Option Rz:=fun x l h=>match b x l h with
 | some z=>some z
 | none=>b' x l h
set_option tactic.hygienic true in
theorem RdSl.or{r r':V->Option Int->Option Int->Hp->VK->Prop}{b b':D->Option Int->Option Int->Option Rz}(h:RdSl K r b)(h':RdSl K r' b'):RdSl K (fun x lo hi H Q=>r x lo hi H Q∨r' x lo hi H Q) (orS b b'):=by
 intro Y H x lo hi d1 z Q lv b1 e q;unfold orS at e;split at e
 ·rename_i z' ez
  cases e;exact .inl (h Y H x lo hi d1 z Q lv b1 ez q)
 ·exact .inr (h' Y H x lo hi d1 z Q lv b1 e q)
noncomputable def xk:D->Option Int->Option Int->Option Rz
 | .lst ds,lo,hi=>some (.lst (cutD ds lo hi),true)
 | .fl ds,lo,hi=>some (.lst (cutD ds lo hi),true)
 | _,_,_=>none
theorem yB:RdSl K (wJ K) xk:=by
 intro Y H x lo hi d1 z Q lv b1 e q;cases d1 with
 | lst a =>
  cases e;obtain⟨p,xs,rfl,hp,el⟩:=b1;exact⟨p,xs,rfl,.inl (.inl hp),fun r hr=>q _ _ (aX hr _) (gx (el.cut lo hi) hr)⟩
 | fl a =>
  cases e;obtain⟨p,xs,rfl,hp,el⟩:=b1;exact⟨p,xs,rfl,hp.sq,fun r hr=>q _ _ (aX hr _) (gx (el.cut lo hi) hr)⟩
 | _=>cases e
noncomputable def sH:D->Option Int->Option Int->Option Rz
 | .tup ds,lo,hi=>if HT.sIx ds.length 0 lo=0/\HT.sIx ds.length ds.length hi=ds.length then none else some (.tup (cutD ds lo hi),false)
 | _,_,_=>none
theorem yC:RdSl K (wD K) sH:=by
 intro Y H x lo hi d1 z Q lv b1 e q;cases d1 with
 | tup a =>
  by_cases c:HT.sIx a.length 0 lo=0/\HT.sIx a.length a.length hi=a.length
  ·simp only[sH,if_pos c]at e;cases e
  ·simp only[sH,if_neg c]at e;cases e;obtain⟨p,xs,rfl,hp,el⟩:=b1;exact⟨p,xs,rfl,hp.sq,by rw[el.1];exact c,fun r hr=>q _ _ (aX hr _) (fT (el.cut lo hi) hr lv)⟩
 | _=>cases e
noncomputable def xl:D->Option Int->Option Int->Option Rz
 | .str z,lo,hi=>if z.length<=1000000 then some (.str (Txt.slice z lo hi),false) else none
 | _,_,_=>none
theorem yD:RdSl K (fun x lo hi H Q=>∃z:Str,x=.str z/\z.length<=sizeLine/\Q (.str (Txt.slice z lo hi)) H) xl:=by
 intro Y H x lo hi d1 z Q lv b1 e q;cases d1 with
 | str a =>
  obtain⟨c,e⟩:=aC e;cases e;exact⟨a,b1,few c,q _ H (Same.refl H) (.str _)⟩
 | _=>cases e
noncomputable def bSl:=orS xk (orS sH xl)
noncomputable def sI:List D->Option Rz
 | [d]=>(d.seq).bind fun ds=>some (.int ds.length,false)
 | _=>none
theorem rc_lenQ:RdCB K (fun xs H Q=>∃p ys,xs=[.ref p]/\(SqL K H p ys∨SqT K H p ys)/\Q (.int ys.length) H) sI:=by
 intro Y H xs ds z Q lv bs e q;cases bs with
 | nil=>cases e
 | cons b1 bs =>
  cases bs with
  | cons _ _=>cases e
  | nil =>
   refine bsO e fun es e1 e=>?_;cases e;obtain⟨a,vs,rfl,sq,el⟩:=my b1 e1;refine⟨a,vs,rfl,sq,?_⟩;rw[el.1];exact q _ H (Same.refl H) (.int _)
noncomputable def sJ:List D->Option Rz
 | [.str z]=>if z.length<=1000000 then some (.int z.length,false) else none
 | _=>none
theorem uR:RdCB K (fun xs H Q=>∃z:Str,xs=[.str z]/\z.length<=sizeLine/\Q (.int z.length) H) sJ:=by
 intro Y H xs ds z Q lv bs e q;cases bs with
 | nil=>cases e
 | @cons v vs d ds b1 bs =>
  cases bs with
  | cons _ _=>cases d<;>cases e
  | nil =>
   cases d with
   | str a =>
    obtain⟨c,e⟩:=aC e;cases e;exact⟨a,by rw[show v=V.str a from b1],few c,q _ H (Same.refl H) (.int _)⟩
   | _=>cases e
noncomputable def g8:=orC sI sJ
noncomputable def vR:List D->Option Rz
 | [d]=>(d.seq).bind fun ds=>some (.lst ds,true)
 | _=>none
theorem rc_list:RdCB K (fun xs H Q=>∃p ys,xs=[.ref p]/\(SqL K H p ys∨SqT K H p ys)/\∀l,H l=none->Q (.ref l) (upd H l (.lst ys))) vR:=by
 intro Y H xs ds z Q lv bs e q;cases bs with
 | nil=>cases e
 | cons b1 bs =>
  cases bs with
  | cons _ _=>cases e
  | nil =>
   refine bsO e fun es e1 e=>?_;cases e;obtain⟨a,vs,rfl,sq,el⟩:=my b1 e1;exact⟨a,vs,rfl,sq,fun r hr=>q _ _ (aX hr _) (gx el hr)⟩
noncomputable def sK:List D->Option Rz
 | [.lst ds]=>some (.tup ds,false)
 | [.fl ds]=>some (.tup ds,false)
 | [.tup ds]=>some (.tup ds,false)
 | _=>none
theorem rc_tuple:RdCB K (fun xs H Q=>∃p ys,xs=[.ref p]/\((SqL K H p ys/\∀l,H l=none->Q (.ref l) (upd H l (.tup ys)))∨(SqT K H p ys/\Q (.ref p) H))) sK:=by
 intro Y H xs ds z Q lv bs e q;cases bs with
 | nil=>cases e
 | @cons v vs d ds b1 bs =>
  cases bs with
  | cons _ _=>cases d<;>cases e
  | nil =>
   cases d with
   | lst a =>
    cases e;obtain⟨p,xs,rfl,hp,el⟩:=b1;exact⟨p,xs,rfl,.inl ⟨.inl (.inl hp),fun r hr=>q _ _ (aX hr _) (fT el hr lv)⟩⟩
   | fl a =>
    cases e;obtain⟨p,xs,rfl,hp,el⟩:=b1;exact⟨p,xs,rfl,.inl ⟨hp.sq,fun r hr=>q _ _ (aX hr _) (fT el hr lv)⟩⟩
   | tup a =>
    cases e;obtain⟨p,xs,rfl,hp,el⟩:=b1;exact⟨p,xs,rfl,.inr ⟨hp.sq,q _ H (Same.refl H) (.tup hp el.1 el.2)⟩⟩
   | _=>cases e
noncomputable def iu:List D->Option (List Bool)
 | []=>some []
 | .bl b::r=>(iu r).bind fun bs=>some (b::bs)
 | _=>none
theorem nO:∀{ds:List D}{vs:List V}{bs:List Bool},El K Y H vs ds->iu ds=some bs->vs=bs.map V.bl
 | [],vs,bs,el,e=>by cases e;exact el.unnil
 | d::r,vs,bs,el,e=>by
  obtain⟨v,t,rfl,da,el2⟩:=el.uncons;cases d with
  | bl b =>
   refine bsO e fun bs' e1 e=>?_;cases e;have h:=nO el2 e1;rw[h,show v=V.bl b from da.ba];rfl
  | _=>cases e
noncomputable def qZ:List D->Option Rz
 | [.lst ds]=>(iu ds).bind fun bs=>some (.bl (bs.all id),false)
 | _=>none
theorem oQ:RdCB K (fun xs H Q=>∃(p:Addr)(bs:List Bool),xs=[.ref p]/\SqL K H p (bs.map V.bl)/\Q (.bl (bs.all id)) H) qZ:=by
 intro Y H xs ds z Q lv bs e q;cases bs with
 | nil=>cases e
 | @cons v vs d ds b1 bs =>
  cases bs with
  | cons _ _=>cases d<;>cases e
  | nil =>
   cases d with
   | lst a =>
    refine bsO e fun bs e1 e=>?_;cases e;obtain⟨p,xs,rfl,hp,el⟩:=b1;obtain rfl:=nO el e1;exact⟨p,bs,rfl,.inl (.inl hp),q _ H (Same.refl H) (.bl _)⟩
   | _=>cases e
noncomputable def sL(K:PySem.W.Frag)(r:V->List V->Hp->VK->Prop)(b:D->List D->Option Rz):Prop:=∀(Y:AS)(H:Hp)(x:V)(xs:List V)(d:D)(ds:List D)(z:Rz)(Q:VK),(∀p,Y p->Lv H p)->BA K Y H x d->BAs K Y H xs ds->b d ds=some z ->
 (∀v H',Same H H'->RES K Y H H' v z->Q v H')->r x xs H Q
noncomputable def xn(T:String):D->Bool
 | .str _=>decide (T="str")
 | .lst _=>decide (T="list")
 | .dk _=>decide (T="dict")
 | .dt _=>decide (T="dict")
 | _=>false
theorem yE{T:String}(h:BA K Y H v d)(e:xn T d=true):tyV K T v H:=by
 cases d with
 | str x =>
  have e':T="str":=of_decide_eq_true e;rw[show v=V.str x from h];exact e'
 | lst x=>obtain⟨a,vs,rfl,h1,_⟩:=h;exact .inl ⟨of_decide_eq_true e,vs,.inl (.inl h1)⟩
 | dk x=>obtain⟨a,vs,rfl,h1,_⟩:=h;exact .inr (.inr (.inl ⟨of_decide_eq_true e,.inl ⟨vs,h1⟩⟩))
 | dt x=>obtain⟨a,ep,vs,rfl,_,h1,_⟩:=h;exact .inr (.inr (.inl ⟨of_decide_eq_true e,.inr ⟨ep,vs,h1⟩⟩))
 | _=>cases e
noncomputable def fBM(T:String)(b:D->List D->Option Rz)(fo:FE)(fa:FA):FE:=fun st=>(fo st).bind fun x=>(cont x.2 x.1).bind fun d0=>if xn T d0=true then(fa x.2).bind fun y=>(cont y.2 x.1).bind fun d=>(cf y.2 y.1).bind fun ds=>(b d ds).bind fun z=>some (mk z,y.2) else none
theorem gL{T:String}{r:V->List V->Hp->VK->Prop}{b:D->List D->Option Rz}{to:TE}{fo:FE}{ta:TA}{fa:FA}(hr:sL K r b)(ho:RdE K to fo)(ha:RdA K ta fa):RdE K (tBM K T r to ta) (fBM T b fo fa):=by
 intro st σ H O Z Q E r' st' h q;refine bsP h fun r1 st1 e1 h=>?_;refine bsO h fun d0 e2 h=>?_;obtain⟨c,h⟩:=aC h;refine bsP h fun rs st2 e3 h=>?_;refine bsO h fun d e4 h=>?_;refine bsO h fun ds e5 h=>?_;refine bsO h fun z e6 h=>?_;cases h;refine ho st σ H O Z _ E r1 st1 e1 fun v1 H1 O1 x1 k1 E1 rv1 w1=>⟨yE (rv1.ba E1 e2) c,?_⟩;refine ha st1 σ H1 O1 Z _ E1 rs _ e3 fun vs H2 O2 x2 k2 E2 rvs=>?_;have b1:=(rv1.nf.ext x2 k2).ba E2 (by rw[dG];exact e4)
 refine hr (U O2 Z) H2 v1 vs d ds z _ E2.liv b1 (rvs.bas E2 e5) e6 fun v H3 s hres=>?_;obtain⟨E3,rv3⟩:=hres.rv E2 s;exact q v H3 O2 ((x1.trans x2).trans (Same.ext s)) (k1.trans k2) E3 rv3 (hres.fsh.back (x1.trans x2))
noncomputable def eG:List D->Option (List Str)
 | []=>some []
 | .str x::r=>(eG r).bind fun xs=>some (x::xs)
 | _=>none
theorem iZ:∀{ds:List D}{vs:List V}{xs:List Str},El K Y H vs ds->eG ds=some xs->vs=xs.map V.str
 | [],vs,xs,el,e=>by cases e;exact el.unnil
 | d::r,vs,xs,el,e=>by
  obtain⟨v,t,rfl,da,el2⟩:=el.uncons;cases d with
  | str b =>
   refine bsO e fun xs' e1 e=>?_;cases e;have h:=iZ el2 e1;rw[h,show v=V.str b from da.ba];rfl
  | _=>cases e
noncomputable def jZ:D->List D->Option Rz
 | .str sep,[.lst ds]=>(eG ds).bind fun ys=>if (ys.map (·.length)).sum+ys.length*sep.length<=16777216 then some (.str (Txt.join sep ys),false) else none
 | _,_=>none
theorem mC:sL K (fun x vs H Q=>∃(sep:Str)(p:Addr)(ys:List Str),x=.str sep/\vs=[.ref p]/\SqL K H p (ys.map V.str)/\(ys.map (·.length)).sum+ys.length*sep.length<=16777216/\Q (.str (Txt.join sep ys)) H) jZ:=by
 intro Y H x xs d ds z Q lv b1 bs e q;cases d with
 | str sep =>
  cases bs with
  | nil=>cases e
  | @cons v vs d ds b2 bs =>
   cases bs with
   | cons _ _=>cases d<;>cases e
   | nil =>
    cases d with
    | lst es =>
     refine bsO e fun ys e1 e=>?_;obtain⟨c,e⟩:=aC e;cases e;obtain⟨p,ws,rfl,hp,el⟩:=b2;obtain rfl:=iZ el e1;exact⟨sep,p,ys,b1,rfl,.inl (.inl hp),c,q _ H (Same.refl H) (.str _)⟩
    | _=>cases e
 | _=>cases e
noncomputable def qc:D->List D->Option Rz
 | .str a,[.str b]=>some (.bl (Txt.startswith a b),false)
 | _,_=>none
theorem q0:sL K (fun x vs H Q=>∃(a b:Str),x=.str a/\vs=[.str b]/\Q (.bl (Txt.startswith a b)) H) qc:=by
 intro Y H x xs d ds z Q lv b1 bs e q;cases d with
 | str a =>
  cases bs with
  | nil=>cases e
  | @cons v vs d ds b2 bs =>
   cases bs with
   | cons _ _=>cases d<;>cases e
   | nil =>
    cases d with
    | str b=>cases e;exact⟨a,b,b1,by rw[show v=V.str b from b2],q _ H (Same.refl H) (.bl _)⟩
    | _=>cases e
 | _=>cases e
noncomputable def isL:D->Bool
 | .lst _=>true
 | _=>false
theorem tyL{p:Addr}{x:D}(h:OA K Y H p x)(e:isL x=true):tyV K "list" (.ref p) H:=by
 cases x with
 | lst ds=>obtain⟨vs,h1,_⟩:=h;exact .inl ⟨rfl,vs,.inl (.inl h1)⟩
 | _=>cases e
theorem El.upd{p:Addr}{o:HO}(h:El K Y H vs ds)(hp:Y p):El K Y (L2.upd H p o) vs ds:=h.go (fun b u e n=>by
 have hb:b≠p:=fun z=>n (by rw[z];exact hp)
 rw[aM hb];exact e) fun b z=>.inl z
theorem DA.upd{p:Addr}{o:HO}(h:DA K Y H v d)(hp:Y p):DA K Y (L2.upd H p o) v d:=h.go (fun b u e n=>by
 have hb:b≠p:=fun z=>n (by rw[z];exact hp)
 rw[aM hb];exact e) fun b z=>.inl z
noncomputable def bW:D->List D->Option (D×D)
 | .lst xs,[y]=>if xs.length<1000000 then some (.non,.lst (xs++[y])) else none
 | _,_=>none
theorem bV:RdM K "list" ml isL bW:=⟨fun Y H p x h e=>tyL h e,fun Y H p x vs ds y x' Q hp ho el e q=>by
 cases x with
 | lst xs =>
  cases ds with
  | nil=>cases e
  | cons d ds =>
   cases ds with
   | cons _ _=>cases e
   | nil =>
    obtain⟨c,e⟩:=aC e;cases e;obtain⟨ws,h1,h2⟩:=ho;obtain⟨v,r,rfl,da,el⟩:=el.uncons;obtain rfl:=el.unnil;exact⟨p,ws,v,rfl,rfl,h1,by rw[h2.1];exact few (by lia),q .non _ .non ⟨_,aZ,(h2.app (El.one da)).upd hp⟩⟩
 | _=>cases e⟩
noncomputable def mD:D->List D->Option (D×D)
 | .lst xs,[.int i]=>if -(2 ^ 63)<=i/\i<2 ^ 63 then(seqIndex? i xs.length).bind fun k=>(xs[k]?).bind fun y=>some (y,.lst (xs.eraseIdx k)) else none
 | _,_=>none
theorem sM:RdM K "list" rZ isL mD:=⟨fun Y H p x h e=>tyL h e,fun Y H p x vs ds y x' Q hp ho el e q=>by
 cases x with
 | lst xs =>
  cases ds with
  | nil=>cases e
  | cons d ds =>
   cases d with
   | int i =>
    cases ds with
    | cons _ _=>cases e
    | nil =>
     obtain⟨c,e⟩:=aC e;refine bsO e fun k e1 e=>?_;refine bsO e fun y' e2 e=>?_;cases e;obtain⟨ws,h1,h2⟩:=ho;obtain⟨v,r,rfl,da,el⟩:=el.uncons;obtain rfl:=el.unnil;obtain rfl:=(show v=V.int i from da.ba);obtain⟨u,g1,g2⟩:=h2.at e2;exact⟨p,ws,i,k,u,rfl,rfl,h1,c.1,c.2,by rw[h2.1];exact e1,g1,q u _ (g2.upd hp) ⟨_,aZ,(h2.erase k).upd hp⟩⟩
   | _=>cases ds<;>cases e
 | _=>cases e⟩
noncomputable def j0:D->D->D->Option D
 | .lst xs,.int k,v=>(ixN xs.length k).bind fun j=>some (.lst (xs.set j v))
 | _,_,_=>none
theorem cY:su K vE j0:=by
 intro Y H p x k v dk dv x' Q hp ho bk da e q;cases x with
 | lst xs =>
  cases dk with
  | int i =>
   refine bsO e fun j e1 e=>?_;cases e;obtain⟨ws,h1,h2⟩:=ho;exact⟨p,ws,i,j,rfl,bk,h1,by rw[h2.1];exact e1,q _ ⟨_,aZ,(h2.set da j).upd hp⟩⟩
  | _=>cases e
 | _=>cases e
noncomputable def fU(xs:List Str):FA:=fun st=>some (xs.map fun x=>.d (.str x),st)
theorem eI{xs:List Str}:RdA K (vI xs) (fU xs):=by
 intro st σ H O Z Q E rs st' e q;cases e;refine q _ H O (Ext.refl _ _) (Kp.refl _) E ?_;clear q;induction xs with
 | nil=>exact .nil
 | cons x r ih=>exact .cons (show DA K _ H (.str x) (.str x) from .str x) ih
end
end VF
namespace VF
open PySem PySem.Spec PyProof.Rows L2
section
variable {X:Cx}{K:PySem.W.Frag}{Y:AS}{H:Hp}{v:V}{d:D}{vs:List V}{ds:List D}
noncomputable def qd(K:PySem.W.Frag):R2:=fun x y H Q=>(rI0 fun i j=>.int (i+j)) x y H Q∨((∃i j,x=.str i/\y=.str j/\i.length+j.length<=sizeLine/\Q (.str (i++j)) H)∨(wM x y H Q∨rW K x y H Q))
theorem qf(h:X.K=K):OpR X (binaryOp .Add) (qd K):=op_add.or (op_add_str.or (op_cat.or (h ▸ uw)))
theorem ro_addA:RdOp K (qd K) bY:=ro_addI.or (ro_addS.or (ro_cat.or uO))
noncomputable def vS:R2:=fun x y H Q=>(rI CMul fun i j=>.int (i*j)) x y H Q∨(∃(a:Str)(n:Int),x=.str a/\y=.int n/\MulOk a n/\Q (.str (Txt.mul a n)) H)
theorem iw:OpR X (binaryOp .Mult) vS:=op_mul.or oK
theorem ix:RdOp K vS jz:=ro_mulI.or uP
noncomputable def yF:R2:=fun x y H Q=>(rI0 fun i j=>.bl (decide (i<j))) x y H Q∨(∃i j,x=.str i/\y=.str j/\Q (.bl (decide (i.cps.toList<j.cps.toList))) H)
theorem sN:OpR X (compareOp .Lt) yF:=op_lt.or qJ
theorem sO:RdOp K yF bLt:=ro_ltI.or xh
noncomputable def yG(K:PySem.W.Frag):R2:=fun x y H Q=>(∃i j,x=.str i/\y=.str j/\Q (.bl (!(Builtin.Str.occurrences j i 0 j.length 1).isEmpty)) H)∨rIn K false x y H Q
theorem oR(h:X.K=K):OpR X (compareOp .In) (yG K):=op_in_str.or (h ▸ qO)
theorem oS:RdOp K (yG K) bIn:=ro_inS.or (sF false)
noncomputable def qg(K:PySem.W.Frag):R2:=fun x y H Q=>(∃i j,x=.str i/\y=.str j/\Q (.bl (!(!(Builtin.Str.occurrences j i 0 j.length 1).isEmpty))) H)∨rIn K true x y H Q
theorem lj(h:X.K=K):OpR X (compareOp .NotIn) (qg K):=op_notin_str.or (h ▸ mf)
theorem ll:RdOp K (qg K) g7:=ro_notinS.or (sF true)
noncomputable def bEq:=uM false
theorem cg:RdOp K rEq bEq:=xc
noncomputable def yH:D->D->Option Rz
 | .lst xs,.lst []=>some (.bl (!xs.isEmpty),false)
 | _,_=>none
noncomputable def yI(K:PySem.W.Frag):R2:=fun x y H Q=>∃(a b:Addr)(xs:List V),x=.ref a/\y=.ref b/\SqL K H a xs/\SqL K H b []/\Q (.bl (!xs.isEmpty)) H
theorem xo:RdOp K (yI K) yH:=by
 intro Y H x y d1 d2 z Q lv b1 b2 e q;cases d1 with
 | lst xs =>
  cases d2 with
  | lst ys =>
   cases ys with
   | nil =>
    cases e;obtain⟨p,ws,rfl,hp,el⟩:=b1;obtain⟨p2,zs,rfl,hp2,el2⟩:=b2;obtain rfl:=el2.unnil;refine⟨p,p2,ws,rfl,rfl,.inl (.inl hp),.inl (.inl hp2),?_⟩;have e:ws.isEmpty=xs.isEmpty:=by
     cases ws with
     | nil=>cases xs with
      | nil=>rfl
      | cons _ _=>cases el.1
     | cons _ _=>cases xs with
      | nil=>cases el.1
      | cons _ _=>rfl
    rw[e];exact q _ H (Same.refl H) (.bl _)
   | cons _ _=>cases e
  | _=>cases e
 | _=>cases e
noncomputable def bNe:=orD (uM true) yH
noncomputable def yJ(K:PySem.W.Frag):R2:=fun x y H Q=>rNe x y H Q∨yI K x y H Q
theorem dR(h:X.K=K)(hu:X.A.units+64<cLine):OpR X (compareOp .NotEq) (yJ K):=op_ne.or (by subst h;exact wU (by lia))
theorem dS:RdOp K (yJ K) bNe:=ro_neS.or xo
noncomputable def xp(K:PySem.W.Frag):V->Option Int->Option Int->Hp->VK->Prop:=fun x lo hi H Q=>wJ K x lo hi H Q∨(wD K x lo hi H Q∨(∃z:Str,x=.str z/\z.length<=sizeLine/\Q (.str (Txt.slice z lo hi)) H))
theorem mE(h:X.K=K):SlR X (xp K):=SlR.or (h ▸ ux) (SlR.or (h ▸ wE) wS)
theorem jI:RdSl K (xp K) bSl:=RdSl.or yB (RdSl.or yC yD)
noncomputable def sP(K:PySem.W.Frag):List V->Hp->VK->Prop:=fun xs H Q=>(∃p ys,xs=[.ref p]/\(SqL K H p ys∨SqT K H p ys)/\Q (.int ys.length) H)∨(∃z:Str,xs=[.str z]/\z.length<=sizeLine/\Q (.int z.length) H)
theorem q8(h:X.K=K):CallR X (.builtin "len") (sP K):=CallR.or (h ▸ mh) mi
theorem fV:RdCB K (sP K) g8:=rc_lenQ.or uR
theorem sQ(z:Str):El K Y H (sgn z) (jV z):=by
 refine⟨by simp[sgn,jV],fun i v d h1 h2=>?_⟩
 unfold sgn at h1;unfold jV at h2;rw[Vd]at h1 h2;obtain⟨c,e1,rfl⟩:=Zg.mp h1;rw[e1]at h2;obtain rfl:=Option.some.inj h2;exact .str _
noncomputable def sR:List D->Option Rz
 | [.str z]=>if z.cps.size<=1000000 then some (.lst (jV z),true) else none
 | _=>none
noncomputable def sS:List V->Hp->VK->Prop:=fun xs H Q=>∃z:Str,xs=[.str z]/\z.cps.size<=sizeLine/\∀l,H l=none->Q (.ref l) (upd H l (.lst (sgn z)))
theorem sT:RdCB K sS sR:=by
 intro Y H xs ds z Q lv bs e q;cases bs with
 | nil=>cases e
 | @cons v vs d ds b1 bs =>
  cases bs with
  | cons _ _=>cases d<;>cases e
  | nil =>
   cases d with
   | str a =>
    obtain⟨c,e⟩:=aC e;cases e;exact⟨a,by rw[show v=V.str a from b1],few c,fun r hr=>q _ _ (aX hr _) (gx (sQ a) hr)⟩
   | _=>cases e
noncomputable def qh:List D->Option Rz
 | [.str z]=>if z.cps.size<=1000000 then some (.tup (jV z),false) else none
 | _=>none
noncomputable def qi:List V->Hp->VK->Prop:=fun xs H Q=>∃z:Str,xs=[.str z]/\z.cps.size<=sizeLine/\∀l,H l=none->Q (.ref l) (upd H l (.tup (sgn z)))
theorem q9:RdCB K qi qh:=by
 intro Y H xs ds z Q lv bs e q;cases bs with
 | nil=>cases e
 | @cons v vs d ds b1 bs =>
  cases bs with
  | cons _ _=>cases d<;>cases e
  | nil =>
   cases d with
   | str a =>
    obtain⟨c,e⟩:=aC e;cases e;exact⟨a,by rw[show v=V.str a from b1],few c,fun r hr=>q _ _ (aX hr _) (fT (sQ a) hr lv)⟩
   | _=>cases e
noncomputable def j4:=orC vR sR
noncomputable def cT:=orC sK qh
noncomputable def sU(K:PySem.W.Frag):List V->Hp->VK->Prop:=fun xs H Q=>(∃p ys,xs=[.ref p]/\(SqL K H p ys∨SqT K H p ys)/\∀l,H l=none->Q (.ref l) (upd H l (.lst ys)))∨sS xs H Q
noncomputable def mF(K:PySem.W.Frag):List V->Hp->VK->Prop:=fun xs H Q=>(∃p ys,xs=[.ref p]/\((SqL K H p ys/\∀l,H l=none->Q (.ref l) (upd H l (.tup ys)))∨(SqT K H p ys/\Q (.ref p) H)))∨qi xs H Q
theorem eJ(h:X.K=K)(hc:X.calm=true):CallR X (.type "list") (sU K):=CallR.or (h ▸ mj) (jS hc)
theorem nP(h:X.K=K)(hc:X.calm=true):CallR X (.type "tuple") (mF K):=CallR.or (h ▸ kO) (jw hc)
theorem iz:RdCB K (sU K) j4:=rc_list.or sT
theorem cA:RdCB K (mF K) cT:=rc_tuple.or q9
noncomputable def tyN:D->String
 | .non=>"NoneType"
 | .bl _=>"bool"
 | .int _=>"int"
 | .str _=>"str"
 | .tup _=>"tuple"
 | .lst _=>"list"
 | .fl _=>"list"
 | .dk _=>"dict"
 | .dt _=>"dict"
 | .ty _=>"type"
noncomputable def sV(n T:String):Bool:=n == T||(n == "bool"&&T == "int")
theorem xq:∀n∈["NoneType","bool","int","str","tuple","list","dict"],∀T∈["bool","int","str","tuple","list","dict"],
  (if (Value.type n == Value.type T)=true then some true else if PySem.W.kitMeta T=true then(fastBuiltinMro n).map (·.contains (Value.type T)) else none)=some (sV n T):=by decide +kernel
noncomputable def zz:List D->Option Rz
 | [d,.ty T]=>if (["bool","int","str","tuple","list","dict"].contains T&&tyN d != "type")=true then some (.bl (sV (tyN d) T),false) else none
 | _=>none
noncomputable def bF:=zz
noncomputable def xt(K:PySem.W.Frag):List V->Hp->VK->Prop:=fun xs H Q=>∃(Y:AS)(x:V)(d:D)(T:String),xs=[x,.ty T]/\BA K Y H x d/\(["bool","int","str","tuple","list","dict"].contains T&&tyN d != "type")=true/\Q (.bl (sV (tyN d) T)) H
theorem bc:RdCB K (xt K) bF:=by
 intro Y H xs ds z Q lv bs e q;cases bs with
 | nil=>cases e
 | @cons v vs d ds b1 bs =>
  cases bs with
  | nil=>cases e
  | @cons v2 vs2 d2 ds2 b2 bs =>
   cases bs with
   | cons _ _=>cases d2<;>cases e
   | nil =>
    cases d2 with
    | ty T =>
     obtain⟨c,e⟩:=aC e;cases e;exact⟨Y,v,d,T,by rw[show v2=V.ty T from b2],b1,c,q _ H (Same.refl H) (.bl _)⟩
    | _=>cases e
theorem mG(h:X.K=K):CallR X (.builtin "isinstance") (xt K):=by
 subst h;intro pins s σ H xs us Q I rv h;obtain⟨Y,x,d,T,rfl,b1,c,q⟩:=h;obtain⟨u,w',rfl,rx,ry⟩:=vals2 rv;cases (show w'=Value.type T from ry);rw[Xe]at c;have hT:T∈["bool","int","str","tuple","list","dict"]:=List.contains_iff_mem.mp c.1;refine bu ?_;have fin:∀tk,s.toks<=tk->EP X pins σ Q (.bool (sV (tyN d) T)) { s with toks:=tk }:=fun tk hle=>⟨.bl _,H,I.tok tk (I.tkl' hle),rfl,q⟩;have ko:∀n∈["NoneType","bool","int","str","tuple","list","dict"],tyN d=n->PySem.W.kitOne X.K (.type n) (.type T)=some (sV (tyN d) T):=fun n hn e=>by
  rw[e];exact wT (xq n hn T hT)
 cases d with
 | non =>
  obtain rfl:=(show x=V.non from b1);exact cx I rx .non (ko "NoneType" (by decide) rfl) fin
 | bl b =>
  obtain rfl:=(show x=V.bl b from b1);exact cx I rx (.bl b) (ko "bool" (by decide) rfl) fin
 | int i =>
  obtain rfl:=(show x=V.int i from b1);exact cx I rx (.int i) (ko "int" (by decide) rfl) fin
 | str z =>
  obtain rfl:=(show x=V.str z from b1);exact cx I rx (.str z) (ko "str" (by decide) rfl) fin
 | ty n=>exact absurd c.2 (by simp[tyN])
 | lst ds =>
  obtain⟨a,vs,rfl,h1,_⟩:=b1;exact cx I rx (.lst h1) (ko "list" (by decide) rfl) fin
 | fl ds =>
  obtain⟨a,vs,rfl,h1,_⟩:=b1;cases (show u=Value.ref a from rx);obtain⟨its,_,pl,_⟩:=I.list h1.sq;obtain⟨o,ho,hc,_⟩:=pl.isList;exact PySem.W.kia_one PySem.W.kitx_list I.kIn ⟨o,ho,hc⟩ (ko "list" (by decide) rfl) (fun z=>nomatch z) fin
 | tup ds =>
  obtain⟨a,vs,rfl,h1,_⟩:=b1;cases (show u=Value.ref a from rx);obtain⟨its,_,pl,_⟩:=I.tuple h1.sq;obtain⟨o,ho,hc,_⟩:=pl;exact PySem.W.kia_one PySem.W.kitx_tuple I.kIn ⟨o,ho,hc⟩ (ko "tuple" (by decide) rfl) (fun z=>nomatch z) fin
 | dk ds =>
  obtain⟨a,vs,rfl,h1,_⟩:=b1;exact cx I rx (.dK h1) (ko "dict" (by decide) rfl) fin
 | dt ds =>
  obtain⟨a,ep,vs,rfl,_,h1,_⟩:=b1;exact cx I rx (.dT h1) (ko "dict" (by decide) rfl) fin
theorem jA(l:Addr)(its:Array Value)(n:Nat)(b:Addr)(more:Array Value)(m:Nat)(dd:Option Addr)(sl:Array (Option Value))(h0:¬(!its.isEmpty&&Builtin.List.listTooLong (its.size+more.size))=true)(h1:its.size<=sizeLine)(h2:its.size+more.size<=sizeLine+1) :
  Meets (Builtin.«list.extend» ⟨[.ref l,.ref b],[]⟩) (fun _ R s=>s.heap.get? l=some { cls:=.type "list",dict:=none,data:=.seq its n,slots:=#[] }/\s.heap.get? b=some { cls:=.type "tuple",dict:=dd,data:=.seq more m,slots:=sl }/\R (.ok (.ret Value.none)) { s with heap:=s.heap.update l (Obj.mapSeq fun x=>x++more),toks:=s.toks }) :=
 .of_wp fun prog w A R s0 hh=>by
  obtain⟨hp,gg,dp,tks,oo⟩:=s0;obtain⟨hl,hb,hR⟩:=hh;have a1:=AutoSeq1.idx_int;have a2:=AutoSeq1.sub_tuple_tuple;have a3:=AutoSeq1.sub_list_list;have a4:=AutoSeq1.sub_tuple_list;have a5:=AutoSeq1.sub_list_tuple;have fits:(its++more).size<=sizeLine+1:=by
   rw[Array.size_append];exact h2
  wp_walk using (wpAny_updateSeq hl rfl (hz:=h1) (_hz':=fits)),wpAny_loadPart' hl,wpAny_loadPart' hb
  exact⟨_,rfl,hR⟩
noncomputable def vT(K:PySem.W.Frag):V->List V->Hp->VK->Prop:=fun x vs H Q=>∃l b xs zs,x=.ref l/\vs=[.ref b]/\H l=some (.lst xs)/\SqT K H b zs/\xs.length+zs.length<=sizeLine/\Q .non (upd H l (.lst (xs++zs)))
theorem uS(h:X.K=K):MtM X "list.extend" (vT K):=by
 subst h;intro pins s σ H x vs v us Q I rx rv h;obtain⟨l,b,xs,zs,rfl,rfl,hH,hB,hz,q⟩:=h;cases rx;obtain⟨u,rfl,ru⟩:=rv.one;cases ru;obtain⟨z,its,n,r,hl,e⟩:=I.lstM hH;obtain⟨its2,r2,pl,hz2⟩:=I.tuple hB;obtain⟨⟨c2,dd2,d2,sl2⟩,ho2,hc2,n2,hd2⟩:=id pl;obtain rfl:c2=.type "tuple":=hc2;obtain rfl:d2=.seq its2.toArray n2:=hd2;have hl2:=r2.length;have hsz:its.toArray.size+its2.toArray.size<=sizeLine:=by rw[Qa,Qa];lia
 have hlong:¬ (!its.toArray.isEmpty&&Builtin.List.listTooLong (its.toArray.size+its2.toArray.size))=true:=by
  rw[nF hsz,Bool.and_false];exact Qb
 refine call_meets F.slot_list_extend ⟨_,e,rfl⟩ F.entry_list_extend (F.args_list_extend_2 _ _)
  (jA l its.toArray n b its2.toArray n2 dd2 sl2 hlong (by rw[Qa];lia) (by lia)) ⟨e,ho2,?_⟩
 refine⟨.non,_,I.lset (its':=its++its2) hH e (by simp) (r.append r2) ?_,rfl,q⟩
 rw[Za];lia
noncomputable def vU(K:PySem.W.Frag):V->List V->Hp->VK->Prop:=fun x vs H Q=>pW x vs H Q∨vT K x vs H Q
theorem oU(h:X.K=K)(_:X.calm=true):MtM X "list.extend" (vU K):=by
 intro pins s σ H x vs v us Q I rx rv hh;rcases hh with hh|hh
 ·exact qQ pins s σ H x vs v us Q I rx rv hh
 ·exact uS h pins s σ H x vs v us Q I rx rv hh
noncomputable def mH:D->List D->Option (D×D)
 | .lst xs,[.lst ys]=>if xs.length+ys.length<=1000000 then some (.non,.lst (xs++ys)) else none
 | .lst xs,[.tup ys]=>if xs.length+ys.length<=1000000 then some (.non,.lst (xs++ys)) else none
 | _,_=>none
theorem rb:RdM K "list" (vU K) isL mH:=⟨fun Y H p x h e=>tyL h e,fun Y H p x vs ds y x' Q hp ho el e q=>by
 cases x with
 | lst xs =>
  cases ds with
  | nil=>cases e
  | cons d ds =>
   cases ds with
   | cons _ _=>cases d<;>cases e
   | nil =>
    obtain⟨ws,h1,h2⟩:=ho;obtain⟨v,r,rfl,da,el⟩:=el.uncons;obtain rfl:=el.unnil;cases d with
    | lst ys =>
     obtain⟨c,e⟩:=aC e;cases e;cases da with
     | @lst a us _ g0 g1 g2 g3=>exact .inl ⟨p,a,ws,us,rfl,rfl,h1,g1,by rw[h2.1,g2];exact few c,q .non _ .non ⟨_,aZ,(h2.app ⟨g2,g3⟩).upd hp⟩⟩
    | tup ys =>
     obtain⟨c,e⟩:=aC e;cases e;cases da with
     | @tup a us _ g1 g2 g3=>exact .inr ⟨p,a,ws,us,rfl,rfl,h1,g1.sq,by rw[h2.1,g2];exact few c,q .non _ .non ⟨_,aZ,(h2.app ⟨g2,g3⟩).upd hp⟩⟩
    | _=>cases e
 | _=>cases e⟩
noncomputable def yK(K:PySem.W.Frag)(tl:TE):TI:=fun σ H R=>pJ K tl σ H R∨(wq K tl σ H R∨wQ tl σ H R)
theorem ci{tg l:Expr}{tl:TE}(h:X.K=K)(hl:PE X l tl):PI X tg l (yK K tl):=by
 subst h;intro pins s σ H R I hh;rcases hh with hh|hh|hh
 ·exact ur hl pins s σ H R I hh
 ·exact wr hl pins s σ H R I hh
 ·exact wR hl pins s σ H R I hh
noncomputable def fIA(fe:FE):FI:=fun st=>match fIL fe st with
 | some z=>some z
 | none=>match fIT fe st with
  | some z=>some z
  | none=>fIS fe st
set_option tactic.hygienic true in
theorem cj{te:TE}{fe:FE}(h:RdE K te fe):RdI K (yK K te) (fIA fe):=by
 intro st σ H O Z R E items st' e q;unfold fIA at e;split at e
 ·rename_i z ez
  cases e;exact .inl (uJ h st σ H O Z R E items st' ez q)
 ·split at e
  ·rename_i z ez
   cases e;exact .inr (.inl (wX h st σ H O Z R E items st' ez q))
  ·exact .inr (.inr (wZ h st σ H O Z R E items st' e q))
theorem uT(xs:List Str):El K Y H (xs.map V.str) (xs.map D.str):=by
 refine⟨by simp,fun i v d h1 h2=>?_⟩
 rw[Vd]at h1 h2;obtain⟨c,e1,rfl⟩:=Zg.mp h1;rw[e1]at h2;obtain rfl:=Option.some.inj h2;exact .str _
end
end VF
namespace VF
open PySem L2
section
variable {K:PySem.W.Frag}
noncomputable def uU(g:D->List D->Option (Rz×D))(i:Nat)(dds:List D)(fr:FA):FE:=fun st=>(st[i]?).bind fun s0=>(s0.ow).bind fun _=>(fr st).bind fun x=>(cz x.1 x.2).bind fun y=>(y.2[i]?).bind fun s=>(s.ow).bind fun d=>(g d (y.1++dds)).bind fun z=>some (mk z.1,y.2.set i (s.put z.2))
theorem xu{g:D->List D->Option (Rz×D)}{i:Nat}{tr:TA}{fr:FA}{dvs:List V}{dds:List D}(hd:∀Y H,El K Y H dvs dds)(hr:RdA K tr fr):RdE K (vK (fP K g) dvs (fD (oA i) tr)) (uU g i dds fr):=by
 intro st σ H O Z Q E r0 st' h q;refine bsO h fun s0 f1 h=>?_;refine bsO h fun x0 f2 h=>?_;refine bsP h fun rs st1 e1 h=>?_;refine bsP h fun ds st2 e2 h=>?_;refine bsO h fun s e3 h=>?_;refine bsO h fun x e4 h=>?_;refine bsP h fun z x' e5 h=>?_;cases h;obtain⟨p,g1,_,_⟩:=E.own i s0 x0 f1 f2;refine⟨.ref p,g1,?_⟩;refine hr st σ H O Z _ E rs st1 e1 fun vs H1 O1 x1 k1 E1 rvs=>?_;obtain⟨O2,x2,k2,E2,el⟩:=rvs.esc E1 e2;exact jh E2 e3 e4 g1 (el.app (hd _ _)) e5 fun v H' O' ex kk E' rv w=>q v H' O' ((x1.trans x2).trans ex) ((k1.trans k2).trans kk) E' rv (w.back (x1.trans x2))
theorem cQ{X:Cx}{x:Str}{T:String}{pos:Pos}(hg:Gl X x)(hm:X.mg x=none)(hv:bootBuiltins x=some (.type T))(hn:x≠"__name__":=by decide)(hd:(x == ("__debug__":Str))=false:=by decide):PE X (.Name x pos) (tC (.ty T)):=um hg hm hv rfl hn hd
noncomputable def qj(K:PySem.W.Frag):Sp:=fun vs H Q _=>∃(a:Addr)(ns:List Int),vs=[.ref a]/\SqL K H a (ns.map V.int)/\ns.length<=63/\∀H',Q (.bl true) H'
end
end VF
namespace VF
open PySem L2
inductive Dp:Nat->D->Prop where
 | bl (n:Nat) (b:Bool):Dp (n+1) (.bl b)
 | int (n:Nat) (i:Int):Dp (n+1) (.int i)
 | str (n:Nat) (x:Str):Dp (n+1) (.str x)
 | non (n:Nat):Dp (n+1) .non
 | tup {n:Nat} {ds:List D}:ds.length<=1000000->(∀d∈ds,Dp n d)->Dp (n+1) (.tup ds)
 | lst {n:Nat} {ds:List D}:ds.length<=1000000->(∀d∈ds,Dp n d)->Dp (n+1) (.lst ds)
open Classical in
noncomputable def bz(n:Nat):List D->Option Rz
 | [u,v]=>if u=v/\Dp n u then some (.bl true,false) else none
 | _=>none
open Classical in
theorem de{n:Nat}{u:D}(h:Dp n u):bz n [u,u]=some (.bl true,false):=by
 show(if u=u/\Dp n u then some (D.bl true,false) else none)=_;rw[if_pos ⟨rfl,h⟩]
set_option tactic.hygienic true in
theorem ln{n:Nat}{ds:List D}{z:Rz}(h:bz n ds=some z):∃u,ds=[u,u]/\Dp n u/\z=(.bl true,false):=by
 unfold bz at h;split at h
 ·rename_i u v
  by_cases c:u=v/\Dp n u
  ·rw[if_pos c]at h;obtain⟨rfl,c⟩:=c;exact⟨u,rfl,c,(Option.some.inj h).symm⟩
  ·rw[if_neg c]at h;cases h
 ·cases h
end VF
namespace VF
open PySem L2
section
variable {st st1 st2 st3 s s1 s2:En}{r r1 r2:Rs}{d d1 d2 x y x':D}{ds es:List D}{rs:List Rs}{z:Rz}{o:Ot}{i k n m:Nat}{F G B:FS}{fa fb fe fi':FE}{fr:FA}{f g:FT}{fi:FI}{fg:FG}{caps:List Nat}
theorem ah{a:Option Ot}(h:F st=some (.nx s))(h2:G s=a):aA F G st=a:=by simp only[aA,h,Ya];exact h2
theorem g9(h:F st=some (.rt r s)):aA F G st=some (.rt r s):=by simp only[aA,h,Ya]
theorem eK{a:Option Ot}(h:f st=some (true,s))(h2:F s=a):sIf f F G st=a:=by simp only[sIf,h,Ya,if_true];exact h2
theorem ck{a:Option Ot}(h:f st=some (false,s))(h2:G s=a):sIf f F G st=a:=by simp only[sIf,h,Ya,Qd,if_false];exact h2
theorem b9(h:fe st=some (.d x,s))(h2:iX i (.v x) s=some s1):aY fe i st=some (.nx s1):=by simp only[aY,h,Ya,h2]
theorem j5(h:fe st=some (.f x,s))(h2:iX i (.o x) s=some s1):aY fe i st=some (.nx s1):=by simp only[aY,h,Ya,h2]
theorem b7(h:fe st=some (r,s)):cu fe st=some (.nx s):=by simp only[cu,h,Ya]
theorem bf(h:fe st=some (r,s)):bo fe st=some (.rt r s):=by simp only[bo,h,Ya]
theorem ax{b:D->D->Option Rz}(h1:fa st=some (r1,s1))(h2:fb s1=some (r2,s2))(h3:cont s2 r1=some d1)(h4:cont s2 r2=some d2)(h5:b d1 d2=some z)(hz:mk z=r:=by rfl):fOp b fa fb st=some (r,s2):=by
 simp only[fOp,h1,h2,h3,h4,h5,hz,Ya]
theorem az(h1:fa st=some (r,s1))(h2:fr s1=some (rs,s2)):ac fa fr st=some (r::rs,s2):=by simp only[ac,h1,h2,Ya]
theorem dI{b:List D->Option Rz}(h1:fr st=some (rs,s1))(h2:cf s1 rs=some ds)(h3:b ds=some z)(hz:mk z=r:=by rfl):fCB b fr st=some (r,s1):=by simp only[fCB,h1,h2,h3,hz,Ya]
theorem bL{b:List D->Option Rz}(h1:fr st=some (rs,s1))(h2:cz rs s1=some (ds,s2))(h3:b ds=some z)(hz:mk z=r:=by rfl):b8 b fr st=some (r,s2):=by simp only[b8,h1,h2,h3,hz,Ya]
theorem aT{b:List D->Option Rz}(h1:fr st=some (rs,s1))(h2:cf s1 rs=some ds)(h3:b ds=some (d,false))(h4:d.isSc=true):bm b fr st=some (.d d,s1):=by
 simp only[bm,h1,h2,h3,Ya,h4];rfl
theorem bh{b:D->List D->Option (Rz×D)}{t t0:Sl}{x0:D}(h0:st[i]?=some t0)(h00:t0.ow=some x0)(h1:fr st=some (rs,s1))(h2:cz rs s1=some (ds,s2))(h3:s2[i]?=some t)(h4:t.ow=some x)(h5:b x ds=some (z,x'))(hz:mk z=r:=by rfl)(h6:s2.set i (t.put x')=st3:=by rfl):fIO b i fr st=some (r,st3):=by
 simp only[fIO,h0,h00,h1,h2,h3,h4,h5,h6,hz,Ya]
theorem xv{b:D->List D->Option (Rz×D)}{t t0:Sl}{x0:D}(h0:st[i]?=some t0)(h00:t0.ow=some x0)(h1:fr st=some (rs,s1))(h2:cz rs s1=some (ds,s2))(h3:s2[i]?=some t)(h4:t.ow=some x)(h5:b x (ds++es)=some (z,x'))(hz:mk z=r:=by rfl)(h6:s2.set i (t.put x')=st3:=by rfl):uU b i es fr st=some (r,st3):=by
 simp only[uU,h0,h00,h1,h2,h3,h4,h5,h6,hz,Ya]
theorem jB{ok:D->Bool}{mm:D->List D->Option (D×D)}{t t0:Sl}{x0:D}(h0:st[i]?=some t0)(h00:t0.ow=some x0)(hk:ok x0=true)(h1:fr st=some (rs,s1))(h2:cz rs s1=some (ds,s2))(h3:s2[i]?=some t)(h4:t.ow=some x)(h5:mm x ds=some (y,x'))(h6:s2.set i (t.put x')=st3:=by rfl):fM ok mm i fr st=some (.d y,st3):=by
 simp only[fM,h0,h00,hk,h1,h2,h3,h4,h5,h6,Ya,if_true]
theorem aB{c:Bool}(h:fe st=some (r,s))(h2:tru s r=some c):aE fe st=some (c,s):=by simp only[aE,h,h2,Ya]
theorem cB{c:Bool}(h:f st=some (c,s)):cO f st=some (!c,s):=by simp only[cO,h,Ya]
theorem lq{a:Option (Bool×En)}(h:f st=some (true,s))(h2:g s=a):ip f g st=a:=by simp only[ip,h,Ya,if_true];exact h2
theorem vV(h:f st=some (false,s)):ip f g st=some (false,s):=by simp only[ip,h,Ya,Qd,if_false]
theorem mI{a:Option (Bool×En)}(h:f st=some (false,s))(h2:g s=a):iW f g st=a:=by simp only[iW,h,Ya,Qd,if_false];exact h2
theorem j6{a:Option (Rs×En)}(h:fa st=some (r,s))(h1:tru s r=some true)(h2:fb s=a):iq fa fb st=a:=by simp only[iq,h,h1,Ya,if_true];exact h2
theorem cF{fc:FT}(h1:fi st=some (ds,s1))(h2:(mv caps s1.length&&decide (ds.length<=1000000))=true)(h3:cP fg fc fe k ds (gF k caps s1)=some (es,s2))(h4:wb caps (s2.drop k) s1=st3:=by rfl):cv k caps fi fg fc fe st=some (.f (.lst es),st3):=by
 simp only[cv,h1,Ya];rw[if_pos h2,h3,← h4];rfl
theorem eM(h1:fi st=some (ds,s1))(h2:ce fg B ds s1=some o):gE fi fg B st=some o:=by simp only[gE,h1,Ya];exact h2
theorem bg(h0:ds.length=m)(h1:F (g6 n ds)=some o)(h2:fin o=some z):bx F n m ds=some z:=by
 simp only[bx,if_pos h0,h1,Ya];exact h2
theorem bC{w:Rz×D}(h0:ds.length+1=m)(h1:F (dQ n x ds)=some o)(h2:vN o=some w):bS F n m x ds=some w:=by
 simp only[bS,if_pos h0,h1,Ya];exact h2
theorem lw{fc:FT}(h:D->D):∀(items:List D)(sb:En),(∀x∈items,∃s1 s2 y s3 s4,fg x sb=some s1/\fc s1=some (true,s2)/\fe s2=some (y,s3)/\esc y s3=some (h x,s4)/\rst k s4=sb)->cP fg fc fe k items sb=some (items.map h,sb)
 | [],sb,_=>rfl
 | x::r,sb,hh=>by
  obtain⟨s1,s2,y,s3,s4,e1,e2,e3,e4,e5⟩:=hh x Xb;have ih:=lw h r sb fun z hz=>hh z (Va _ hz);simp only[cP,e1,e2,e3,e4,Ya,if_true,e5,ih,Yc]
theorem lA{fc:FT}(I:List D->En->Prop)(step:∀(pre:List D)(x:D)(sb:En),I pre sb->∃s1 s2 y s3 d s4,fg x sb=some s1/\fc s1=some (true,s2)/\fe s2=some (y,s3)/\esc y s3=some (d,s4)/\I (pre++[d]) (rst k s4)) :
  ∀(items:List D)(pre:List D)(sb:En),I pre sb->∃ds sf,cP fg fc fe k items sb=some (ds,sf)/\ds.length=items.length/\I (pre++ds) sf
 | [],pre,sb,h=>⟨[],sb,rfl,rfl,by rw[Zc];exact h⟩
 | x::r,pre,sb,h=>by
  obtain⟨s1,s2,y,s3,d,s4,e1,e2,e3,e4,e5⟩:=step pre x sb h;obtain⟨ds,sf,e6,e7,e8⟩:=lA I step r (pre++[d]) (rst k s4) e5;refine⟨d::ds,sf,?_,by simp[e7],by rw[Vb]at e8;exact e8⟩
  simp only[cP,e1,e2,e3,e4,Ya,if_true,e6]
theorem oV(I:Nat->En->Prop)(Out:En->Prop)(step:∀(m:Nat)(st:En),I m st->(∃s1,f st=some (false,s1)/\Out s1)∨∃s1 s2 m',f st=some (true,s1)/\B s1=some (.nx s2)/\m'<m/\I m' s2) :
  ∀(n m:Nat)(st:En),m<n->I m st->∃sf,sWh f B n st=some (.nx sf)/\Out sf
 | 0,m,st,hn,_=>absurd hn (Nat.not_lt_zero _)
 | n+1,m,st,hn,h=>by
  rcases step m st h with⟨s1,e1,ho⟩|⟨s1,s2,m',e1,e2,hm,h2⟩
  ·exact⟨s1,by simp only[sWh,e1,Ya,Qd,if_false],ho⟩
  ·obtain⟨sf,e3,ho⟩:=oV I Out step n m' s2 (by lia) h2
   exact⟨sf,by simp only[sWh,e1,e2,Ya,if_true];exact e3,ho⟩
end
end VF
namespace VF
open PySem L2
theorem ix_str{z:Str}{i:Int}{c:Nat}(hz:z.length<=1000000)(h:atI z.cps.toList i=some c):bIx (.str z) (.int i)=some (.str ⟨#[c]⟩,false):=by
 have e1:sG (.str z) (.int i)=none:=rfl;have e2:uQ (.str z) (.int i)=none:=rfl;have e3:xi (.str z) (.int i)=some (.str ⟨#[c]⟩,false):=by
  show(if z.length<=1000000 then(atI z.cps.toList i).bind (fun c=>some (D.str ⟨#[c]⟩,false)) else none)=_;rw[if_pos hz,h];rfl
 unfold bIx orD;rw[e1,e2];exact e3
theorem dJ{a b:Str}(h:a.length+b.length<=1000000):bY (.str a) (.str b)=some (.str (a++b),false):=by
 have e1:p8 (.str a) (.str b)=none:=rfl;have e2:qb (.str a) (.str b)=some (.str (a++b),false):=by
  show(if a.length+b.length<=1000000 then some (D.str (a++b),false) else none)=_;rw[if_pos h]
 unfold bY orD;rw[e1,e2]
theorem qk{a:Str}{n:Int}(h:0<=n/\n<=1000/\a.length<=1000):jz (.str a) (.int n)=some (.str (Txt.mul a n),false):=by
 have e1:qa (.str a) (.int n)=none:=rfl;have e2:sE (.str a) (.int n)=some (.str (Txt.mul a n),false):=by
  show(if 0<=n/\n<=1000/\a.length<=1000 then some (D.str (Txt.mul a n),false) else none)=_;rw[if_pos h]
 unfold jz orD;rw[e1,e2]
theorem eN:∀xs:List Str,eG (xs.map D.str)=some xs
 | []=>rfl
 | x::r=>by
  show(eG (r.map D.str)).bind (fun xs=>some (x::xs))=_;rw[eN r];rfl
theorem gy:∀xs:List Str,ji (xs.map D.str)=some (xs.map V.str)
 | []=>rfl
 | x::r=>by
  show(ji (r.map D.str)).bind (fun vs=>some (V.str x::vs))=_;rw[gy r];rfl
theorem lB:∀n:Nat,iu (List.replicate n (D.bl true))=some (List.replicate n true)
 | 0=>rfl
 | n+1=>by
  show(iu (List.replicate n (D.bl true))).bind (fun bs=>some (true::bs))=_;rw[lB n];rfl
theorem nQ(n:Nat):qZ [.lst (List.replicate n (D.bl true))]=some (.bl true,false):=by
 show(iu (List.replicate n (D.bl true))).bind (fun bs=>some (D.bl (bs.all id),false))=_;rw[lB];show some (D.bl ((List.replicate n true).all id),false)=_;have:(List.replicate n true).all id=true:=by
  rw[Vh];intro b hb;exact List.eq_of_mem_replicate hb
 rw[this]
theorem sW{x:Str}{xs:List Str}:bIn (.str x) (.lst (xs.map D.str))=some (.bl (decide (x∈xs)),false):=by
 have e1:nM false (.str x) (.lst (xs.map D.str))=none:=rfl;have e2:mz false (.str x) (.lst (xs.map D.str))=some (.bl (decide (x∈xs)),false):=by
  show(ji (xs.map D.str)).bind (fun ws=>some (D.bl (inV (.str x) ws),false))=_;rw[gy];show some (D.bl (inV (.str x) (xs.map V.str)),false)=_;have e:inV (.str x) (xs.map V.str)=decide (x∈xs):=by
   unfold inV;rw[List.any_map];induction xs with
   | nil=>rfl
   | cons y r ih =>
    rw[Wi,ih rfl];show((y == x)||decide (x∈r))=_;by_cases e:y=x
    ·subst e;simp
    ·have e':¬ x=y:=fun z=>e z.symm;simp[e,e']
  rw[e]
 unfold bIn orD;rw[e1];exact e2
theorem xw{z:Str}{lo hi:Option Int}(h:z.length<=1000000):bSl (.str z) lo hi=some (.str (Txt.slice z lo hi),false):=by
 have e1:xk (.str z) lo hi=none:=rfl;have e2:sH (.str z) lo hi=none:=rfl;have e3:xl (.str z) lo hi=some (.str (Txt.slice z lo hi),false):=by
  show(if z.length<=1000000 then some (D.str (Txt.slice z lo hi),false) else none)=_;rw[if_pos h]
 unfold bSl orS;rw[e1,e2];exact e3
section
variable {st s s1 s2 s3:En}{r r1:Rs}{rs:List Rs}{d d0 d1:D}{ds:List D}{z:Rz}{fe fo:FE}{fa:FA}{fl fh:FO}
theorem jj{T:String}{b:D->List D->Option Rz}(h1:fo st=some (r1,s1))(h2:cont s1 r1=some d0)(h3:xn T d0=true)(h4:fa s1=some (rs,s2))(h5:cont s2 r1=some d)(h6:cf s2 rs=some ds)(h7:b d ds=some z)(hz:mk z=r:=by rfl):fBM T b fo fa st=some (r,s2):=by
 simp only[fBM,h1,h2,h3,h4,h5,h6,h7,hz,Ya,if_true]
theorem jJ{j:Int}(h1:fa st=some (rs,s1))(h2:cf s1 rs=some [.int j])(h3:-(2 ^ 62)<=j/\j<2 ^ 62):oM fa st=some (rng 0 j.toNat,s1):=by
 simp only[oM,h1,h2,Ya,wY];rw[if_pos h3]
theorem lC{r':Rs}{lo hi:Option Int}{b:D->Option Int->Option Int->Option Rz}(h1:fe st=some (r,s1))(h2:fl s1=some (lo,s2))(h3:fh s2=some (hi,s3))(h4:cont s3 r=some d)(h5:b d lo hi=some z)(hz:mk z=r':=by rfl):fSl b fe fl fh st=some (r',s3):=by
 simp only[fSl,h1,h2,h3,h4,h5,hz,Ya]
theorem vW{f:FT}{fa fb:FE}{a:Option (Rs×En)}(h:f st=some (true,s))(h2:fa s=a):fIf f fa fb st=a:=by simp only[fIf,h,Ya,if_true];exact h2
theorem vX{f:FT}{fa fb:FE}{a:Option (Rs×En)}(h:f st=some (false,s))(h2:fb s=a):fIf f fa fb st=a:=by simp only[fIf,h,Ya,Qd,if_false];exact h2
theorem lD(h1:fe st=some (r,s1))(h2:esc r s1=some (.lst ds,s2)):fIA fe st=some (ds,s2):=by
 have:fIL fe st=some (ds,s2):=by simp only[fIL,h1,h2,Ya,D.its]
 unfold fIA;rw[this]
theorem nR(h1:fe st=some (r,s1))(h2:esc r s1=some (.tup ds,s2)):fIA fe st=some (ds,s2):=by
 have e1:fIL fe st=none:=by simp only[fIL,h1,h2,Ya,D.its,Option.bind_none]
 have e2:fIT fe st=some (ds,s2):=by simp only[fIT,h1,h2,Ya,D.itt]
 unfold fIA;rw[e1,e2]
theorem mJ(h1:fa st=some (rs,s1))(h2:cz rs s1=some (ds,s2))(h3:ds.length<=1000000):jU fa st=some (.d (.tup ds),s2):=by
 simp only[jU,h1,h2,Ya];rw[if_pos h3]
end
theorem fW{fg:FG}{B:FS}(all:List D)(I:List D->En->Prop)(step:∀(gone:List D)(x:D)(rest:List D)(st:En),all=gone++x::rest->I gone st->∃s1 s2,fg x st=some s1/\B s1=some (.nx s2)/\I (gone++[x]) s2) :
  ∀(items gone:List D)(st:En),all=gone++items->I gone st->∃sf,ce fg B items st=some (.nx sf)/\I all sf
 | [],gone,st,ha,h=>⟨st,rfl,by rw[ha,Zc];exact h⟩
 | x::r,gone,st,ha,h=>by
  obtain⟨s1,s2,e1,e2,e3⟩:=step gone x r st ha h;obtain⟨sf,e4,e5⟩:=fW all I step r (gone++[x]) s2 (by rw[Vb];exact ha) e3
  refine⟨sf,?_,e5⟩;simp only[ce,e1,e2,Ya];exact e4
theorem lE{fg:FG}{fc:FT}{fe:FE}{k:Nat}(all:List D)(I:List D->List D->En->Prop)(step:∀(gone:List D)(x:D)(rest pre:List D)(sb:En),all=gone++x::rest->I gone pre sb->∃s1 s2 y s3 d s4,fg x sb=some s1/\fc s1=some (true,s2)/\fe s2=some (y,s3)/\esc y s3=some (d,s4)/\I (gone++[x]) (pre++[d]) (rst k s4)) :
  ∀(items gone pre:List D)(sb:En),all=gone++items->I gone pre sb->∃ds sf,cP fg fc fe k items sb=some (ds,sf)/\I all (pre++ds) sf
 | [],gone,pre,sb,ha,h=>⟨[],sb,rfl,by rw[ha,Zc,Zc];exact h⟩
 | x::r,gone,pre,sb,ha,h=>by
  obtain⟨s1,s2,y,s3,d,s4,e1,e2,e3,e4,e5⟩:=step gone x r pre sb ha h;obtain⟨ds,sf,e6,e8⟩:=lE all I step r (gone++[x]) (pre++[d]) (rst k s4) (by rw[Vb];exact ha) e5
  refine⟨d::ds,sf,?_,by rw[Vb]at e8;exact e8⟩
  simp only[cP,e1,e2,e3,e4,Ya,if_true,e6]
end VF
namespace L2
open PySem PySem.Spec PyProof.Rows
section
variable {X:Cx}{a:Expr}{ta:TE}{pos:Pos}
noncomputable def yL:V->Hp->VK->Prop:=fun x H Q=>(∃z:Str,x=.str z/\z.length<=sizeLine/\Q (.str z) H)∨∃i:Int,x=.int i/\i.natAbs.log2<1920/\Q (.str (toString i)) H
theorem oW(ha:PE X a ta):PE X (.FormattedValue a (-1) none pos) (tUn yL ta):=by
 intro pins s σ H Q I h;refine wpAny_FormattedValue_plain (thn (ha pins s σ H _ I h) fun v s1 zz9=>?_);obtain⟨x,H1,I1,r1,q1⟩:=zz9;rcases q1 with⟨z,rfl,hz,q⟩|⟨i,rfl,hz,q⟩
 ·obtain⟨t,rfl⟩:=r1;exact wpAny_formatField_str ⟨.str z,H1,I1,⟨_,rfl⟩,q⟩ ⟨.str z,H1,I1.tok _,⟨_,rfl⟩,q⟩ hz
 ·obtain⟨t,rfl⟩:=r1;exact wpAny_formatField_int hz ⟨.str _,H1,I1.tok _,⟨_,rfl⟩,q⟩
noncomputable abbrev TJ:=Str->TE
noncomputable def PJ(X:Cx)(es:List Expr)(t:TJ):Prop :=
 ∀(acc:Str)(pins:List (Addr×Obj))(s:Shared)(σ:St)(H:Hp)(Q:VK),Inv X pins σ H s->t acc σ H Q ->
  Joins (model X.prog X.w) X.A X.xe (evalEach es X.env) acc (fun out s₁=>out.length<=sizeLine/\EP X pins σ Q (.str out s₁.toks) { s₁ with toks:=s₁.toks+1 }) s
noncomputable def tJn:TJ:=fun acc _ H Q=>acc.length<=sizeLine/\Q (.str acc) H
noncomputable def tJc(ta:TE)(t:TJ):TJ:=fun acc σ H Q=>ta σ H fun x H1=>∃y:Str,x=.str y/\(acc++y).length<=sizeLine/\t (acc++y) σ H1 Q
theorem oX:PJ X [] tJn:=fun acc pins s σ H Q I h=>⟨h.1,.str acc,H,I.tok _,⟨_,rfl⟩,h.2⟩
theorem cU{es:List Expr}{t:TJ}(ha:PE X a ta)(hr:PJ X es t):PJ X (a::es) (tJc ta t):=by
 intro acc pins s σ H Q I h;rw[arm_evalEach_cons];refine thn (ha pins s σ H _ I h) fun v s1 zz9=>?_;obtain⟨x,H1,I1,r1,q1⟩:=zz9;obtain⟨y,rfl,hz,q⟩:=q1;obtain⟨t,rfl⟩:=r1;exact⟨y,t,rfl,hz,hr _ pins s1 σ H1 Q I1 q⟩
noncomputable def tJ(t:TJ):TE:=t Str.empty
theorem mK{b:Expr}{es:List Expr}{t:TJ}(h:PJ X (a::b::es) t):PE X (.JoinedStr (a::b::es) pos) (tJ t):=fun pins s σ H Q I q=>wpAny_JoinedStr (h Str.empty pins s σ H Q I q)
end
end L2
namespace VF
open PySem L2
section
variable {K:PySem.W.Frag}
noncomputable def oY:D->Option Rz
 | .str z=>if z.length<=1000000 then some (.str z,false) else none
 | .int i=>if i.natAbs.log2<1920 then some (.str (toString i),false) else none
 | _=>none
theorem oZ:wV K yL oY:=by
 intro Y H x d z Q lv c e q;cases d with
 | str y =>
  obtain⟨hz,e⟩:=aC e;cases e;exact .inl ⟨y,c,few hz,q _ H (Same.refl H) (.str _)⟩
 | int i =>
  obtain⟨hz,e⟩:=aC e;cases e;exact .inr ⟨i,c,hz,q _ H (Same.refl H) (.str _)⟩
 | _=>cases e
noncomputable def RdJ(K:PySem.W.Frag)(t:TJ)(f:Str->FE):Prop:=∀acc,RdE K (t acc) (f acc)
noncomputable def fJn:Str->FE:=fun acc st=>if acc.length<=1000000 then some (.d (.str acc),st) else none
noncomputable def fJc(fa:FE)(f:Str->FE):Str->FE:=fun acc st=>(fa st).bind fun x=>match cont x.2 x.1 with
 | some (.str y)=>if (acc++y).length<=1000000 then f (acc++y) x.2 else none
 | _=>none
noncomputable def fJ(f:Str->FE):FE:=f Str.empty
theorem sX:RdJ K tJn fJn:=by
 intro acc st σ H O Z Q E r st' e q;obtain⟨hz,e⟩:=aC e;cases e;exact⟨few hz,q _ H O (Ext.refl O H) (Kp.refl _) E (.str _) (by trivial)⟩
set_option tactic.hygienic true in
theorem iA{ta:TE}{t:TJ}{fa:FE}{f:Str->FE}(ha:RdE K ta fa)(h:RdJ K t f):RdJ K (tJc ta t) (fJc fa f):=by
 intro acc st σ H O Z Q E r st' e q;refine bsP e fun r1 st1 e1 e=>?_;refine ha st σ H O Z _ E r1 st1 e1 fun v1 H1 O1 x1 k1 E1 rv1 w1=>?_;dsimp only at e;split at e
 ·rename_i y e3
  have b1:v1=.str y:=rv1.ba E1 e3;obtain⟨hz,e⟩:=aC e;exact⟨y,b1,few hz,h (acc++y) st1 σ H1 O1 Z Q E1 r st' e fun v H2 O2 x2 k2 E2 rv w2=>q v H2 O2 (x1.trans x2) (k1.trans k2) E2 rv (w2.back x1)⟩
 ·cases e
theorem xy{t:TJ}{f:Str->FE}(h:RdJ K t f):RdE K (tJ t) (fJ f):=h Str.empty
end
end VF
namespace VF
open PySem L2 PySem.Spec
section
variable {X:Cx}{a b e:Expr}{ta te:TE}
theorem uV{K:PySem.W.Frag}{es:List Expr}{k:Nat}{t:TGs}{n:Nat}{pos:Pos}(hK:X.K=K)(hc:X.calm=true)(h:PGs X es t)
  (hn:(assignEach es X.env).length=n:=by rfl)(hst:(assignEach es X.env).findIdx? (·.1)=none:=by rfl):PG X (.Tuple es k pos) (wn K n t):=hK ▸ wo hc h hn hst
end
section
variable {K:PySem.W.Frag}{Y O O' Z:AS}{H H':Hp}{v:V}{d:D}{st st':En}{σ:St}
noncomputable def i3:FS:=fun _=>none
theorem fX:RdS K rG i3:=by
 intro st σ H O Z Dn E o e;cases e
end
end VF
namespace VF
open PySem L2 PySem.Spec
section
variable {X:Cx}{K:PySem.W.Frag}
noncomputable def sY(K:PySem.W.Frag):R2:=fun x y H Q=>∃a b ys,x=.ref a/\y=.ref b/\SqT K H a []/\SqT K H b ys/\Q (.ref b) H
theorem uW(h:X.K=K):OpR X (binaryOp .Add) (sY K):=by
 intro pins s σ H x y v u Q I rx ry hh;obtain⟨a,b,ys,rfl,rfl,ha,hb,q⟩:=hh;cases rx;cases ry;subst h;obtain⟨its,r1,p1,_⟩:=I.tuple ha;obtain⟨its2,r2,p2,_⟩:=I.tuple hb;cases r1;obtain⟨⟨cls,dd,data,sl⟩,ho,hc,n,hd⟩:=id p1;obtain⟨⟨cls2,dd2,data2,sl2⟩,ho2,hc2,n2,hd2⟩:=id p2;simp only at hc hd hc2 hd2;subst hc hd hc2 hd2;exact concat_meets ⟨_,ho,rfl⟩ ⟨_,ho2,rfl⟩ noFill_tuple_add seq_tuple_add PySem.F.slot_tuple_add PySem.F.entry_tuple_add (PySem.F.args_tuple_add_2 _ _)
   (PyProof.Rows.tuple_addW0 a b _ _ n n2 dd dd2 sl sl2 rfl) ⟨ho,ho2,.ref b,H,I,rfl,q⟩
noncomputable def vY:D->D->Option Rz
 | .tup [],.tup b=>some (.tup b,false)
 | _,_=>none
theorem uX:RdOp K (sY K) vY:=by
 intro Y H x y d1 d2 z Q lv b1 b2 e q;cases d1 with
 | tup a =>
  cases a with
  | cons a0 a=>cases e
  | nil =>
   cases d2 with
   | tup b =>
    cases e;obtain⟨p,xs,rfl,hp,el⟩:=b1;obtain⟨p2,ys,rfl,hp2,el2⟩:=b2;obtain rfl:=el.unnil;exact⟨p,p2,ys,rfl,rfl,hp.sq,hp2.sq,q _ H (Same.refl H) (.tup hp2 el2.1 el2.2)⟩
   | _=>cases e
 | _=>cases e
noncomputable def fj:=orD bY vY
noncomputable def vZ(K:PySem.W.Frag):R2:=fun x y H Q=>qd K x y H Q∨sY K x y H Q
theorem eO(h:X.K=K):OpR X (binaryOp .Add) (vZ K):=(qf h).or (uW h)
theorem eP:RdOp K (vZ K) fj:=ro_addA.or uX
noncomputable def xz(K:PySem.W.Frag):V->Option Int->Option Int->Hp->VK->Prop:=fun x lo hi H Q=>∃a xs,x=.ref a/\SqT K H a xs/\(HT.sIx xs.length 0 lo=0/\HT.sIx xs.length xs.length hi=xs.length)/\Q (.ref a) H
end
end VF
namespace HT
open PySem PyProof.Rows
section
variable {prog:Program}{w:World}{A:Around}{E:Value->Shared->Prop}{s:Shared}
theorem getItem_tuple_all{t sl:Addr}{items:Array Value}{vl vu:Value}{lo hi:Option Int}{Q:Value->Shared->Prop}(ht:IsTup s.heap t items)(hs:s.heap.IsSliceOf sl vl vu .none)(pl:IsPart vl lo)(pu:IsPart vu hi)
  (hw:sIx items.size 0 lo=0/\sIx items.size items.size hi=items.size)(h:Q (.ref t) s):wpAny (model prog w) A (getItem (.ref t) (.ref sl)) Q E s:=by
 obtain⟨os,hos,hcs,hds⟩:=id hs;have hTs:s.TypeIs (.ref sl) "slice":=⟨os,hos,hcs⟩;unfold getItem
 try with_reducible refine wpAny_holding ?_
 first|refine wpAny_bind (wpAny_pure ?_)|skip
 refine wpAny_bind (wpAny_sequenceKey ht.typeIs (by decide) ?_)
 refine wpAny_bind (wpAny_callSpecial?_slot (name:=Str.ofString "__getitem__") ht.typeIs PyProof.Rows.slot_tuple_getitem
  (wpAny_call_entry PyProof.Rows.slot_tuple_getitem ht.typeIs entry_tuple_getitem ?_ (args_tuple_getitem _ _)))
 show wpAny _ _ (Builtin.Tuple.tupleItemsOf (.ref t) >>= _) _ _ s;refine wpAny_bind (tupleItemsOf_ ht ?_);refine wpAny_bind (wpAny_typeOf hTs ?_);rw[if_pos (by decide)]
 refine wpAny_bind (d7 hs pl pu ?_);have hyes:(((sIx items.size 0 lo:Nat):Int) == 0&&(1:Int) == 1&&(sIx items.size items.size hi-sIx items.size 0 lo) == items.size)=true:=by
  rw[hw.1,hw.2];simp
 show wpAny _ _ (if (((sIx items.size 0 lo:Nat):Int) == 0&&(1:Int) == 1&&(sIx items.size items.size hi-sIx items.size 0 lo) == items.size)=true then _ else _) _ _ s;rw[if_pos hyes];unfold Builtin.Tuple.tupleIsExact;refine wpAny_bind (wpAny_bind (wpAny_typeOf ht.typeIs (wpAny_pure ?_)));rw[if_pos (by decide)]
 exact wpAny_bind (wpAny_rule (wpAny_pure ⟨_,rfl,wpAny_pure h⟩))
end
end HT
namespace VF
open PySem L2
section
variable {X:Cx}{K:PySem.W.Frag}
theorem sZ(h:X.K=K):SlR X (xz K):=by
 intro pins s σ H x v vl vu lo hi sl Q I rx hs pl pu hh;obtain⟨a,xs,rfl,hx,hw,q⟩:=hh;cases rx;subst h;obtain⟨its,r,ht,hz⟩:=I.tuple hx;have hlen:its.toArray.size=xs.length:=by rw[Qa];exact r.length.symm
 refine⟨"tuple",_,PyProof.Rows.slot_tuple_getitem.lookup,ht.typeIs,?_⟩;exact HT.getItem_tuple_all ht hs pl pu (by rw[hlen];exact hw) ⟨.ref a,H,I,rfl,q⟩
noncomputable def yM:D->Option Int->Option Int->Option Rz
 | .tup ds,lo,hi=>if HT.sIx ds.length 0 lo=0/\HT.sIx ds.length ds.length hi=ds.length then some (.tup ds,false) else none
 | _,_,_=>none
theorem yN:RdSl K (xz K) yM:=by
 intro Y H x lo hi d1 z Q lv b1 e q;cases d1 with
 | tup a =>
  obtain⟨c,e⟩:=aC e;cases e;obtain⟨p,xs,rfl,hp,el⟩:=b1;exact⟨p,xs,rfl,hp.sq,by rw[el.1];exact c,q _ H (Same.refl H) (.tup hp el.1 el.2)⟩
 | _=>cases e
noncomputable def nS:=orS bSl yM
noncomputable def yO(K:PySem.W.Frag):V->Option Int->Option Int->Hp->VK->Prop:=fun x lo hi H Q=>xp K x lo hi H Q∨xz K x lo hi H Q
theorem mL(h:X.K=K):SlR X (yO K):=SlR.or (mE h) (sZ h)
theorem j7:RdSl K (yO K) nS:=RdSl.or jI yN
theorem fY{a b:List D}(h:a.length+b.length<=1000000):fj (.lst a) (.lst b)=some (.lst (a++b),true):=by
 have e1:p8 (.lst a) (.lst b)=none:=rfl;have e2:qb (.lst a) (.lst b)=none:=rfl;have e3:uN (.lst a) (.lst b)=some (.lst (a++b),true):=by simp only[uN];rw[if_pos h]
 unfold fj bY orD;rw[e1,e2,e3]
end
end VF
namespace VF
open PySem L2
section
variable {α:Type}{fg:FG}{B:FS}{fc:FT}{fe:FE}{k:Nat}
theorem ef(f:α->D)(all:List α)(I:List α->En->Prop)(step:∀(gone:List α)(x:α)(rest:List α)(st:En),all=gone++x::rest->I gone st->∃s1 s2,fg (f x) st=some s1/\B s1=some (.nx s2)/\I (gone++[x]) s2) :
  ∀(items gone:List α)(st:En),all=gone++items->I gone st->∃sf,ce fg B (items.map f) st=some (.nx sf)/\I all sf
 | [],gone,st,ha,h=>⟨st,rfl,by rw[ha,Zc];exact h⟩
 | x::r,gone,st,ha,h=>by
  obtain⟨s1,s2,e1,e2,e3⟩:=step gone x r st ha h;obtain⟨sf,e4,e5⟩:=ef f all I step r (gone++[x]) s2 (by rw[Vb];exact ha) e3
  refine⟨sf,?_,e5⟩;simp only[Yc,ce,e1,e2,Ya];exact e4
theorem hJ(f g:α->D)(p:α->Bool)(sb:En):∀(xs:List α),(∀x∈xs,∃s1 s2,fg (f x) sb=some s1/\fc s1=some (p x,s2)/\(p x=false->rst k s2=sb)/\(p x=true->∃y s3 s4,fe s2=some (y,s3)/\esc y s3=some (g x,s4)/\rst k s4=sb)) ->
  cP fg fc fe k (xs.map f) sb=some ((xs.filter p).map g,sb)
 | [],_=>rfl
 | x::r,h=>by
  obtain⟨s1,s2,e1,e2,hf,ht⟩:=h x Xb;have ih:=hJ f g p sb r fun y hy=>h y (Va _ hy);cases hp:p x with
  | false =>
   rw[hp]at e2;simp only[Yc,cP,e1,e2,Ya,Qd,if_false,hf hp,ih,List.filter_cons,hp]
  | true =>
   rw[hp]at e2;obtain⟨y,s3,s4,e3,e4,e5⟩:=ht hp;simp only[Yc,cP,e1,e2,Ya,if_true,e3,e4,e5,ih,List.filter_cons,hp]
theorem df(f g:α->D)(sb:En)(xs:List α)(h:∀x∈xs,∃s1 s2 y s3 s4,fg (f x) sb=some s1/\fc s1=some (true,s2)/\fe s2=some (y,s3)/\esc y s3=some (g x,s4)/\rst k s4=sb) :
  cP fg fc fe k (xs.map f) sb=some (xs.map g,sb):=by
 have:=hJ (fg:=fg) (fc:=fc) (fe:=fe) (k:=k) f g (fun _=>true) sb xs fun x hx=>by
  obtain⟨s1,s2,y,s3,s4,e1,e2,e3,e4,e5⟩:=h x hx;exact⟨s1,s2,e1,e2,fun z=>(Bool.noConfusion z),fun _=>⟨y,s3,s4,e3,e4,e5⟩⟩
 rw[this,List.filter_eq_self.mpr fun _ _=>rfl]
end
end VF
namespace VT
open PySem PySem.Spec PyProof.Rows L2 VF
section
variable {X:Cx}{o:Expr}{to:TE}{y z:Str}{k1 k2:Nat}{p1 p2 apos cpos:Pos}
noncomputable def v0(y z:Str)(to:TE):TE:=fun σ H Q=>to σ H fun x H1=>∃a:Str,x=.str a/\a.length<=1048576/\z.length<=14/\Q (.str (Txt.replace a y z)) H1
theorem pe_repl(hyz:(y == z)=false)(ho:PE X o to)(hbase:attributeBase o "replace" X.env (eval o X.env)=eval o X.env:=by rfl)
  (hfew:((backTo cpos (starEach [.Constant (.str y) k1 p1,.Constant (.str z) k2 p2] X.env)).all (fun x=>!x.1)&&(backToKw cpos (keywordEach [] X.env)).all (fun x=>x.1.isSome)
   && decide (([.Constant (.str y) k1 p1,.Constant (.str z) k2 p2]:List Expr).length+([]:List Keyword).length+(if ([]:List Keyword).isEmpty then 0 else 1)<30))=true:=by rfl)
  (hline:(apos.endLine == cpos.line)=true:=by rfl) (hplain:(backTo cpos (starEach [.Constant (.str z) k2 p2] X.env)).any (·.1)=false:=by rfl) :
  PE X (.Call (.Attribute o "replace" apos) [.Constant (.str y) k1 p1,.Constant (.str z) k2 p2] [] cpos) (v0 y z to):=by
 intro pins s σ H Q I h;refine wpAny_Call_method_late hbase hfew hline rfl (thn (ho pins s σ H _ I h) fun v s1 zz9=>?_);obtain⟨x,H1,I1,r1,a,rfl,ha,hz,q⟩:=zz9;obtain⟨t,rfl⟩:=r1;refine⟨"str","str.replace",PySem.F.plainAttrs_str,PySem.F.slot_str_replace,PySem.F.type_str_replace,typeIs_str _ _ _,(fun _ e=>nomatch e),?_⟩;refine Calls.callWith_builtin (by show(false||(backTo cpos (starEach [.Constant (.str z) k2 p2] X.env)).any (·.1))=false;rw[hplain];rfl) (Calls.evalArgs_plain ?_)
 refine Calls.spliced_cons (Calls.Constant_str (k:=k1) (pos:=p1) (Calls.spliced_cons (Calls.Constant_str (k:=k2) (pos:=p2) (Calls.spliced_nil ?_))));exact bu (SC.replaceW (Wk I1.tk) (Nat.succ_ne_zero _) (Yf (Nat.lt_succ_self _)) hyz ha hz fun t' k hle=>⟨.str _,H1,I1.tok k (Yb I1.tk (Wb (Nat.le_add_right _ 2) hle)),⟨t',rfl⟩,q⟩)
end
end VT
namespace VT
open PySem PySem.Spec PyProof.Rows L2 VF
section
variable {X:Cx}{pins:List (Addr×Obj)}{σ:L2.St}{H:Hp}{s:Shared}
theorem mM{x:Str}{u:Value}{mm:Str->Option Value}{pos:Pos}{Q:Value->Shared->Prop}{E:Value->Shared->Prop}(I:L2.Inv X pins σ H s){s':Shared}(hn:s'.heap.Ns X.env.locals mm)(l:Look X.env s'.heap mm x u)
  (q:Q u s')(hd:(x == ("__debug__":Str))=false:=by decide)(hcd:(x == ("__classdict__":Str))=false:=by decide):wpAny (model X.prog X.w) X.A (eval (.Name x pos) X.env) Q E s':=by
 rcases l with⟨hk,hm⟩|⟨hk,c,hc,hcell⟩
 ·exact wpAny_Name (wpAny_loadName_local I.ok.kind hk hn hm q) hd
 ·rcases hk with hk|hk
  ·exact wpAny_Name (wpAny_loadName_cell I.ok.kind hk hc hcell q) hd
  ·exact wpAny_Name (wpAny_loadName_free I.ok.kind hk hc hcell q hcd) hd
noncomputable def fmt(s1 s2 c:Str):Str:=Str.empty++s1++c++s2
theorem uY{y m s1 s2 a c:Str}{ta t0:Tok}{m1 m2:Str->Option Value}{p0 p1 p2 p3 pj c1 c2 apos cpos:Pos}{k1 k2:Nat}{Q:Value->Shared->Prop}(I:L2.Inv X pins σ H s)(n1:s.heap.Ns X.env.locals m1)(ly:Look X.env s.heap m1 y (.str a ta))(n2:s.heap.Ns X.env.locals m2)(lm:Look X.env s.heap m2 m (.str c t0))
  (h0:0<t0)(h1:t0<s.toks)(hcz:(c == fmt s1 s2 c)=false)(ha:a.length<=1048576)(hz:(fmt s1 s2 c).length<=14)(q:∀t' k,s.toks<=k->Q (.str (Txt.replace a c (fmt s1 s2 c)) t') { s with toks:=k })
  (dy:(y == ("__debug__":Str))=false) (dm:(m == ("__debug__":Str))=false) (ey:(y == ("__classdict__":Str))=false) (em:(m == ("__classdict__":Str))=false)
  (hbase:attributeBase (.Name y p0) "replace" X.env (eval (.Name y p0) X.env)=eval (.Name y p0) X.env)
  (hfew:((backTo cpos (starEach [.Name m p1,.JoinedStr [.Constant (.str s1) k1 c1,.FormattedValue (.Name m p2) (-1) none p3,.Constant (.str s2) k2 c2] pj] X.env)).all (fun x=>!x.1)&&(backToKw cpos (keywordEach [] X.env)).all (fun x=>x.1.isSome)
   && decide (([.Name m p1,.JoinedStr [.Constant (.str s1) k1 c1,.FormattedValue (.Name m p2) (-1) none p3,.Constant (.str s2) k2 c2] pj]:List Expr).length+([]:List Keyword).length+(if ([]:List Keyword).isEmpty then 0 else 1)<30))=true)
  (hline:(apos.endLine == cpos.line)=true) :
  wpAny (model X.prog X.w) X.A (eval (.Call (.Attribute (.Name y p0) "replace" apos) [.Name m p1,.JoinedStr [.Constant (.str s1) k1 c1,.FormattedValue (.Name m p2) (-1) none p3,.Constant (.str s2) k2 c2] pj] [] cpos) X.env) Q X.xe s:=by
 have lz:(fmt s1 s2 c).length<=sizeLine:=Wb hz (by rw[sizeLine_eq];decide)
 have l1:(Str.empty++s1).length<=sizeLine:=by
  refine Wb ?_ lz;unfold fmt;simp only[Str.length_append];lia
 have l2:(Str.empty++s1++c).length<=sizeLine:=by
  refine Wb ?_ lz;unfold fmt;simp only[Str.length_append];lia
 have lc:c.length<=sizeLine:=by
  refine Wb ?_ lz;unfold fmt;simp only[Str.length_append];lia
 have end_:∀v k,s.toks<=v->s.toks<=k->wpAny (model X.prog X.w) X.A (call (.builtin "str.replace") [.str a ta,.str c t0,.str (fmt s1 s2 c) v]) Q X.xe { s with toks:=k }:=fun v k hv hk =>
  bu (SC.replaceW (Wk h0) (Wk (Yb I.tk hv)) (Yf (Yb h1 hv)) hcz ha hz fun t' k' hle=>q t' k' (Wb hk hle))
 refine wpAny_Call_method_late hbase hfew hline rfl (mM I n1 ly ?_ dy ey);refine⟨"str","str.replace",PySem.F.plainAttrs_str,PySem.F.slot_str_replace,PySem.F.type_str_replace,typeIs_str _ _ _,(fun _ e=>nomatch e),?_⟩;refine Calls.callWith_builtin rfl (Calls.evalArgs_plain ?_);refine Calls.spliced_cons (mM I n2 lm (Calls.spliced_cons ?_) dm em);refine wpAny_JoinedStr (pos:=pj) ?_;rw[arm_evalEach_cons];refine Calls.Constant_str (k:=k1) (pos:=c1) ⟨s1,_,rfl,l1,?_⟩;rw[arm_evalEach_cons];have rest:∀(v:Tok)(k:Nat),s.toks<=k->Joins (model X.prog X.w) X.A X.xe (evalEach [.Constant (.str s2) k2 c2] X.env) (Str.empty++s1++c) (fun out s₁=>out.length<=sizeLine/\wpAny (model X.prog X.w) X.A (spliced []) (fun vs s₂=>wpAny (model X.prog X.w) X.A (call (.builtin "str.replace") ([.str a ta]++(Value.str c t0::Value.str out s₁.toks::vs)) []) Q X.xe s₂) X.xe { s₁ with toks:=s₁.toks+1 }) { s with toks:=k }:=fun v k hk=>by
  rw[arm_evalEach_cons];refine Calls.Constant_str (k:=k2) (pos:=c2) ⟨s2,_,rfl,lz,?_⟩;exact⟨lz,Calls.spliced_nil (end_ _ _ (Yi hk) (Yi (Yi hk)))⟩
 refine wpAny_FormattedValue_plain (mM (s':={ s with toks:=s.toks+1 }) I n2 lm ?_ dm em);exact wpAny_formatField_str ⟨c,_,rfl,l2,rest t0 _ (Nat.le_succ _)⟩ ⟨c,_,rfl,l2,rest t0 _ (Yi (Nat.le_succ _))⟩ lc
end
end VT
namespace VT
open PySem PySem.Spec PyProof.Rows L2 VF
noncomputable def bT(s1 s2:Str):List Nat->Str->Str
 | [],a=>a
 | c::cs,a=>bT s1 s2 cs (Txt.replace a ⟨#[c]⟩ (fmt s1 s2 ⟨#[c]⟩))
theorem jk(s1 s2:Str):∀(cs:List Nat)(c:Nat)(a:Str),bT s1 s2 (cs++[c]) a=Txt.replace (bT s1 s2 cs a) ⟨#[c]⟩ (fmt s1 s2 ⟨#[c]⟩)
 | [],_,_=>rfl
 | _::cs,c,a=>jk s1 s2 cs c _
noncomputable def v4(im iy:Nat)(s1 s2:Str)(tl:TE):TS:=fun D σ H=>tl σ H fun x H1=>∃z a:Str,x=.str z/\σ[iy]?=some (some (.str a))/\(∀i,i<z.cps.size->(bT s1 s2 (z.cps.toList.take i) a).length<=1048576) /\
 ∀σ':L2.St,σ'.length=σ.length->(∀j,j≠im->j≠iy->σ'[j]?=σ[j]?)->σ'[iy]?=some (some (.str (bT s1 s2 z.cps.toList a)))->D.nx σ' H1
section
variable {X:Cx}
theorem uZ{P:Program}{w:World}{A:Around}{E:Value->Shared->Prop}{s:Shared}{n:String}{it:Addr}{x:Str}{t:Tok}{i c:Nat}{tg:Expr}{Q:Option Value->Shared->Prop}(hn:n="str_ascii_iterator"∨n="str_iterator")(hit:s.heap.IsStrIter it n x t i)(hx:x.cps[i]?=some c)
  (hQ:∀h',h'.IsStrIter it n x t (i+1)->Heap.SameBut it s.heap h'->Q (some (.str ⟨#[c]⟩ s.toks)) { s with heap:=h',toks:=s.toks+1 }):wpAny (model P w) A (pyNext (.ref it)) Q E s:=by
 rcases hn with rfl|rfl
 ·exact wpAny_pyNext_ascii_item hit hx hQ
 ·exact wpAny_pyNext_wide_item hit hx hQ
theorem next_end{P:Program}{w:World}{A:Around}{E:Value->Shared->Prop}{s:Shared}{n:String}{it:Addr}{x:Str}{t:Tok}{i:Nat}{Q:Option Value->Shared->Prop}(hn:n="str_ascii_iterator"∨n="str_iterator")(hh:A.handled=none)(hit:s.heap.IsStrIter it n x t i)(hx:x.cps[i]?=none)
  (hQ:∀h',Heap.ExtBut it s.heap h'->Q none { s with heap:=h' }):wpAny (model P w) A (pyNext (.ref it)) Q E s:=by
 rcases hn with rfl|rfl
 ·exact wpAny_pyNext_ascii_end hh hit hx hQ
 ·exact wpAny_pyNext_wide_end hh hit hx hQ
theorem s9{P:Program}{w:World}{A:Around}{E:Value->Shared->Prop}{s:Shared}{x:Str}{t:Tok}{Q:Value->Shared->Prop}
  (hQ:∀n,(n="str_ascii_iterator"∨n="str_iterator")->Q (.ref s.heap.objs.size) { s with heap:=s.heap.push { cls:=.type n,data:=.fields #[.str x t,.int 0 0] } }):wpAny (model P w) A (pyIter (.str x t)) Q E s:=by
 cases ha:x.cps.all (·<128)
 ·exact wpAny_pyIter_wide ha (hQ _ (.inr rfl))
 ·exact wpAny_pyIter_ascii ha (hQ _ (.inl rfl))
theorem ps_frep{iter : Expr}{tl : TE}{im iy : Nat}{y m s1 s2 : Str}{p0 p1 p2 p3 pj c1 c2 apos cpos pm py pa pos : Pos}{k1 k2 : Nat}(hp : PassesOwn (model X.prog X.w) X.A X.env X.xe)(hc : X.calm = true)(hi : PE X iter tl)
    (hN : X.N.Nodup)(im_ : X.N[im]? = some m)(iy_ : X.N[iy]? = some y)(lm : Loc X.env.scope m)(ly : Loc X.env.scope y)(hmy : im ≠ iy)
    (hcz : ∀ c : Nat, ((⟨#[c]⟩ : Str) == fmt s1 s2 ⟨#[c]⟩) = false) (hz : ∀ c : Nat, (fmt s1 s2 ⟨#[c]⟩).length ≤ 14)
    (dy : (y == ("__debug__" : Str)) = false := by decide) (dm : (m == ("__debug__" : Str)) = false := by decide) (ey : (y == ("__classdict__" : Str)) = false := by decide) (em : (m == ("__classdict__" : Str)) = false := by decide)
    (hbase : attributeBase (.Name y p0) "replace" X.env (eval (.Name y p0) X.env) = eval (.Name y p0) X.env := by rfl)
    (hfew : ((backTo cpos (starEach [.Name m p1, .JoinedStr [.Constant (.str s1) k1 c1, .FormattedValue (.Name m p2) (-1) none p3, .Constant (.str s2) k2 c2] pj] X.env)).all (fun x => !x.1) && (backToKw cpos (keywordEach [] X.env)).all (fun x => x.1.isSome)
      && decide (([.Name m p1, .JoinedStr [.Constant (.str s1) k1 c1, .FormattedValue (.Name m p2) (-1) none p3, .Constant (.str s2) k2 c2] pj] : List Expr).length + ([] : List Keyword).length + (if ([] : List Keyword).isEmpty then 0 else 1) < 30)) = true := by rfl)
    (hline : (apos.endLine == cpos.line) = true := by rfl)
    (hsw : swapsWith (.Call (.Attribute (.Name y p0) "replace" apos) [.Name m p1, .JoinedStr [.Constant (.str s1) k1 c1, .FormattedValue (.Name m p2) (-1) none p3, .Constant (.str s2) k2 c2] pj] [] cpos) (some (.Name y py)) pa.line X.env = pure false := by rfl)
    (fm : X.fn m = true ∨ X.env.scope.names.lookup m = some .local := by first | exact .inl rfl | exact .inr rfl | assumption) (fy : X.fn y = true ∨ X.env.scope.names.lookup y = some .local := by first | exact .inl rfl | exact .inr rfl | assumption)
    (hs : ∀ x, foldedSetIterable iter X.env x = pure x := by intro _; rfl) :
    PS X (.For (.Name m pm) iter [.Assign [.Name y py] (.Call (.Attribute (.Name y p0) "replace" apos) [.Name m p1, .JoinedStr [.Constant (.str s1) k1 c1, .FormattedValue (.Name m p2) (-1) none p3, .Constant (.str s2) k2 c2] pj] [] cpos) pa] [] pos) (v4 im iy s1 s2 tl) := by
  intro pins s σ H D I h;refine wpAny_For (thn (hi pins s σ H _ I h) fun v s1' zz9 => ?_) hs;obtain ⟨x, H1, I1, r1, z, a, rfl, ha, hl, q⟩ := zz9;obtain ⟨t, rfl⟩ := r1;refine s9 fun n hn => ?_;have lσ : ∀ {σ' : L2.St}, σ'.length = σ.length → im < σ'.length ∧ iy < σ'.length := fun {σ'} e => by
    rw [e, I.len];exact ⟨(List.getElem?_eq_some_iff.mp im_).1, (List.getElem?_eq_some_iff.mp iy_).1⟩
  have fok := I1.fpOk (b := s1'.heap.objs.size) (Nat.le_refl _) (I1.hok.fresh (Nat.le_refl _));have I2 : Inv X pins σ H1 { s1' with heap := s1'.heap.push { cls := .type n, data := .fields #[.str z t, .int 0 0] } } := I1.kept (t' := s1'.toks) fun b o e => Heap.get?_push_of_some _ e;have st2 : Heap.IsStrIter (Shared.heap { s1' with heap := s1'.heap.push { cls := .type n, data := .fields #[.str z t, .int 0 0] } }) s1'.heap.objs.size n z t 0 := ⟨_, Heap.get?_push_size _ rfl, rfl, rfl⟩;revert st2 I2;generalize ({ s1' with heap := s1'.heap.push { cls := .type n, data := .fields #[.str z t, .int 0 0] } } : Shared) = s2';intro I2 st2;generalize s1'.heap.objs.size = it at fok st2 ⊢;obtain ⟨f0, f1, f2, f3, f4, f5⟩ := id fok;refine codeAny_forLoop_any (fun k s' => ∃ i σ', Inv X pins σ' H1 s' ∧ s'.heap.IsStrIter it n z t i ∧ i ≤ z.cps.size ∧ k = z.cps.size - i ∧ σ'.length = σ.length ∧ (∀ j, j ≠ im → j ≠ iy → σ'[j]? = σ[j]?) ∧ σ'[iy]? = some (some (.str (bT s1 s2 (z.cps.toList.take i) a)))) ?_ z.cps.size
    ⟨0, σ, I2, st2, Nat.zero_le _, rfl, rfl, fun _ _ _ => rfl, ha⟩
  rintro k s3 ⟨i, σ3, I3, st3, li, rfl, len3, oth3, y3⟩;by_cases hlt : i < z.cps.size
  · have hx : z.cps[i]? = some z.cps[i] := by simp [hlt]
    generalize hcc : z.cps[i] = c at hx;refine wpAny_passesOwn hp (uZ (tg := .Name m pm) hn st3 hx fun h' st4 sb => ?_);have I4 : Inv X pins σ3 H1 { s3 with heap := h', toks := s3.toks + 1 } := I3.turned (fun b o hb e => sb.extBut b o hb e) f0 f1 f3 f4 f5;have st4' : Heap.IsStrIter (Shared.heap { s3 with heap := h', toks := s3.toks + 1 }) it n z t (i + 1) := st4;obtain ⟨o, e, oc, od⟩ := id st4;refine wpAny_passesOwn hp (kW (s := { s3 with heap := h', toks := s3.toks + 1 }) e oc od (by rcases hn with rfl | rfl <;> decide) ?_)
    have tk4 : s3.toks < Shared.toks { s3 with heap := h', toks := s3.toks + 1 } := Nat.lt_succ_self _;have t0 : 0 < s3.toks := I3.tk;revert I4 st4' tk4;generalize s3.toks = tc at t0;generalize ({ s3 with heap := h', toks := tc + 1 } : Shared) = s4;intro I4 st4 tk4
    have I4' := I4.pinned (fp := [it]) (fun b hb => by have e : b = it := by simpa using hb
                                                       subst e; exact fok) (fun b hb => by have e : b = it := by simpa using hb
                                                                                           subst e; obtain ⟨o, e, c, d⟩ := st4; exact ⟨o, e, fun v z => by rw [d] at z; cases z⟩)
    refine wpAny_passesOwn hp (wpAny_assign_Name (bu (kU I4' hN im_ lm (v := .str ⟨#[c]⟩) ⟨tc, rfl⟩ (fun s5 I5 _ lk up => ?_) fm)));obtain ⟨m2, n2, lk2⟩ := lk;have tk5 : tc < s5.toks := Nat.lt_of_lt_of_le tk4 up;obtain ⟨m1, n1, hl1⟩ := id I5.loc;have len5 : (σ3.set im (some (V.str ⟨#[c]⟩))).length = σ.length := by simp [len3]
    obtain ⟨u, ⟨ta, rfl⟩, lk1⟩ := hl1 iy y (.str (bT s1 s2 (z.cps.toList.take i) a)) iy_ (by rw [List.getElem?_set_ne hmy]; exact y3) (ly.elim .inl fun z => .inr (.inl z))
    refine wpAny_passesOwn hp (wpAny_execs_cons (wpAny_Assign_Name (uY I5 n1 lk1 n2 lk2 t0 tk5 (hcz c) (hl i hlt) (hz c) (fun t' k' hk => ?_) dy dm ey em hbase hfew hline) hsw));refine nk (I5.tok k' (Nat.lt_of_lt_of_le I5.tk hk)) hN iy_ ly (v := .str (Txt.replace (bT s1 s2 (z.cps.toList.take i) a) ⟨#[c]⟩ (fmt s1 s2 ⟨#[c]⟩))) ⟨t', rfl⟩ (fun s6 I6 => ?_) fy;refine wpAny_execs_nil ⟨z.cps.size - (i + 1), by lia, i + 1, _, I6.unpinned, ?_, hlt, rfl, by simp [len3], fun j h1 h2 => ?_, ?_⟩
    · obtain ⟨o, e, oc, od⟩ := st4
      exact ⟨o, (I6.pin (it, o) (List.mem_append_right _ (List.mem_append_right _ (cZ (by simp) e)))).1, oc, od⟩
    · rw [List.getElem?_set_ne (Ne.symm h2), List.getElem?_set_ne (Ne.symm h1)]
      exact oth3 j h1 h2
    · rw [List.getElem?_set_self (by simp [(lσ len3).2])]
      have : z.cps.toList.take (i + 1) = z.cps.toList.take i ++ [c] := by
        rw [List.take_succ]; simp [hx]
      rw [this, jk]
  · have e : i = z.cps.size := by lia
    subst e;refine wpAny_passesOwn hp (next_end hn (I3.ok.hd hc) st3 (by simp) fun h' eb => ?_)
    refine wpAny_execs_nil ⟨σ3, H1, I3.turned (t' := s3.toks) (fun b o hb e => eb b o hb e) f0 f1 f3 f4 f5, q σ3 len3 oth3 ?_⟩;have : z.cps.toList.take z.cps.size = z.cps.toList := by rw [← Array.length_toList, List.take_length]
    rw [this] at y3;exact y3
end
end VT
namespace VT
open PySem PySem.Spec PyProof.Rows L2 VF
section
variable {K:PySem.W.Frag}
noncomputable def fRepl(y z:Str)(fe:FE):FE:=fun st=>(fe st).bind fun x=>match cont x.2 x.1 with
 | some (.str a)=>if a.length<=1048576/\z.length<=14 then some (.d (.str (Txt.replace a y z)),x.2) else none
 | _=>none
theorem rd_repl{y z:Str}{te:TE}{fe:FE}(h:RdE K te fe):RdE K (v0 y z te) (fRepl y z fe):=by
 intro st σ H O Z Q E r st' e q;refine bsP e fun r1 st1 e1 e=>?_;refine h st σ H O Z _ E r1 st1 e1 fun v H1 O1 x1 k1 E1 rv w1=>?_;cases hc:cont st1 r1 with
 | none=>rw[hc]at e;cases e
 | some d =>
  rw[hc]at e;have b:=rv.ba E1 hc;cases d with
  | str a =>
   have e':(if a.length<=1048576/\z.length<=14 then some (Rs.d (.str (Txt.replace a y z)),st1) else none)=some (r,st'):=e;by_cases c:a.length<=1048576/\z.length<=14
   ·rw[if_pos c]at e';cases e';exact⟨a,b,c.1,c.2,q _ H1 O1 x1 k1 E1 (show DA K (U O1 Z) H1 _ _ from .str _) trivial⟩
   ·rw[if_neg c]at e';cases e'
  | _=>cases e
noncomputable def gM(s1 s2:Str):List Nat->Str->Bool
 | [],_=>true
 | c::cs,a=>decide (a.length<=1048576)&&gM s1 s2 cs (Txt.replace a ⟨#[c]⟩ (fmt s1 s2 ⟨#[c]⟩))
theorem nU{s1 s2:Str}:∀{cs:List Nat}{a:Str},gM s1 s2 cs a=true->∀i,i<cs.length->(bT s1 s2 (cs.take i) a).length<=1048576
 | [],_,_,i,hi=>absurd hi (Nat.not_lt_zero _)
 | c::cs,a,h,0,_=>by
  have h':(decide (a.length<=1048576)&&gM s1 s2 cs (Txt.replace a ⟨#[c]⟩ (fmt s1 s2 ⟨#[c]⟩)))=true:=h;simp only[Xe,decide_eq_true_eq]at h';exact h'.1
 | c::cs,a,h,i+1,hi=>by
  have h':(decide (a.length<=1048576)&&gM s1 s2 cs (Txt.replace a ⟨#[c]⟩ (fmt s1 s2 ⟨#[c]⟩)))=true:=h;simp only[Xe,decide_eq_true_eq]at h';exact nU h'.2 i (Nat.lt_of_succ_lt_succ hi)
noncomputable def sFRep(im iy:Nat)(s1 s2:Str)(fe:FE):FS:=fun st=>(fe st).bind fun x=>match cont x.2 x.1,x.2[iy]?,x.2[im]? with
 | some (.str z),some (.v (.str a)),some .e=>if gM s1 s2 z.cps.toList a=true then some (.nx (x.2.set iy (.v (.str (bT s1 s2 z.cps.toList a))))) else none
 | _,_,_=>none
set_option tactic.hygienic true in
theorem tf{im iy:Nat}{s1 s2:Str}{fe:FE}{st:En}{o:Ot}(h:sFRep im iy s1 s2 fe st=some o):∃r st1 z a,fe st=some (r,st1)/\cont st1 r=some (.str z)/\st1[iy]?=some (.v (.str a))/\st1[im]?=some .e/\gM s1 s2 z.cps.toList a=true/\o=.nx (st1.set iy (.v (.str (bT s1 s2 z.cps.toList a)))):=by
 refine bsP h fun r st1 e1 e=>?_;simp only at e;split at e
 ·rename_i z a h1 h2 h3
  split at e
  ·rename_i hk
   cases e;exact⟨r,st1,z,a,e1,h1,h2,h3,hk,rfl⟩
  ·cases e
 ·cases e
theorem rs_frep{im iy:Nat}{s1 s2:Str}{te:TE}{fe:FE}(h:RdE K te fe):RdS K (v4 im iy s1 s2 te) (sFRep im iy s1 s2 fe):=by
 intro st σ H O Z Dn E o e q;obtain⟨r,st1,z,a,e1,hc,hy,hm,hk,rfl⟩:=tf e;refine h st σ H O Z _ E r st1 e1 fun v H1 O1 x1 k1 E1 rv w1=>?_;have hmy:im≠iy:=fun e=>by rw[e,hy]at hm;cases hm
 obtain⟨u,hu,hd⟩:=E1.val iy _ hy;have hu':u=.str a:=hd.ba;subst hu';refine⟨z,a,rv.ba E1 hc,hu,fun i hi=>nU hk i (by simpa using hi),fun σ' l1 l2 l3=>?_⟩
 have io:∀(i:Nat) d,st1[i]?=some (.io d)->i≠im/\i≠iy:=fun i d h=>⟨(fun e=>by rw[e,hm]at h;cases h),(fun e=>by rw[e,hy]at h;cases h)⟩
 refine q σ' H1 O1 x1 (k1.kq.trans ⟨by simp,fun i d h=>?_⟩) ?_
 ·obtain⟨n1,n2⟩:=io i d h;exact⟨l2 i n1 n2,d,by rw[av (Ne.symm n2)];exact h⟩
 have ne:∀(j:Nat) s x,(st1.set iy (.v (.str (bT s1 s2 z.cps.toList a))))[j]?=some s->s.ow=some x->st1[j]?=some s/\σ'[j]?=σ[j]?:=fun j s x h1 h2=>by
  by_cases q:iy=j
  ·subst q;rw[aK hy]at h1;cases h1;cases h2
  ·rw[av q]at h1;exact⟨h1,l2 j (fun e=>by rw[e,hm]at h1;cases h1;cases h2) (Ne.symm q)⟩
 refine⟨by simp[E1.len,l1],fun j x hj=>?_,fun j s x h1 h2=>?_,fun j k s t x x' r h1 h2 h3 h4 h5 h6=>?_,E1.dis,E1.liv⟩
 ·by_cases q:iy=j
  ·subst q;rw[aK hy]at hj;cases hj;exact⟨_,l3,.str _⟩
  ·rw[av q]at hj;obtain⟨w,g1,g2⟩:=E1.val j x hj;exact⟨w,by rw[l2 j (fun e=>by rw[e,hm]at hj;cases hj) (Ne.symm q)];exact g1,g2⟩
 ·obtain⟨a1,a2⟩:=ne j s x h1 h2;obtain⟨p,g1,g2,g3⟩:=E1.own j s x a1 h2;exact⟨p,by rw[a2];exact g1,g2,g3⟩
 ·obtain⟨a1,a2⟩:=ne j s x h1 h2;obtain⟨b1,b2⟩:=ne k t x' h3 h4;rw[a2]at h5;rw[b2]at h6;exact E1.uni j k s t x x' r a1 h2 b1 h4 h5 h6
end
end VT
namespace VF22
open PySem PySem.Spec PyProof.Rows L2 VF
section
variable {X:Cx}{K:PySem.W.Frag}
noncomputable def tj:V->List V->Hp->VK->Prop:=fun x vs H Q=>∃(a b:Str),x=.str a/\vs=[.str b]/\(b.length == 0)=false/\a.length<=100000/\∀l,H l=none->Q (.ref l) (upd H l (.lst ((Txt.split a b).map V.str)))
theorem lF:∀l:List (Str×Tok),Vals ((l.map (·.1)).map V.str) (strValues l)
 | []=>.nil
 | p::r=>.cons ⟨p.2,rfl⟩ (lF r)
theorem tm:MtR X "str.split" tj:=by
 intro pins s σ H x vs v us Q I rx rv hq;obtain⟨a,b,rfl,rfl,hb,hz,q⟩:=hq;obtain⟨t,rfl⟩:=rx;obtain⟨u,rfl,ru⟩:=vals1 rv;obtain⟨t',rfl⟩:=ru;have lim:(100000:Nat)+2<=sizeLine:=by rw[sizeLine_eq];decide
 have out:∀(c:List (Str×Tok))(k:Nat),s.toks<=k->c.map (·.1)=Txt.split a b->c.length<=sizeLine->EP X pins σ Q (.ref s.heap.objs.size) { s with heap:=s.heap.push { cls:=.type "list",data:=.seq (strValues c).toArray },toks:=k }:=fun c k hk ec hc =>
  ⟨.ref s.heap.objs.size,_,I.laid (a:=s.heap.objs.size) (o:=.lst ((Txt.split a b).map V.str)) (t':=k) (ht:=I.tkl' hk) (fun _ _ z=>Heap.get?_push_of_some _ z) (Wa _) ⟨by rw[Xa,← ec,Xa];exact hc,strValues c,0,ec ▸ lF c,Heap.get?_push_size _ rfl⟩,rfl,q _ (I.hok.fresh (Wa _))⟩
 have few:(Builtin.Str.partsBetween a (Builtin.Str.occurrences a b 0 a.length (a.length+1)) b.length).length<=sizeLine:=by
  have e1:=StrLaws.occ_length_le a b 0 a.length (a.length+1);rw[length_partsBetween];lia
 cases d1:(decide (a.length<b.length)||decide (Builtin.Str.strKind a<Builtin.Str.strKind b)) with
 | true=>exact call_meets F.slot_str_split (typeIs_str _ _ _) F.entry_str_split (F.args_str_split_2 _ _) (meets_str_split_cannot_occur a b t t' d1) (out [(a,t)] s.toks (Wa _) (if_pos d1).symm (by show 1<=sizeLine;lia))
 | false =>
  cases d2:(Builtin.Str.occurrences a b 0 a.length (a.length+1)).isEmpty with
  | true=>exact call_meets F.slot_str_split (typeIs_str _ _ _) F.entry_str_split (F.args_str_split_2 _ _) (meets_str_split_not_found a b t t' d1 hb d2) (out [(a,t)] s.toks (Wa _) ((if_neg (ne_true_of_eq_false d1)).trans (if_pos d2)).symm (by show 1<=sizeLine;lia))
  | false =>
   refine call_meets F.slot_str_split (typeIs_str _ _ _) F.entry_str_split (F.args_str_split_2 _ _) (meets_str_split_sep a b t t' d1 hb d2 (by lia) few) ?_
   show wants _ _ _ { s with toks:=_,heap:=s.heap.push { cls:=.type "list",data:=.seq (strsFrom s.toks _).toArray } };rw[strsFrom_eq];refine out (numbered s.toks _) _ (Nat.le_add_right _ _) ((numbered_texts _ _).trans ((if_neg (ne_true_of_eq_false d1)).trans (if_neg (ne_true_of_eq_false d2))).symm) ?_;have:=congrArg List.length (numbered_texts s.toks (Builtin.Str.partsBetween a (Builtin.Str.occurrences a b 0 a.length (a.length+1)) b.length));rw[Xa]at this;rw[this];exact few
noncomputable def o0:D->List D->Option Rz
 | .str a,[.str b]=>if (b.length == 0)=false/\a.length<=100000 then some (.lst ((Txt.split a b).map D.str),true) else none
 | _,_=>none
theorem tq:sL K tj o0:=by
 intro Y H x xs d ds z Q lv b1 bs e q;cases d with
 | str a =>
  cases bs with
  | nil=>cases e
  | @cons v vs d ds b2 bs =>
   cases bs with
   | cons _ _=>cases d<;>cases e
   | nil =>
    cases d with
    | str b =>
     obtain⟨c,e⟩:=aC e;cases e;exact⟨a,b,b1,by rw[show v=V.str b from b2],c.1,c.2,fun r hr=>q _ _ (aX hr _) (gx (uT _) hr)⟩
    | _=>cases e
 | _=>cases e
end
end VF22
namespace VF22
open PySem PySem.Spec PyProof.Rows L2 VF
section
variable {X:Cx}{K:PySem.W.Frag}{P:Program}{w:World}{rows:List (Str×Str)}
noncomputable def cJ(rows:List (Str×Str))(a:Str):Option Str:=(rows.find? fun r=>decide (r.1=a)).map (·.2)
noncomputable def xA(rows:List (Str×Str)):List (Key×V):=rows.map fun r=>(Sum.inr r.1,V.str r.2)
theorem j8(a:Str):∀rows,fF (xA rows) (Sum.inr a)=(cJ rows a).map V.str
 | []=>rfl
 | r::rows=>by
  have ih:=j8 a rows;by_cases e:r.1=a
  ·have b:cJ (r::rows) a=some r.2:=by simp[cJ,Wg,e]
   rw[b];exact fG (show(Sum.inr r.1:Key)=Sum.inr a by rw[e])
  ·have b:cJ (r::rows) a=cJ rows a:=by simp[cJ,Wg,e]
   rw[b,← ih];exact fH (show ¬ (Sum.inr r.1:Key)=Sum.inr a from fun z=>e (Sum.inr.inj z))
noncomputable def GD(P:Program)(w:World)(K:PySem.W.Frag)(C:Addr)(rows:List (Str×Str)):Prop :=
 (C == sysModules)=false/\∃o es ep,K.lookup C=some o/\o.ExactDict/\o.data=.dict es ep/\KeysOf (bE P w) es/\∃vs,Pairs (bE P w) es.toList vs/\(vs.map (·.1)).Nodup/\KV (xA rows) vs
theorem GD.of{pins:List (Addr×Obj)}{σ:L2.St}{H:Hp}{s:Shared}{C:Addr}(g:GD X.prog X.w K C rows)(I:Inv X pins σ H s)(hK:X.K=K):(C == sysModules)=false/\∃vs,KV (xA rows) vs/\s.heap.DictOf (bE X.prog X.w) C vs:=by
 subst hK;obtain⟨h0,o,es,ep,h1,h2,h3,h4,vs,h5,h6,h7⟩:=g;exact⟨h0,vs,h7,o,es,ep,I.kIn _ _ h1,h2,h3,h4,h5,h6⟩
noncomputable def GlD(P:Program)(w:World)(K:PySem.W.Frag)(mg:Str->Option Value)(x:Str)(rows:List (Str×Str)):Prop:=∃C,mg x=some (.ref C)/\GD P w K C rows
noncomputable def tGD(P:Program)(w:World)(K:PySem.W.Frag)(rows:List (Str×Str)):TE:=fun _ H Q=>∀C,GD P w K C rows->Q (.ref C) H
theorem yP{x:Str}{pos:Pos}(hg:Gl X x)(hm:GlD P w K X.mg x rows)(hd:(x == ("__debug__":Str))=false:=by decide):PE X (.Name x pos) (tGD P w K rows):=by
 obtain⟨a,e,g⟩:=hm;exact fun _ _ _ H _ I q=>jF I hg e ⟨.ref a,H,I,rfl,q a g⟩ hd
noncomputable def v5(P:Program)(w:World)(K:PySem.W.Frag)(neg:Bool)(rows:List (Str×Str)):R2:=fun x y H Q=>∃(a:Str)(C:Addr),x=.str a/\y=.ref C/\GD P w K C rows/\Q (.bl (if neg then !(cJ rows a).isSome else(cJ rows a).isSome)) H
theorem o7(hK:X.K=K):OpR X (compareOp .NotIn) (v5 X.prog X.w K true rows):=by
 intro pins s σ H x y v u Q I rx ry ⟨a,C,ex,ey,g,q⟩;subst ex;subst ey;cases ry;obtain⟨hd,vs,rel,dd⟩:=g.of I hK;refine wpAny_notIn_of (nC (k:=Sum.inr a) rx) hd dd.mapOf ?_;rw[← (rel.val (Sum.inr a)).isSome_eq,j8,Xj];exact⟨.bl _,H,I.tok _,rfl,q⟩
noncomputable def ql(neg:Bool)(rows:List (Str×Str))(fe:FE):FE:=fun st=>(fe st).bind fun x=>(cont x.2 x.1).bind fun d=>match d with
 | .str a=>some (.d (.bl (if neg then !(cJ rows a).isSome else(cJ rows a).isSome)),x.2)
 | _=>none
theorem u0{te:TE}{fe:FE}{neg:Bool}(h:RdE K te fe):RdE K (tOp (v5 P w K neg rows) te (tGD P w K rows)) (ql neg rows fe):=by
 intro st σ H O Z Q E r' st' h' q;refine bsP h' fun r1 st1 e1 h'=>?_;refine bsO h' fun d1 e3 h'=>?_;refine h st σ H O Z _ E r1 st1 e1 fun v1 H1 O1 x1 k1 E1 rv1 w1=>fun C g=>?_;have b:=rv1.ba E1 e3;cases d1 with
 | str a =>
  cases h';exact⟨a,C,b,rfl,g,q _ H1 O1 x1 k1 E1 (.bl _) True.intro⟩
 | _=>cases h'
noncomputable def yQ(rows:List (Str×Str))(ti:TE):TE:=fun σ H Q=>ti σ H fun y H1=>∃a b:Str,y=.str a/\cJ rows a=some b/\Q (.str b) H1
theorem nV{x:Str}{i:Expr}{ti:TE}{p pos:Pos}(hK:X.K=K)(hg:Gl X x)(hm:GlD X.prog X.w K X.mg x rows)(hi:PE X i ti)(hs:yo i)(hd:(x == ("__debug__":Str))=false:=by decide):PE X (.Subscript (.Name x p) i pos) (yQ rows ti):=by
 obtain⟨C,e,g⟩:=hm;intro pins s σ H Q I h;refine uv PySem.F.slot_dict_getitem.lookup hs (jF I hg e (thn (hi pins s σ H _ I h) fun iv s2 zz9=>?_) hd);obtain⟨y,H2,I2,ry,a,b,ey,l,q2⟩:=zz9;subst ey;obtain⟨hd,vs,rel,dd⟩:=g.of I2 hK;obtain⟨w',hw,rw'⟩:=RelO.some_of (v:=V.str b) (o:=valueAt vs (Sum.inr a)) (by have:=rel.val (Sum.inr a);rw[j8,l]at this;exact this)
 exact⟨dd.typeIs,wpAny_getItem_of (nC (k:=Sum.inr a) ry) dd.mapOf hw ⟨.str b,H2,I2.tok _,rw',q2⟩⟩
noncomputable def tu(rows:List (Str×Str))(fe:FE):FE:=fun st=>(fe st).bind fun x=>(cont x.2 x.1).bind fun d=>match d with
 | .str a=>(cJ rows a).bind fun b=>some (.d (.str b),x.2)
 | _=>none
theorem tv{te:TE}{fe:FE}(h:RdE K te fe):RdE K (yQ rows te) (tu rows fe):=by
 intro st σ H O Z Q E r' st' h' q;refine bsP h' fun r1 st1 e1 h'=>?_;refine bsO h' fun d1 e3 h'=>?_;refine h st σ H O Z _ E r1 st1 e1 fun v1 H1 O1 x1 k1 E1 rv1 w1=>?_;have b:=rv1.ba E1 e3;cases d1 with
 | str a =>
  obtain⟨c,hc,h'⟩:=Yj.mp h';cases h';exact⟨a,c,b,hc,q _ H1 O1 x1 k1 E1 (.str _) True.intro⟩
 | _=>cases h'
end
end VF22
namespace VT
open PySem PySem.Spec PyProof.Rows L2 VF
theorem qm(s1 s2:Str)(c:Nat):(fmt s1 s2 ⟨#[c]⟩).length=s1.length+1+s2.length:=by
 unfold fmt;simp only[Str.length_append];show 0+s1.length+1+s2.length=_;lia
theorem cz_b(c:Nat):((⟨#[c]⟩:Str) == fmt " " " " ⟨#[c]⟩)=false:=by
 rw[beq_eq_false_iff_ne];intro e;have:=congrArg Str.length e;rw[qm]at this;have h1:Str.length " "=1:=by decide +kernel
 have h2:Str.length ⟨#[c]⟩=1:=rfl;lia
theorem hz_b(c:Nat):(fmt " " " " ⟨#[c]⟩).length<=14:=by
 rw[qm];have h1:Str.length " "=1:=by decide +kernel
 lia
end VT
namespace VF22
open PySem PySem.Spec PyProof.Rows L2 VF
noncomputable def tw:D->Option Key
 | .int i=>some (.inl i)
 | .str x=>some (.inr x)
 | _=>none
noncomputable def qo:List D->Option (List Key)
 | []=>some []
 | d::r=>(tw d).bind fun k=>(qo r).bind fun ks=>some (k::ks)
section
variable {κ:Type}[DecidableEq κ]
noncomputable def fZ(kvs:List (κ×D))(k:κ):Option D:=(kvs.find? fun kv=>decide (kv.1=k)).map (·.2)
noncomputable def o8(kvs:List (κ×D))(k:κ)(d:D):List (κ×D):=if (kvs.any fun kv=>decide (kv.1=k))=true then kvs.map (fun kv=>if kv.1=k then(kv.1,d) else kv) else kvs++[(k,d)]
noncomputable def Go(R:V->D->Prop)(kvs:List (κ×V))(ds:List (κ×D)):Prop:=kvs.map (·.1)=ds.map (·.1)/\∀(i:Nat) v d,kvs[i]?=some v->ds[i]?=some d->R v.2 d.2
theorem Go.nil{R:V->D->Prop}:Go R ([]:List (κ×V)) []:=⟨rfl,fun i v d h _=>by simp at h⟩
theorem Go.cons{R:V->D->Prop}{p:κ×V}{q:κ×D}{kvs:List (κ×V)}{ds:List (κ×D)}(h1:p.1=q.1)(h2:R p.2 q.2)(t:Go R kvs ds):Go R (p::kvs) (q::ds) :=
 ⟨by rw[Yc,Yc,h1,t.1],fun i v d a b=>by
  cases i with
  | zero=>cases a;cases b;exact h2
  | succ i=>exact t.2 i v d a b⟩
theorem Go.un{R:V->D->Prop}{p:κ×V}{q:κ×D}{kvs:List (κ×V)}{ds:List (κ×D)}(h:Go R (p::kvs) (q::ds)):p.1=q.1/\R p.2 q.2/\Go R kvs ds:=by
 obtain⟨h1,h2⟩:=h;rw[Yc,Yc]at h1;injection h1 with a b;exact⟨a,h2 0 p q rfl rfl,b,fun i v d x y=>h2 (i+1) v d x y⟩
theorem Go.look{R:V->D->Prop}:∀{kvs:List (κ×V)}{ds:List (κ×D)}(k:κ),Go R kvs ds->(fF kvs k=none/\fZ ds k=none)∨∃v d,fF kvs k=some v/\fZ ds k=some d/\R v d
 | [],[],_,_=>.inl ⟨rfl,rfl⟩
 | [],_::_,_,h=>by have:=h.1;simp at this
 | _::_,[],_,h=>by have:=h.1;simp at this
 | p::ps,q::qs,k,h=>by
  obtain⟨h1,h2,h3⟩:=h.un;by_cases e:p.1=k
  ·refine .inr ⟨p.2,q.2,fG e,?_,h2⟩;simp[fZ,Wg,h1.symm.trans e]
  ·have e':¬ q.1=k:=fun z=>e (h1.trans z);rw[fH e,show fZ (q::qs) k=fZ qs k by simp[fZ,Wg,e']]
   exact h3.look k
theorem Go.any{R:V->D->Prop}{kvs:List (κ×V)}{ds:List (κ×D)}(h:Go R kvs ds)(k:κ):(kvs.any fun kv=>decide (kv.1=k))=ds.any fun kv=>decide (kv.1=k):=by
 have a:∀l:List (κ×V),(l.any fun kv=>decide (kv.1=k))=(l.map (·.1)).any fun x=>decide (x=k):=fun l=>by rw[List.any_map];rfl
 rw[a,h.1,List.any_map];rfl
theorem Go.repl{R:V->D->Prop}(k:κ){y:V}{d:D}(r:R y d):∀{kvs:List (κ×V)}{ds:List (κ×D)},Go R kvs ds->Go R (kvs.map fun kv=>if kv.1=k then(kv.1,y) else kv) (ds.map fun kv=>if kv.1=k then(kv.1,d) else kv)
 | [],[],_=>Go.nil
 | [],_::_,h=>by have:=h.1;simp at this
 | _::_,[],h=>by have:=h.1;simp at this
 | p::ps,q::qs,h=>by
  obtain⟨h1,h2,h3⟩:=h.un;rw[Yc,Yc];by_cases e:p.1=k
  ·rw[if_pos e,if_pos (h1.symm.trans e)];exact Go.cons h1 r (h3.repl k r)
  ·rw[if_neg e,if_neg fun z=>e (h1.trans z)];exact Go.cons h1 h2 (h3.repl k r)
theorem Go.snoc{R:V->D->Prop}(k:κ){y:V}{d:D}(r:R y d):∀{kvs:List (κ×V)}{ds:List (κ×D)},Go R kvs ds->Go R (kvs++[(k,y)]) (ds++[(k,d)])
 | [],[],_=>Go.cons rfl r Go.nil
 | [],_::_,h=>by have:=h.1;simp at this
 | _::_,[],h=>by have:=h.1;simp at this
 | p::ps,q::qs,h=>by
  obtain⟨h1,h2,h3⟩:=h.un;exact Go.cons h1 h2 (h3.snoc k r)
theorem Go.put{R:V->D->Prop}(k:κ){y:V}{d:D}{kvs:List (κ×V)}{ds:List (κ×D)}(h:Go R kvs ds)(r:R y d):Go R (putK kvs k y) (o8 ds k d):=by
 unfold putK o8;rw[h.any k];split
 ·exact h.repl k r
 ·exact h.snoc k r
theorem Go.len{R:V->D->Prop}{kvs:List (κ×V)}{ds:List (κ×D)}(h:Go R kvs ds):kvs.length=ds.length:=by
 have:=congrArg List.length h.1;rwa [Xa,Xa]at this
theorem Go.map{R S:V->D->Prop}{kvs:List (κ×V)}{ds:List (κ×D)}(h:Go R kvs ds)(f:∀v d,R v d->S v d):Go S kvs ds:=⟨h.1,fun i v d a b=>f _ _ (h.2 i v d a b)⟩
end
section
variable {K:PySem.W.Frag}{Y:AS}{H:Hp}
theorem yR{v:V}{d:D}{k:Key}(h:DA K Y H v d)(e:tw d=some k):v=kV k:=by
 cases d with
 | int i=>cases e;cases h;rfl
 | str x=>cases e;cases h;rfl
 | _=>cases e
theorem v6{v:V}{d:D}{k:Key}(h:BA K Y H v d)(e:tw d=some k):v=kV k:=by
 cases d with
 | int i=>cases e;exact h
 | str x=>cases e;exact h
 | _=>cases e
theorem o9:∀{ds:List D}{vs:List V}{ks:List Key},El K Y H vs ds->qo ds=some ks->vs=ks.map kV
 | [],vs,ks,h,e=>by
  cases e;obtain rfl:=h.unnil;rfl
 | d::r,vs,ks,h,e=>by
  refine bsO e fun k e1 e=>?_;refine bsO e fun ks' e2 e=>?_;cases e;obtain⟨v,vr,rfl,da,el⟩:=h.uncons;rw[yR da e1,o9 el e2];rfl
noncomputable def atD:D->D->Option (Option D)
 | .dt kvs,.tup ds=>(qo ds).bind fun ks=>some (fZ kvs ks)
 | .dk kvs,d=>(tw d).bind fun k=>some (fZ kvs k)
 | _,_=>none
theorem zA{x y:V}{d1 d2:D}{o:Option D}(b1:BA K Y H x d1)(b2:BA K Y H y d2)(e:atD d1 d2=some o):∃(a:Addr)(r:Option V),x=.ref a/\DGet H a y r/\((r=none/\o=none)∨∃v d,r=some v/\o=some d/\DA K Y H v d):=by
 cases d1 with
 | dt kvs =>
  cases d2 with
  | tup ds =>
   refine bsO e fun ks e1 e=>?_;cases e;obtain⟨a,ep,kv,rfl,_,h1,h2,h3⟩:=b1;obtain⟨b,vs,rfl,t,el⟩:=b2;have:=o9 el e1;subst this;exact⟨a,_,rfl,DGet.t h1 t.1,Go.look ks ⟨h2,h3⟩⟩
  | _=>cases e
 | dk kvs =>
  refine bsO e fun k e1 e=>?_;cases e;obtain⟨a,kv,rfl,h1,h2,h3⟩:=b1;have:=v6 b2 e1;subst this;exact⟨a,_,rfl,DGet.k h1,Go.look k ⟨h2,h3⟩⟩
 | _=>cases e
noncomputable def yS(neg:Bool):R2:=fun y x H Q=>∃(a:Addr)(o:Option V),x=.ref a/\DGet H a y o/\Q (.bl (if neg then !o.isSome else o.isSome)) H
noncomputable def yT(neg:Bool):D->D->Option Rz:=fun d2 d1=>(atD d1 d2).bind fun o=>some (.bl (if neg then !o.isSome else o.isSome),false)
theorem xB(neg:Bool):RdOp K (yS neg) (yT neg):=by
 intro Y H y x d2 d1 z Q lv b2 b1 e q;refine bsO e fun o e1 e=>?_;cases e;obtain⟨a,r,rfl,g,h⟩:=zA b1 b2 e1;refine⟨a,r,rfl,g,?_⟩;have:r.isSome=o.isSome:=by
  rcases h with⟨rfl,rfl⟩|⟨v,d,rfl,rfl,_⟩<;>rfl
 rw[this];exact q _ H (Same.refl H) (.bl _)
noncomputable def v7:qG:=fun x k v H Q=>∃a,x=.ref a/\yn H a k v Q
noncomputable def v8:D->D->D->Option D
 | .dt kvs,.tup ds,v=>(qo ds).bind fun ks=>if kvs.length<100000 then some (.dt (o8 kvs ks v)) else none
 | .dk kvs,d,v=>(tw d).bind fun k=>if kvs.length<100000 then some (.dk (o8 kvs k v)) else none
 | _,_,_=>none
theorem rc:su K v7 v8:=by
 intro Y H p x k v dk dv x' Q hp ho bk da e q;have lim:(100000:Nat)<=sizeLine:=by rw[sizeLine_eq];decide
 cases x with
 | dt kvs =>
  cases dk with
  | tup ds =>
   refine bsO e fun ks e1 e=>?_;by_cases c:kvs.length<100000
   ·rw[if_pos c]at e;cases e;obtain⟨ep,kv,ka,h1,h2,h3⟩:=ho;obtain⟨b,vs,rfl,t,el⟩:=bk;have:=o9 el e1;subst this;have g:Go (DA K Y H) kv kvs:=⟨h2,h3⟩;refine⟨p,rfl,.inr ⟨ep,kv,ks,b,h1,rfl,t.1,by have:=g.len;lia,fun n=>q _ ?_⟩⟩
    have g':=(g.put ks da).map (S:=DA K Y (upd H p (.dT (n,qM ep.2 kv ks b) (putK kv ks v)))) fun v d h=>h.upd hp;refine⟨(n,qM ep.2 kv ks b),_,KA.go (Y:=Y) (H:=H) (fun c hc=>?_) (fun c o e n=>by rw[aM fun z=>n (by rw[z];exact hp)];exact e) (fun c z=>.inl z),aZ,g'.1,g'.2⟩
    unfold qM at hc;split at hc
    ·exact ka c hc
    ·rcases Xg.mp hc with hc|hc
     ·exact ka c hc
     ·rw[Zd.mp hc];exact⟨t.2,by rw[t.1];simp⟩
   ·rw[if_neg c]at e;cases e
  | _=>cases e
 | dk kvs =>
  refine bsO e fun kk e1 e=>?_;by_cases c:kvs.length<100000
  ·rw[if_pos c]at e;cases e;obtain⟨kv,h1,h2,h3⟩:=ho;have:=v6 bk e1;subst this;have g:Go (DA K Y H) kv kvs:=⟨h2,h3⟩;refine⟨p,rfl,.inl ⟨kv,kk,h1,rfl,by have:=g.len;lia,q _ ?_⟩⟩
   have g':=(g.put kk da).map (S:=DA K Y (upd H p (.dK (putK kv kk v)))) fun v d h=>h.upd hp;exact⟨_,aZ,g'.1,g'.2⟩
  ·rw[if_neg c]at e;cases e
 | _=>cases e
noncomputable def v9(d:D):FE:=fun st=>some (.f d,st)
theorem tz:RdE K rS (v9 (.dk [])):=by
 intro st σ H O Z Q E r st' h q;cases h;intro p hp;have hres:RES K (U O Z) H (upd H p (.dK [])) (.ref p) (.dk [],true):=⟨p,rfl,hp,[],aZ,rfl,fun i v d a _=>by simp at a⟩
 obtain⟨E3,rv⟩:=hres.rv E (aX hp _);exact q _ _ O (Same.ext (aX hp _)) (Kp.refl _) E3 rv fun p' e=>by cases e;exact hp
end
section
variable {X:Cx}
theorem xC(hu:X.A.units+1<cLine):OpR X (compareOp .In) (yS false):=by
 intro pins s σ H y x v u Q I ry rx h;obtain⟨a,o,rfl,g,q⟩:=h;cases rx;exact zx hu I g ry fun s' I'=>⟨.bl o.isSome,H,I',rfl,q⟩
theorem re(hu:X.A.units+1<cLine):wm X v7:=by
 intro pins s σ H o i v ov iv u Q I ro ri rv h;obtain⟨a,rfl,g⟩:=h;cases ro;exact qN hu I g ri rv fun s' H' I' q=>⟨H',I',q⟩
end
end VF22
namespace VF22
open PySem PySem.Spec PyProof.Rows L2 VF
section
variable {X:Cx}{K:PySem.W.Frag}
@[irreducible] def PAi(X:Cx)(es:List Expr)(t:TA):Prop:=PA X es t
theorem u1:PAi X [] oF:=by unfold PAi;exact af
theorem nW{e:Expr}{es:List Expr}{te:TE}{t:TA}(ha:PE X e te)(hr:PAi X es t)(h:fL e=true):PAi X (e::es) (fD te t):=by
 unfold PAi at *;exact au ha hr h
theorem u2{es:List Expr}{t:TA}{pos:Pos}(h:PAi X es t):PE X (.List es pos) (wy t):=by
 unfold PAi at h;exact bi h
end
end VF22
namespace VF
open PySem PySem.Spec PyProof.Rows L2
theorem fsc{N P:List Str}{sc:Scope}(h:N.Nodup/\(∀x∈P,sc.names.lookup x=some .local∨sc.names.lookup x=some .cell)/\∀y∈sc.names,y.2≠.free)(a:sc.kind=.function:=by rfl)(b:sc.isCoroutine=false:=by rfl)(c:sc.isGenerator=false:=by rfl)(d:N.take P.length=P:=by rfl):FnScope N P sc:=⟨a,b,c,h.1,d,h.2.1,h.2.2⟩
structure FH(K:PySem.W.Frag)(x:Str)(st:Stmt):Prop where
 ex:∃f fd,Fun K x x st f fd/\PySem.W.nsIn K mainGlobals x=some (some (.ref f))
theorem fh{K:PySem.W.Frag}{x:Str}{st:Stmt}{f:Addr}{oc:Value}{od an:Option Addr}{osl:Array (Option Value)}{kV doc pm cdv ct:Value}(a:PySem.W.nsIn K mainGlobals x=some (some (.ref f)))
  (l:K.lookup f=some ⟨oc,od,.func (PySem.W.fnOf x x (cE st) (b4 st) (am st) .none kV doc pm an cdv ct),osl⟩)(c:PySem.W.codeIn K cdv x=true)(k:PySem.W.keepIn K (.ref f)=true):FH K x st:=⟨f,_,wO l c k,a⟩
noncomputable def Bn(x:Str)(st:Stmt)(ps:List Str):Prop:=∀(kV doc pm:Value)(an:Option Addr)(cdv ct:Value)(us:List Value),us.length=ps.length->bindArgs (PySem.W.fnOf x x (cE st) (b4 st) (am st) .none kV doc pm an cdv ct) ⟨us,[]⟩=pure (ps.zip us)
theorem arS{n:Nat}{P:List Value->Prop}{us:List Value}(hl:us.length=n+1)(h:∀a r,r.length=n->P (a::r)):P us:=by
 cases us with
 | nil=>cases hl
 | cons a r=>exact h a r (Nat.succ.inj hl)
theorem ar1{P:List Value->Prop}(h:∀a,P [a])(us:List Value)(hl:us.length=1):P us:=arS hl fun a r hr=>by
 rw[Yh hr];exact h a
theorem ar2{P:List Value->Prop}(h:∀a b,P [a,b])(us:List Value)(hl:us.length=2):P us:=arS hl fun a r hr=>ar1 (P:=fun r=>P (a::r)) (h a) r hr
section
variable {P:Program}{w:World}{K:PySem.W.Frag}{mg:Str->Option Value}{base h:Heap}{x:Str}{st:Stmt}{N ps:List Str}{k:Nat}{F:FS}
noncomputable abbrev Bd'(P:Program)(w:World)(K:PySem.W.Frag)(mg:Str->Option Value)(base:Heap)(x:Str)(st:Stmt)(N:List Str)(k:Nat)(F:FS):Prop :=
 ∀{f:Addr}{cdv:Value}{A:Around}{outer:List Env}{s:Shared}{H:Hp}{E:XK},Room k (A.deeper (envOfC x (am st) s.heap.objs.size f cdv))->∃t,PSs (nv CX0 P w K mg base N x (am st) f cdv A outer s H E).nox (b4 st) t/\RdS K t F
theorem okV{f:Addr}{fd:FuncData}(F':Fun K x x st f fd)(S:FnScope N ps (am st))(hB:Bd' P w K mg base x st N k F):FnOk P w K mg base CX0 (k+1) f fd ps (spV K (bx F N.length ps.length)):=by
 refine F'.ok S (fun vs H Q E h=>w9 h) fun cdv A outer s H vs Q E hr h=>?_;obtain⟨t,h1,h2⟩:=hB hr;exact⟨t,h1,uK h2 h⟩
theorem FH.cal(h':FH K x st)(X:K.In h)(G:h.Ns mainGlobals mg)(S:FnScope N ps (am st))(hb:Bn x st ps)(hB:Bd' P w K mg base x st N k F):Cal P w K mg base x (k+1) ps (spV K (bx F N.length ps.length)):=by
 obtain⟨f,fd,F',a⟩:=h'.ex;exact⟨f,fd,okV F' S hB,PySem.W.mg_of X G a,F'.kp,F'.binds hb⟩
theorem FH.calI(h':FH K x st)(X:K.In h)(G:h.Ns mainGlobals mg)(S:FnScope N ps (am st))(hb:Bn x st ps)(hB:Bd' P w K mg base x st N k F):Cal P w K mg base x (k+1) ps (fP K (bS F N.length ps.length)):=by
 obtain⟨f,fd,F',a⟩:=h'.ex;refine⟨f,fd,F'.ok S (fun vs H Q E h=>vO h) fun cdv A outer s H vs Q E hr h=>?_,PySem.W.mg_of X G a,F'.kp,F'.binds hb⟩;obtain⟨t,h1,h2⟩:=hB hr;exact⟨t,h1,lf h2 h⟩
theorem FH.calR{sp:Nat->Sp}(h':FH K x st)(X:K.In h)(G:h.Ns mainGlobals mg)(hb:Bn x st ps)(m:Nat)(h0:∀f fd,FnOk P w K mg base CX0 0 f fd ps (sp 0))(h1:∀n,n<=m->Cal P w K mg base x n ps (sp n)->∀f fd,Fun K x x st f fd->FnOk P w K mg base CX0 (n+1) f fd ps (sp (n+1))):∀n,n<=m+1->Cal P w K mg base x n ps (sp n):=by
 obtain⟨f,fd,F',a⟩:=h'.ex;intro n;induction n with
 | zero=>exact fun _=>⟨f,fd,h0 f fd,PySem.W.mg_of X G a,F'.kp,F'.binds hb⟩
 | succ n ih=>exact fun hn=>⟨f,fd,h1 n (Nat.le_of_succ_le_succ hn) (ih (Nat.le_of_succ_le hn)) f fd F',PySem.W.mg_of X G a,F'.kp,F'.binds hb⟩
theorem u3{f:Addr}{fd:FuncData}:FnOk P w K mg base CX0 0 f fd ps (spV K (bz 0)):=by
 have no:∀vs H Q E,¬ spV K (bz 0) vs H Q E:=fun vs H Q E h=>by
  obtain⟨Z,ds,z,el,lv,e,q⟩:=h;obtain⟨u,_,hd,_⟩:=ln e;cases hd
 exact⟨fun vs H Q E h=>absurd h (no vs H Q E),fun A outer s H args us vs Q E _ _ _ _ h=>absurd h (no vs H Q E)⟩
theorem FH.alike{F:(List D->Option Rz)->FS}(h':FH K x st)(X:K.In h)(G:h.Ns mainGlobals mg)(S:FnScope N ps (am st))(hb:Bn x st ps)(m:Nat)(hv:∀n u,Dp (n+1) u->bx (F (bz n)) N.length ps.length [u,u]=some (.bl true,false))
  (hB:∀n g,n<=m->Cal P w K mg base x n ps (spV K g)->Bd' P w K mg base x st N n (F g)):∀n,n<=m+1->Cal P w K mg base x n ps (spV K (bz n)) :=
 h'.calR X G hb m (fun _ _=>u3) fun n hn c f fd F'=>(okV F' S (hB n _ hn c)).imp fun vs H Q E hs=>by
  obtain⟨Z,ds,z,el,lv,e,q⟩:=hs;obtain⟨u,rfl,hd,rfl⟩:=ln e;exact⟨Z,[u,u],(.bl true,false),el,lv,hv n u hd,q⟩
theorem FH.law{fa:Addr}(h':FH K "law" st)(X:K.In h)(G:h.Ns mainGlobals mg)(hfa:mg "law"=some (.ref fa))(S:FnScope N ["_law_script"] (am st))(hb:Bn "law" st ["_law_script"])(lv:∀ns:List Int,bx F N.length 1 [.fl (ns.map D.int)]=some (.bl true,false))
  (hB:∀base:Heap,Bd' P w K mg base "law" st N k F):∃fd:FuncData,(∀(s:Shared)(v:Value),BindsTo s fd ⟨[v],[]⟩ [("_law_script",v)])/\∀base:Heap,K.In base->base.Ns mainGlobals mg->FnOk P w K mg base CX0 (k+1) fa fd ["_law_script"] (qj K):=by
 obtain⟨f,fd,F',a⟩:=h'.ex;have e:=hfa.symm.trans (PySem.W.mg_of X G a);cases e;refine⟨fd,fun s v=>?_,fun base _ _=>(okV F' S (hB base)).imp fun vs H Q E h=>?_⟩
 ·obtain⟨oc,od,kV,doc,pm,an,cdv,ct,osl,rfl,lk,hcd⟩:=F'.ex;exact .of_eq (hb kV doc pm an cdv ct [v] rfl)
 ·obtain⟨a,ns,rfl,sq,_,q⟩:=h;refine⟨fun _=>False,[.fl (ns.map D.int)],(.bl true,false),El.one (.fl (vs:=ns.map V.int) ?_ (by simp) fun i v d h1 h2=>?_),fun p z=>z.elim,lv ns,fun v H' _ r=>?_⟩
  ·rcases sq with s|s
   ·exact .inl ⟨s,fun z=>z⟩
   ·exact .inr fun H'=>.inr s
  ·rw[Vd]at h1 h2;obtain⟨c,e1,rfl⟩:=Zg.mp h1;rw[e1]at h2;obtain rfl:=Option.some.inj h2;exact .int _
  ·obtain rfl:=(show v=V.bl true from DA.ba (show DA K (fun _=>False) H' v (.bl true) from r));exact q H'
end
theorem walkZ{l:PySem.W.OpenLaw}{q:Program}{loose:List Str}{XP:(Str->Option Value)->Heap->Prop}{d:DefRec}{K:Params->PySem.W.Frag}{k:Nat}{as:List Addr}{sz t:Nat}(hn:l.most=some 63)(hdf:d.params.defaults=[])(hr:Room k callerA)(ht:0<t)(hK:∀P,as=(K P).map (·.1))
  (F:∀(w:World)(mg:Str->Option Value)(fa:Addr)(h:Heap),(K w.params).In h->h.Ns mainGlobals mg->mg d.name=some (.ref fa) ->
   ∃fd:FuncData,(∀(s:Shared)(u:Value),BindsTo s fd ⟨[u],[]⟩ [("_law_script",u)])/\∀base:Heap,(K w.params).In base->base.Ns mainGlobals mg->FnOk l.prog w (K w.params) mg base CX0 k fa fd ["_law_script"] (qj (K w.params))) :
  PySem.W.WalkX q loose XP (PySem.W.X.obsZ as) (PySem.W.X.valZ K sz t) l.row.toRowW d [] (fun f vs=>PySem.call f vs) :=
 L2.walk_of (n:=63) (k:=k) (x:="_law_script") (CX:=fun _=>CX0) (sp:=fun w=>qj (K w.params)) hn (by decide) hdf hr ht hK F (fun _ _ a ns hl _ hS=>⟨a,ns,rfl,hS,hl,fun _=>rfl⟩) fun _ _ _ _ _ z=>z
end VF
namespace VF22
open PySem PySem.Spec PyProof.Rows L2 VF
section
variable {K:PySem.W.Frag}
structure FHD(K:PySem.W.Frag)(x:Str)(st:Stmt)(ds:List Value):Prop where
 ex:∃f fd,FunD K x x st ds f fd/\PySem.W.nsIn K mainGlobals x=some (some (.ref f))
theorem fhd{x:Str}{st:Stmt}{ds:List Value}{f T:Addr}{nT:Nat}{oc tc:Value}{od an td:Option Addr}{osl tsl:Array (Option Value)}{kV doc pm cdv ct:Value}(a:PySem.W.nsIn K mainGlobals x=some (some (.ref f)))
  (l:K.lookup f=some ⟨oc,od,.func (PySem.W.fnOf x x (cE st) (b4 st) (am st) (.ref T) kV doc pm an cdv ct),osl⟩)(c:PySem.W.codeIn K cdv x=true)(k:PySem.W.keepIn K (.ref f)=true)(t:K.lookup T=some ⟨tc,td,.seq ds.toArray nT,tsl⟩):FHD K x st ds :=
 ⟨f,_,⟨⟨_,_,_,_,_,_,_,_,_,_,_,_,rfl,l,c,t,rfl⟩,k⟩,a⟩
noncomputable def BnD(x:Str)(st:Stmt)(ps:List Str)(ds:List Value):Prop:=∀(T:Addr)(kV doc pm:Value)(an:Option Addr)(cdv ct:Value)(us:List Value),(us++ds).length=ps.length ->
 ∃k:Option (Array Value)->Sem (List (Str×Value)),bindArgs (PySem.W.fnOf x x (cE st) (b4 st) (am st) (.ref T) kV doc pm an cdv ct) ⟨us,[]⟩=seqItems? (.ref T) >>= k/\k (some ds.toArray)=pure (ps.zip (us++ds))
variable {P:Program}{w:World}{mg:Str->Option Value}{base h:Heap}{x:Str}{st:Stmt}{N ps:List Str}{k:Nat}{F:FS}{ds:List Value}{dvs:List V}
theorem FHD.calI(h':FHD K x st ds)(X:K.In h)(G:h.Ns mainGlobals mg)(S:FnScope N ps (am st))(hb:BnD x st ps ds)(hv:Vals dvs ds)(hB:Bd' P w K mg base x st N k F):CalD P w K mg base x (k+1) ps dvs (fP K (bS F N.length ps.length)):=by
 obtain⟨f,fd,F',a⟩:=h'.ex;refine⟨f,fd,ds,F'.ok S (fun vs H Q E h=>vO h) fun cdv A outer s H vs Q E hr h=>?_,PySem.W.mg_of X G a,F'.kp,F'.binds hb,hv⟩;obtain⟨t,h1,h2⟩:=hB hr;exact⟨t,h1,lf h2 h⟩
end
end VF22
namespace VF22
open PySem PySem.Spec PyProof.Rows L2 VF
section
variable (K:PySem.W.Frag){X:Cx}{a b o:Expr}{ta tb to:TE}{p pos apos cpos:Pos}
theorem aQ(ha:PE X a ta)(hb:PE X b tb)(h:X.K=K:=by rfl)(hs:pV b:=by exact fun _ _=>rfl):PE X (.Subscript a b pos) (tOp (rIx K) ta tb):=yp (uD h) ha hb hs
theorem dL(hm:X.mg "len"=none)(ha:PE X a ta)(h:X.K=K:=by rfl)(hg:Gl X "len":=by rfl)(n:fL a=true:=by rfl):PE X (.Call (.Name "len" p) [a] [] pos) (tCB (sP K) (fD ta oF)) :=
 fE (q8 h) hg hm PySem.boot_len (au ha af n) (by decide) (by decide) (cW n) rfl
theorem eQ(hm:X.mg "tuple"=none)(ha:PE X a ta)(h:X.K=K:=by rfl)(c:X.calm=true:=by rfl)(hg:Gl X "tuple":=by rfl)(n:fL a=true:=by rfl):PE X (.Call (.Name "tuple" p) [a] [] pos) (tCB (mF K) (fD ta oF)) :=
 d6 (nP h c) hg hm fN (au ha af n) (by decide) (by decide) (cW n) rfl
theorem bM(hm:X.mg "isinstance"=none)(ha:PE X a ta)(hb:PE X b tb)(h:X.K=K:=by rfl)(hg:Gl X "isinstance":=by rfl)(n:fL a=true:=by rfl)(n':fL b=true:=by rfl)(hpl:(backTo pos (starEach [b] X.env)).any (·.1)=false:=by rfl) :
  PE X (.Call (.Name "isinstance" p) [a,b] [] pos) (tCB (xt K) (fD ta (fD tb oF))) :=
 fE (mG h) hg hm L2.boot_isinstance (au ha (au hb af n') n) (by decide) (by decide) (cW n) hpl
theorem bb(ha:PE X a ta)(hb:PE X b tb)(h:X.K=K:=by rfl):PE X (.BinOp a .Add b pos) (tOp (qd K) ta tb):=bJ (qf h) ha hb
theorem iB{op:CmpOp}{r:R2}(ho:OpR X (compareOp op) r)(ha:PE X a ta)(hb:PE X b tb)(h:op≠.In:=by decide)(h2:op≠.NotIn:=by decide):PE X (.Compare a [op] [b] pos) (tOp r ta tb):=lZ ho ha hb (rN _ h h2)
theorem aW{op:CmpOp}{r:R2}(ho:OpR X (compareOp op) r)(ha:PE X a ta)(hb:PE X b tb)(h:op≠.In:=by decide)(h2:op≠.NotIn:=by decide):PT X (.Compare a [op] [b] pos) (pO (tOp r ta tb)):=gu ho ha hb (rN _ h h2)
theorem cG(ho:PE X o to)(ha:PE X a ta)(n:fL a=true:=by rfl)(hbase:attributeBase o "append" X.env (eval o X.env)=eval o X.env:=by rfl)
  (hfew:((backTo cpos (starEach [a] X.env)).all (fun x=>!x.1)&&(backToKw cpos (keywordEach [] X.env)).all (fun x=>x.1.isSome)
   && decide (([a]:List Expr).length+([]:List Keyword).length+(if ([]:List Keyword).isEmpty then 0 else 1)<30))=true:=by rfl)
  (hline:(apos.endLine == cpos.line)=true:=by rfl):PE X (.Call (.Attribute o "append" apos) [a] [] cpos) (tBM X.K "list" ml to (fD ta oF)) :=
 d9 PySem.F.plainAttrs_list PySem.F.slot_list_append PySem.F.type_list_append qP ho (au ha af n) hbase hfew hline (cW n) rfl
end
end VF22
namespace VF22
open PySem PySem.Spec PyProof.Rows L2 VF
theorem gd_mk2{P:Program}{w:World}{K:PySem.W.Frag}{C:Addr}{n:Nat}{a1 b1 a2 b2:Str}{t1 t2 t3 t4:Tok}
  (h:K.lookup C=some ⟨.type "dict",none,.dict #[⟨PyData.keyHash w.params a1,.str a1 t1,.str b1 t2⟩,⟨PyData.keyHash w.params a2,.str a2 t3,.str b2 t4⟩] n,#[]⟩)(hC:(C == sysModules)=false)(ne:a1≠a2):GD P w K C [(a1,b1),(a2,b2)]:=by
 refine⟨hC,_,_,n,h,⟨rfl,rfl,rfl⟩,rfl,fun e he=>?_,[(Sum.inr a1,.str b1 t2),(Sum.inr a2,.str b2 t4)],.cons (cH P w a1 t1) rfl (.cons (cH P w a2 t3) rfl .nil),?_,.cons ⟨rfl,t2,rfl⟩ (.cons ⟨rfl,t4,rfl⟩ .nil)⟩
 ·have he:e∈[(⟨PyData.keyHash w.params a1,.str a1 t1,.str b1 t2⟩:DictEntry),⟨PyData.keyHash w.params a2,.str a2 t3,.str b2 t4⟩]:=by simpa using he
  rcases Xd.mp he with rfl|he
  ·exact⟨Sum.inr a1,cH P w a1 t1,rfl⟩
  ·rcases Xd.mp he with rfl|he
   ·exact⟨Sum.inr a2,cH P w a2 t3,rfl⟩
   ·exact nomatch he
 ·show([Sum.inr a1,Sum.inr a2]:List Key).Nodup;simp[ne]
end VF22
namespace VF
open PySem PySem.Spec PyProof.Rows L2
section
variable {X:Cx}{K:PySem.W.Frag}
noncomputable def tD(K:PySem.W.Frag):V->List V->Hp->VK->Prop:=fun x vs H Q=>∃(sep:Str)(p:Addr)(ys:List Str),x=.str sep/\vs=[.ref p]/\(SqL K H p (ys.map V.str)∨SqT K H p (ys.map V.str))/\(ys.map (·.length)).sum+ys.length*sep.length<=16777216/\Q (.str (Txt.join sep ys)) H
theorem ga(h:X.K=K):MtR X "str.join" (tD K):=by
 subst h;intro pins s σ H x vs v us Q I rx rv h;obtain⟨sep,p,ys,rfl,rfl,hq,hz,q⟩:=h;obtain⟨t,rfl⟩:=rx;obtain⟨u,rfl,ru⟩:=vals1 rv;cases ru;rcases hq with hq|hq
 ·obtain⟨its,r,pl,_⟩:=I.list hq;exact bu (join_list pl.isList (en (by simpa using r)) hz fun t' k hle=>⟨.str _,H,I.tok k (I.tkl' hle),⟨t',rfl⟩,q⟩)
 ·obtain⟨its,r,pl,_⟩:=I.tuple hq;exact bu (join_tuple pl (en (by simpa using r)) hz fun t' k hle=>⟨.str _,H,I.tok k (I.tkl' hle),⟨t',rfl⟩,q⟩)
noncomputable def dU:D->List D->Option Rz
 | .str sep,[d]=>(d.seq).bind fun ds=>(eG ds).bind fun ys=>if (ys.map (·.length)).sum+ys.length*sep.length<=16777216 then some (.str (Txt.join sep ys),false) else none
 | _,_=>none
theorem gb:sL K (tD K) dU:=by
 intro Y H x xs d ds z Q lv b1 bs e q;cases d with
 | str sep =>
  cases bs with
  | nil=>cases e
  | @cons v vs d ds b2 bs =>
   cases bs with
   | cons _ _=>cases e
   | nil =>
    refine bsO (show(d.seq).bind _=_ from e) fun es e0 e=>?_;refine bsO e fun ys e1 e=>?_;obtain⟨c,e⟩:=aC e;cases e;obtain⟨p,ws,rfl,hp,el⟩:=my b2 e0;obtain rfl:=iZ el e1;exact⟨sep,p,ys,b1,rfl,hp,c,q _ H (Same.refl H) (.str _)⟩
 | _=>cases e
theorem tE{sep:Str}{ys:List Str}(h:(ys.map (·.length)).sum+ys.length*sep.length<=16777216):dU (.str sep) [.tup (ys.map D.str)]=some (.str (Txt.join sep ys),false):=by
 show(eG (ys.map D.str)).bind _=_;rw[eN];exact if_pos h
theorem tF{sep:Str}{ys:List Str}(h:(ys.map (·.length)).sum+ys.length*sep.length<=16777216):jZ (.str sep) [.lst (ys.map D.str)]=some (.str (Txt.join sep ys),false):=by
 show(eG (ys.map D.str)).bind _=_;rw[eN];exact if_pos h
end
end VF
namespace VT
open PySem PySem.Spec PyProof.Rows L2 VF
noncomputable def rp(c:Nat)(z:List Nat)(k:Nat):List Nat:=if k=c then z else [k]
theorem mN(c:Nat)(z:List Nat):∀l:List Nat,c∉l->l.flatMap (rp c z)=l
 | [],_=>rfl
 | k::r,h=>by
  have h1:¬ k=c:=fun e=>h (e ▸ Xb ..);rw[Xc,mN c z r fun m=>h (Va _ m),rp,if_neg h1];rfl
theorem qp(c:Nat)(z:Str):∀parts:List Str,(∀p∈parts,c∉p.cps.toList)->(Str.join ⟨#[c]⟩ parts).cps.toList.flatMap (rp c z.cps.toList)=(Str.join z parts).cps.toList
 | [],_=>rfl
 | [p],h=>mN c _ _ (h p (Zd.mpr rfl))
 | p::q::r,h=>by
  have ih:=qp c z (q::r) fun a ha=>h a (Va _ ha);show(p++⟨#[c]⟩++Str.join ⟨#[c]⟩ (q::r)).cps.toList.flatMap (rp c z.cps.toList)=(p++z++Str.join z (q::r)).cps.toList;simp only[Str.cps_append,Yg,Qe];rw[ih,mN c _ _ (h p (Xb ..))];show p.cps.toList++(rp c z.cps.toList c++[])++_=_;rw[rp,if_pos rfl,Zc]
theorem j9(x z:Str)(c:Nat):(Txt.replace x ⟨#[c]⟩ z).cps.toList=x.cps.toList.flatMap (rp c z.cps.toList):=by
 rw[StrLaws.replace_one,← qp c z _ (StrLaws.split_free x c),StrLaws.join_split]
noncomputable def mk3(cs:List Nat)(k:Nat):List Nat:=if k∈cs then [32,k,32] else [k]
theorem gc{α β:Type}{f g:α->List β}:∀{l:List α},(∀a∈l,f a=g a)->l.flatMap f=l.flatMap g
 | [],_=>rfl
 | a::l,h=>by rw[Xc,Xc,h a (Xb ..),gc fun b hb=>h b (Va _ hb)]
theorem qq(c:Nat):(fmt " " " " ⟨#[c]⟩).cps.toList=[32,c,32]:=by
 unfold fmt;simp only[Str.cps_append,Yg];rfl
theorem kc:∀(cs:List Nat)(a:Str),32∉cs->cs.Nodup->(bT " " " " cs a).cps.toList=a.cps.toList.flatMap (mk3 cs)
 | [],a,_,_=>by
  show a.cps.toList=_;have:a.cps.toList.flatMap (mk3 [])=a.cps.toList.flatMap fun k=>[k]:=gc fun k _=>by simp[mk3]
  rw[this];simp
 | c::cs,a,h,n=>by
  have nc:c∉cs:=(Vg.mp n).1;have hb:32∉cs:=fun m=>h (Va _ m);show(bT " " " " cs (Txt.replace a ⟨#[c]⟩ (fmt " " " " ⟨#[c]⟩))).cps.toList=_;rw[kc cs _ hb (Vg.mp n).2,j9,List.flatMap_assoc,qq];refine gc fun k _=>?_;by_cases e:k=c
  ·subst e;simp[rp,mk3,nc,hb]
  ·simp[rp,mk3,e]
theorem ke:∀(cs:List Nat)(a:Str),(bT " " " " cs a).cps.toList.length<=3 ^ cs.length*a.cps.toList.length
 | [],a=>by show a.cps.toList.length<=_;simp
 | c::cs,a=>by
  have ih:=ke cs (Txt.replace a ⟨#[c]⟩ (fmt " " " " ⟨#[c]⟩));have h1:(Txt.replace a ⟨#[c]⟩ (fmt " " " " ⟨#[c]⟩)).cps.toList.length<=3*a.cps.toList.length:=by
   rw[j9,qq];generalize a.cps.toList=l;induction l with
   | nil=>simp
   | cons k r ih =>
    rw[Xc,Za,Yd];have:(rp c [32,c,32] k).length<=3:=by unfold rp;split<;>simp
    lia
  show(bT " " " " cs (Txt.replace a ⟨#[c]⟩ (fmt " " " " ⟨#[c]⟩))).cps.toList.length<=_;refine Wb ih ?_;rw[Yd,Nat.pow_succ,Nat.mul_assoc];exact Nat.mul_le_mul_left _ h1
theorem nX:∀(cs:List Nat)(a:Str),3 ^ cs.length*a.cps.toList.length<=1048576->gM " " " " cs a=true
 | [],_,_=>rfl
 | c::cs,a,h=>by
  have h1:(Txt.replace a ⟨#[c]⟩ (fmt " " " " ⟨#[c]⟩)).cps.toList.length<=3*a.cps.toList.length:=by
   have:=ke [c] a;simpa[bT]using this
  have hp:1<=3 ^ cs.length:=Nat.one_le_pow _ _ (by decide)
  rw[Yd,Nat.pow_succ,Nat.mul_assoc]at h;have h2:3*a.cps.toList.length<=3 ^ cs.length*(3*a.cps.toList.length):=Nat.le_mul_of_pos_left _ hp;have e:gM " " " " (c::cs) a=(decide (a.length<=1048576)&&gM " " " " cs (Txt.replace a ⟨#[c]⟩ (fmt " " " " ⟨#[c]⟩))):=rfl;rw[e,nX cs _ (Wb (Nat.mul_le_mul_left _ h1) h),Bool.and_true];have:a.length=a.cps.toList.length:=by simp[Str.length]
  simp only[decide_eq_true_eq];lia
noncomputable def em(acc:List Nat):List (List Nat):=if acc=[] then [] else [acc]
noncomputable def wd:List Nat->List Nat->List (List Nat)
 | acc,[]=>em acc
 | acc,k::r=>if k=32 then em acc++wd [] r else wd (acc++[k]) r
theorem mO:∀(p acc r:List Nat),32∉p->wd acc (p++r)=wd (acc++p) r
 | [],acc,r,_=>by simp
 | k::p,acc,r,h=>by
  have h1:¬ k=32:=fun e=>h (e ▸ Xb ..);show(if k=32 then em acc++wd [] (p++r) else wd (acc++[k]) (p++r))=_;rw[if_neg h1,mO p (acc++[k]) r fun m=>h (Va _ m),Vb];rfl
theorem qr:∀(ps:List Str),(∀p∈ps,32∉p.cps.toList)->wd [] (Str.join ⟨#[32]⟩ ps).cps.toList=(ps.map fun p=>p.cps.toList).filter (fun p=>!p.isEmpty)
 | [],_=>rfl
 | [p],h=>by
  show wd [] p.cps.toList=_;have:=mO p.cps.toList [] [] (h p (Zd.mpr rfl));rw[Zc,Zi]at this;rw[this];show em p.cps.toList=_;cases e:p.cps.toList with
  | nil=>simp[em,e]
  | cons a b=>simp[em,e]
 | p::q::r,h=>by
  have ih:=qr (q::r) fun a ha=>h a (Va _ ha);show wd [] (p++⟨#[32]⟩++Str.join ⟨#[32]⟩ (q::r)).cps.toList=_;simp only[Str.cps_append,Yg];rw[Vb,mO _ _ _ (h p (Xb ..)),Zi];show(if 32=32 then em p.cps.toList++wd [] (Str.join ⟨#[32]⟩ (q::r)).cps.toList else _)=_;rw[if_pos rfl,ih];show _=((p.cps.toList)::((q::r).map fun p=>p.cps.toList)).filter (fun p=>!p.isEmpty);rw[List.filter_cons];generalize ((q::r).map fun p=>p.cps.toList).filter (fun p=>!p.isEmpty)=z;cases e:p.cps.toList with
  | nil=>simp[em]
  | cons a b=>simp[em]
theorem tG(x:Str):((Txt.split x ⟨#[32]⟩).map fun p=>p.cps.toList).filter (fun p=>!p.isEmpty)=wd [] x.cps.toList:=by
 rw[← qr _ (StrLaws.split_free x 32),StrLaws.join_split]
noncomputable def ft(ms:List Nat)(k:Nat):List Nat:=if k=10 then [32] else if k∈ms then [32,k,32] else [k]
noncomputable def wt(ms acc l:List Nat):List (List Nat):=wd acc (l.flatMap (ft ms))
theorem yU{ms:List Nat}(h1:32∉ms)(h2:10∉ms)(l:List Nat):(l.flatMap (rp 10 [32])).flatMap (mk3 ms)=l.flatMap (ft ms):=by
 rw[List.flatMap_assoc];refine gc fun k _=>?_;by_cases e:k=10
 ·subst e;simp[rp,mk3,ft,h1]
 ·simp[rp,mk3,ft,e]
theorem xD(acc r:List Nat):wd acc (32::r)=em acc++wd [] r:=by
 show(if 32=32 then em acc++wd [] r else _)=_;rw[if_pos rfl]
theorem mP:em []=[]:=rfl
noncomputable def isB(k:Nat):Prop:=k=32∨k=10
theorem yV{ms acc r:List Nat}{k:Nat}(hk:isB k)(h:32∉ms):wt ms acc (k::r)=em acc++wt ms [] r:=by
 unfold wt;rw[Xc];have:ft ms k=[32]:=by
  rcases hk with rfl|rfl
  ·simp[ft,h]
  ·simp[ft]
 rw[this];exact xD acc _
theorem tH{ms:List Nat}(h:32∉ms):∀{g:List Nat}(_:∀k∈g,isB k)(r:List Nat),wt ms [] (g++r)=wt ms [] r
 | [],_,_=>rfl
 | k::g,hg,r=>by
  rw[Yk,yV (hg k (Xb ..)) h,mP,Zi];exact tH h (fun j hj=>hg j (Va _ hj)) r
theorem u4{ms acc g:List Nat}(h:32∉ms)(hg:∀k∈g,isB k)(hn:g≠[])(r:List Nat):wt ms acc (g++r)=em acc++wt ms [] r:=by
 cases g with
 | nil=>exact absurd rfl hn
 | cons k g =>
  rw[Yk,yV (hg k (Xb ..)) h];rw[tH h (fun j hj=>hg j (Va _ hj)) r]
theorem u5{ms acc r:List Nat}{c:Nat}(hc:c∈ms)(h:32∉ms)(h2:10∉ms):wt ms acc (c::r)=em acc++[c]::wt ms [] r:=by
 unfold wt;rw[Xc];have e:¬ c=10:=fun e=>h2 (e ▸ hc);have e2:¬ c=32:=fun e=>h (e ▸ hc);have:ft ms c=[32,c,32]:=by simp[ft,e,hc]
 rw[this];show wd acc (32::c::32::_)=_;rw[xD];show _++(if c=32 then _ else wd ([]++[c]) (32::_))=_;rw[if_neg e2,xD];rfl
noncomputable def isW(ms:List Nat)(k:Nat):Prop:=k≠32/\k≠10/\k∉ms
theorem qt{ms:List Nat}:∀{u:List Nat}(_:∀k∈u,isW ms k)(acc r:List Nat),wt ms acc (u++r)=wt ms (acc++u) r
 | [],_,acc,r=>by simp
 | k::u,hu,acc,r=>by
  obtain⟨h1,h2,h3⟩:=hu k (Xb ..);have ih:=qt (ms:=ms) (fun j hj=>hu j (Va _ hj)) (acc++[k]) r;rw[Vb]at ih;rw[show acc++k::u=acc++([k]++u) from rfl,← ih];unfold wt;rw[Yk,Xc];have:ft ms k=[k]:=by simp[ft,h2,h3]
  rw[this];show(if k=32 then _ else wd (acc++[k]) _)=_;rw[if_neg h1];rfl
theorem xE{ms acc:List Nat}:wt ms acc []=em acc:=rfl
end VT
namespace VL
open PySem L2 VF
noncomputable def Lw(x:Str):Prop:=∀c∈x.cps.toList,97<=c/\c<=122
noncomputable abbrev letS:Str:=Str.ofString "abcdefghijklmnopqrstuvwxyz"
theorem kf:letS.cps.toList=List.range' 97 26:=by decide +kernel
noncomputable def Nm(x:Str):Prop:=1<=x.length/\x.length<=6/\Lw x
theorem tI{ys:List Str}(h:∀y∈ys,∃c,y=⟨#[c]⟩/\97<=c/\c<=122):Lw (Txt.join (Str.ofString "") ys):=by
 intro c hc;have e:Txt.join (Str.ofString "") ys=Str.join (Str.ofString "") ys:=StrLaws.glued_eq_join _ _;rw[e]at hc;rcases(PyProof.Rows.mem_join _ _ _).mp hc with⟨t,ht,hct⟩|⟨_,z⟩
 ·obtain⟨c',rfl,h1⟩:=h t ht;have:c=c':=by simpa using hct
  rw[this];exact h1
 ·have hE:(Str.ofString "").cps.toList=[]:=by decide +kernel
  rw[hE]at z;cases z
theorem join_ones{ys:List Str}(h:∀y∈ys,∃c,y=(⟨#[c]⟩:Str)):(Txt.join (Str.ofString "") ys).length=ys.length :=
 PySem.W.KT.join_ones ys fun a ha=>by obtain⟨c,rfl⟩:=h a ha;rfl
theorem tK{ys:List Str}(h:∀y∈ys,∃c,y=(⟨#[c]⟩:Str)):(ys.map (·.length)).sum=ys.length:=by
 induction ys with
 | nil=>rfl
 | cons y r ih =>
  obtain⟨c,rfl⟩:=h y Xb;rw[Yc,List.sum_cons,ih fun z hz=>h z (Va _ hz)];show 1+r.length=r.length+1;lia
theorem Lw.app{x y:Str}(a:Lw x)(b:Lw y):Lw (x++y):=fun c hc=>by
 rw[Str.cps_append,Yg]at hc;rcases Xg.mp hc with z|z
 ·exact a c z
 ·exact b c z
theorem tL:Lw (Str.ofString ""):=fun c hc=>by
 have hE:(Str.ofString "").cps.toList=[]:=by decide +kernel
 rw[hE]at hc;cases hc
noncomputable def word(s:Nat):Str:=Txt.mul ⟨#[97+s % 26]⟩ (1+((s:Nat):Int) / 26)
theorem gz(s:Nat):(word s).cps.toList=List.replicate (1+s / 26) (97+s % 26):=by
 unfold word;rw[PyProof.Rows.mul_one_list];have e:(1+((s:Nat):Int) / 26).toNat=1+s / 26:=by lia
 rw[e]
theorem nY(s:Nat):(word s).length=1+s / 26:=by
 have:=congrArg List.length (gz s);rw[Ve,Qg]at this;exact this
theorem tM{a b:Nat}(h:word a=word b):a=b:=by
 have h1:(word a).cps.toList=(word b).cps.toList:=by rw[h]
 rw[gz,gz]at h1;have h2:=congrArg List.length h1;rw[Ve,Ve]at h2;have h3:=congrArg (fun l=>l[0]?) h1;simp only[Vf]at h3;rw[if_pos (by lia),if_pos (by lia)]at h3
 have h4:=Option.some.inj h3;lia
theorem u6{s:Nat}(h:s<=120):Nm (word s):=by
 refine⟨by rw[nY];lia,by rw[nY];lia,fun c hc=>?_⟩
 rw[gz]at hc;have:=List.eq_of_mem_replicate hc;lia
theorem rf{xs:List Str}{s:Nat}(h:∀j,j<s->word j∈xs):s<=xs.length:=by
 have:=nI ((List.range s).map word) xs (by
  show List.Pairwise _ _;rw[List.pairwise_map];exact List.nodup_range.imp fun hne e=>hne (tM e)) (fun x hx=>by
  obtain⟨j,hj,rfl⟩:=We.mp hx
  exact h j (List.mem_range.mp hj))
 rw[Xa,List.length_range]at this;exact this
theorem xF(s:Nat):atI letS.cps.toList (((s:Nat):Int) % 26)=some (97+s % 26):=by
 have e:((s:Nat):Int) % 26=(((s % 26:Nat)):Int):=by lia
 rw[e];refine md ?_;rw[kf,List.getElem?_range' (by lia)]
 congr 1;lia
theorem kg{α:Type}:∀{l:List α}{i:Nat}(h:i<l.length),(l[i]::l.eraseIdx i).Perm l
 | _::_,0,_=>List.Perm.refl _
 | x::r,i+1,h=>(List.Perm.swap x _ _).trans (List.Perm.cons x (kg (l:=r) (i:=i) (Nat.lt_of_succ_lt_succ h)))
noncomputable abbrev minus:Str:=Str.ofString "-"
noncomputable def bd(p:Bool×Str):Str:=if p.1 then minus++p.2 else p.2
theorem hU:minus.cps.toList=[45]:=by decide +kernel
theorem gd{p:Bool×Str}(h:Nm p.2):1<=(bd p).length/\(bd p).length<=7:=by
 have e:minus.length=1:=by decide +kernel
 unfold bd;split
 ·rw[Str.length_append,e];have:=h.1;have:=h.2.1;lia
 ·have:=h.1;have:=h.2.1;lia
theorem str_ext{x y:Str}(h:x.cps.toList=y.cps.toList):x=y:=by
 cases x;cases y;have:_=_:=Array.toList_inj.mp h;exact congrArg Str.mk this
theorem xG{n:Str}:Txt.slice (minus++n) (some 1) none=n:=by
 have e:minus.length=1:=by decide +kernel
 rw[PyProof.Rows.slice_from_eq (i:=1) (b:=((minus++n).length:Int)) (by decide) (by rw[Str.length_append,e];lia) rfl]
 refine str_ext ?_;show((List.drop 1 (minus++n).cps.toList).take _).toArray.toList=_;rw[Str.cps_append,Yg,hU,Str.length_append,e];show List.take _ n.cps.toList=_;refine List.take_of_length_le ?_;rw[Qg];show n.length<=_;lia
theorem rg{d:Int}{n:Str}(d0:0<=d)(d1:d<2):Txt.mul minus d++n=bd (decide (d=1),n):=by
 have h:d=0∨d=1:=by lia
 rcases h with rfl|rfl
 ·show(if (0:Int)<1 then Str.empty else _)++n=_;rw[if_pos (by decide)]
  exact Str.empty_append n
 ·rfl
theorem u7{n:Str}(h:Nm n):∃c r,n.cps.toList=c::r/\c≠45:=by
 cases e:n.cps.toList with
 | nil =>
  have h1:1<=n.length:=h.1;have:=congrArg List.length e;rw[Qg]at this;have h2:n.cps.size=n.length:=rfl;rw[h2]at this;simp at this;lia
 | cons c r =>
  refine⟨c,r,rfl,fun z=>?_⟩;have hc:=h.2.2 c (by rw[e];exact Xb)
  lia
theorem rh{t:Bool}{n:Str}(h:Nm n):Txt.startswith (bd (t,n)) minus=t:=by
 have e1:minus.length=1:=by decide +kernel
 have hl:=(gd (p:=(t,n)) h).1;unfold Txt.startswith
 rw[decide_eq_true (show 0+minus.length<=(bd (t,n)).length by lia),Bool.true_and,StrLaws.subAt_eq,hU,e1]
 cases t with
 | true =>
  show((((minus++n).cps.toList).drop 0).take 1 == [45])=true;rw[Str.cps_append,Yg,hU];rfl
 | false =>
  obtain⟨c,r,e,hc⟩:=u7 h;show(((n.cps.toList).drop 0).take 1 == [45])=false;rw[e];show([c] == [45])=false;simp[hc]
end VL
namespace K04
open PySem L2 VF VF22
noncomputable section
noncomputable def nZ:FE :=
  (fOp bIn (ag 0) (fC (.str "abcdefghijklmnopqrstuvwxyz")))
noncomputable def lG:FS :=
  (aA (sIf (iW (cO (aE (fCB bF (ac (ag 0) (ac (fC (.ty "str")) ao))))) (cO (aE (mq bLe bLe (fC (.int 1)) (fCB g8 (ac (ag 0) ao)) (fC (.int 6)))))) (bo (fC (.bl false))) bt)
  (bo (fCB qZ (ac (cv 1 [] (fIA (ag 0)) (gN 0) fu nZ) ao))))
noncomputable def gA:List D->Option Rz:=bx lG 1 1
noncomputable def jl:FS :=
  (bo (fBM "str" qc (ag 0) (ac (fC (.str "-")) ao)))
noncomputable def dM:List D->Option Rz:=bx jl 1 1
noncomputable def lH:FS :=
  (bo (fIf (aE (bm dM (ac (ag 0) ao))) (fSl bSl (ag 0) (ff (fC (.int 1))) oNo) (ag 0)))
noncomputable def gB:List D->Option Rz:=bx lH 1 1
noncomputable def lI:FS :=
  (bo (iq (fCB bF (ac (ag 0) (ac (fC (.ty "str")) ao))) (bm gA (ac (bm gB (ac (ag 0) ao)) ao))))
noncomputable def i4:List D->Option Rz:=bx lI 1 1
noncomputable def mQ:FS :=
  (sIf (aE (fCB bF (ac (ag 2) (ac (fC (.ty "str")) ao)))) (cu (fM isL bW 1 (ac (ag 2) ao))) (cu (fM isL mH 1 (ac (fOp bIx (ag 2) (fC (.int 1))) ao))))
noncomputable def eS:FS :=
  (aA (aY (bX ao) 1)
  (aA (gE (fIA (ag 0)) (gN 2) mQ)
  (bo (ag 1))))
noncomputable def dg:List D->Option Rz:=bx eS 3 1
noncomputable def gO:FS :=
  (aA (aY (fBM "str" dU (fC (.str " ")) (ac (fOp bIx (ag 0) (fC (.int 1))) ao)) 1)
  (bo (fIf (aE (fOp bEq (fOp bIx (ag 0) (fC (.int 0))) (fC (.str "open")))) (fJ (fJc (fC (.str "[")) (fJc (fUn oY (ag 1)) (fJc (fC (.str "]")) fJn)))) (fJ (fJc (fC (.str "(")) (fJc (fUn oY (ag 1)) (fJc (fC (.str ")")) fJn)))))))
noncomputable def dW:List D->Option Rz:=bx gO 2 1
noncomputable def iC:FE :=
  (bm dW (ac (ag 0) ao))
noncomputable def kh:FS :=
  (bo (fBM "str" jZ (fC (.str " ")) (ac (cv 1 [] (fIA (ag 0)) (gN 0) fu iC) ao)))
noncomputable def eT:List D->Option Rz:=bx kh 1 1
noncomputable def jm:FS :=
  (aA (aY (fBM "str" dU (fC (.str " ")) (ac (ag 0) ao)) 1)
  (bo (fJ (fJc (fC (.str "|")) (fJc (fUn oY (ag 1)) (fJc (fC (.str "|")) fJn))))))
noncomputable def ge:List D->Option Rz:=bx jm 2 1
noncomputable def iD:FT :=
  (aE (fOp bNe (ag 0) (fC (.str ""))))
noncomputable def iE:FE :=
  (ag 0)
noncomputable def hV:FS :=
  (aA (sIf (cO (aE (fCB bF (ac (ag 0) (ac (fC (.ty "str")) ao))))) i3 bt)
  (aA (aY (VT.fRepl "\n" " " (ag 0)) 2)
  (aA (VT.sFRep 3 2 " " " " (ag 1))
  (bo (cv 1 [] (fIA (fBM "str" o0 (ag 2) (ac (fC (.str " ")) ao))) (gN 0) iD iE)))))
noncomputable def dh:List D->Option Rz:=bx hV 4 2
noncomputable def iF:FE :=
  (bm i4 (ac (ag 0) ao))
noncomputable def ki:FS :=
  (aA (sIf (cO (aE (fCB qZ (ac (cv 1 [] (fIA (ag 0)) (gN 0) fu iF) ao)))) i3 bt)
  (bo (fCB cT (ac (ag 0) ao))))
noncomputable def eU:List D->Option Rz:=bx ki 1 1
noncomputable def gP:FS :=
  (aA (aY (b8 eU (ac (fSl bSl (ag 0) (ff (fC (.int 1))) (ff (fUn qY (fC (.int 1))))) ao)) 1)
  (aA (sIf (iW (aE (ql true [("[","open"),("(","ring")] (fOp bIx (ag 0) (fC (.int 0))))) (iW (aE (fOp bNe (fOp bIx (ag 0) (fUn qY (fC (.int 1)))) (tu [("[","]"),("(",")")] (fOp bIx (ag 0) (fC (.int 0)))))) (aE (fOp bEq (fCB g8 (ac (ag 1) ao)) (fC (.int 0)))))) i3 bt)
  (bo (jU (ac (tu [("[","open"),("(","ring")] (fOp bIx (ag 0) (fC (.int 0)))) (ac (ag 1) ao))))))
noncomputable def dX:List D->Option Rz:=bx gP 2 1
noncomputable def aS:FS :=
  (aA (cu (fM isL bW 2 (ac (ag 3) ao)))
  (sIf (aE (fOp bIn (ag 3) (jU (ac (fC (.str "]")) (ac (fC (.str ")")) ao))))) (aA (cu (fM isL bW 1 (ac (ag 2) ao)))
  (aY (bX ao) 2)) bt))
noncomputable def gf:FS :=
  (aA (aY (bX ao) 1)
  (aA (aY (bX ao) 2)
  (aA (gE (fIA (ag 0)) (gN 3) aS)
  (aA (sIf (aE (fOp bNe (ag 2) (bX ao))) (cu (fM isL bW 1 (ac (ag 2) ao))) bt)
  (bo (ag 1))))))
noncomputable def cm:List D->Option Rz:=bx gf 4 1
noncomputable def cC:FS :=
  (aA (aY (bm gB (ac (ag 2) ao)) 3)
  (aA (sIf (aE (fOp (yT false) (ag 3) (ag 1))) i3 bt)
  (kQ v8 (fC (.bl true)) 1 (ag 3))))
noncomputable def gh:FS :=
  (aA (aY (v9 (.dk [])) 1)
  (gE (fIA (b8 dg (ac (ag 0) ao))) (gN 2) cC))
noncomputable def cn:List D->Option Rz:=bx gh 4 1
noncomputable def iG:FE :=
  (b8 dX (ac (ag 0) ao))
noncomputable def kj:FS :=
  (aA (aY (fCB cT (ac (cv 1 [] (fIA (b8 cm (ac (b8 dh (ac (ag 0) (ac (fC (.str "[]()")) ao))) ao))) (gN 0) fu iG) ao)) 1)
  (aA (cu (b8 cn (ac (ag 1) ao)))
  (bo (ag 1))))
noncomputable def cD:List D->Option Rz:=bx kj 2 1
noncomputable def jo:FS :=
  (aA (aY (b8 dh (ac (ag 0) (ac (fC (.str "|")) ao))) 1)
  (aA (sIf (iW (aE (fOp bLt (fCB g8 (ac (ag 1) ao)) (fC (.int 2)))) (iW (aE (fOp bNe (fOp bIx (ag 1) (fC (.int 0))) (fC (.str "|")))) (aE (fOp bNe (fOp bIx (ag 1) (fUn qY (fC (.int 1)))) (fC (.str "|")))))) i3 bt)
  (aA (aY (b8 eU (ac (fSl bSl (ag 1) (ff (fC (.int 1))) (ff (fUn qY (fC (.int 1))))) ao)) 2)
  (aA (cu (b8 cn (ac (ag 2) ao)))
  (bo (ag 2))))))
noncomputable def cK:List D->Option Rz:=bx jo 3 1
noncomputable def kl:FS :=
  (bo (bX (ac (fCB j4 (ac (ag 0) ao)) (ac (fC (.int 0)) (ac (fC (.int 0)) (ac (fC (.int 1)) (ac (fC (.int 0)) ao)))))))
noncomputable def hW:List D->Option Rz:=bx kl 1 1
noncomputable def hX:FS :=
  (aA (sIf (ip (aE (fOp bEq (fOp bIx (ag 0) (fC (.int 2))) (fC (.int 0)))) (aE (fOp bLt (fOp bIx (ag 0) (fC (.int 1))) (fCB g8 (ac (fOp bIx (ag 0) (fC (.int 0))) ao))))) (aA (aY (fOp bIx (fOp bIx (ag 0) (fC (.int 0))) (fOp bIx (ag 0) (fC (.int 1)))) 2)
  (aA (kQ j0 (fOp bY (fOp bIx (ag 0) (fC (.int 1))) (fC (.int 1))) 0 (fC (.int 1)))
  (sIf (aE (fOp bGe (ag 2) (fOp yw (fC (.int 10)) (fC (.int 18))))) (kQ j0 (ag 2) 0 (fC (.int 2))) (kQ j0 (fOp jX (fOp bY (fOp bY (fOp jz (fOp bIx (ag 0) (fC (.int 3))) (fC (.int 40013))) (fOp jX (ag 2) (fC (.int 1000003)))) (fC (.int 1))) (fC (.int 2147483647))) 0 (fC (.int 3)))))) bt)
  (aA (sIf (aE (fOp bGt (fOp bIx (ag 0) (fC (.int 2))) (fC (.int 0)))) (aA (aY (fOp jX (fOp bIx (ag 0) (fC (.int 2))) (ag 1)) 3)
  (aA (kQ j0 (fOp jy (fOp bIx (ag 0) (fC (.int 2))) (ag 1)) 0 (fC (.int 2)))
  (bo (ag 3)))) bt)
  (aA (kQ j0 (fOp bY (fOp bIx (ag 0) (fC (.int 4))) (fC (.int 1))) 0 (fC (.int 4)))
  (aA (kQ j0 (fOp jX (fOp bY (fOp bY (fOp jz (fOp bIx (ag 0) (fC (.int 3))) (fC (.int 48271))) (fC (.int 12820163))) (fOp bIx (ag 0) (fC (.int 4)))) (fC (.int 2147483647))) 0 (fC (.int 3)))
  (bo (fOp jX (fOp jy (fOp jX (fOp jz (fOp bY (fOp jX (fOp bIx (ag 0) (fC (.int 3))) (fC (.int 65521))) (fC (.int 1))) (fOp bY (fOp jy (fOp bIx (ag 0) (fC (.int 3))) (fC (.int 65521))) (fC (.int 7919)))) (fC (.int 1000003))) (fC (.int 7))) (ag 1)))))))
noncomputable def aH:D->List D->Option (Rz×D):=bS hX 4 2
noncomputable def gQ:FS :=
  (bo (fBM "str" jZ (fC (.str "")) (ac (cv 1 [0] (oM (ac (ag 1) ao)) (gN 0) fu (fOp bIx (fC (.str "abcdefghijklmnopqrstuvwxyz")) (fIO aH 1 (ac (fC (.int 26)) ao)))) ao)))
noncomputable def ca:D->List D->Option (Rz×D):=bS gQ 2 2
noncomputable def km:FS :=
  (aA (sIf (aE (fOp bNe (ag 1) (fC (.str "")))) (bo (fOp bY (ag 1) (fIO ca 0 (ac (fOp bY (fC (.int 1)) (fIO aH 0 (ac (fC (.int 2)) ao))) ao)))) bt)
  (aA (sIf (aE (fOp bEq (fIO aH 0 (ac (fC (.int 7)) ao)) (fC (.int 0)))) (aA (aY (bX (fU ["to","turn","turns","ring","rings","odd","ours","row","rows","cuts","knots","cover"])) 2)
  (aA (aY (fOp bY (ag 2) (bX (fU ["change","joins","theirs","one","two","home","none","open","keep","tox","onex"]))) 2)
  (bo (fOp bIx (ag 2) (fIO aH 0 (ac (fC (.int 23)) ao)))))) bt)
  (bo (fIO ca 0 (ac (fOp bY (fC (.int 1)) (fIO aH 0 (ac (fC (.int 6)) ao))) ao)))))
noncomputable def hY:D->List D->Option (Rz×D):=bS km 3 2
noncomputable def gi:FS :=
  (aA (aY (fC (.str "")) 2)
  (aA (sIf (aE (fOp bEq (fIO aH 0 (ac (fC (.int 3)) ao)) (fC (.int 0)))) (aY (fIO ca 0 (ac (fOp bY (fC (.int 1)) (fIO aH 0 (ac (fC (.int 4)) ao))) ao)) 2) bt)
  (aA (aY (bX ao) 3)
  (aA (gE (oM (ac (ag 1) ao)) (gN 4) (aA (aY (fIO hY 0 (ac (ag 2) ao)) 5)
  (aA (aY (fC (.int 0)) 6)
  (aA (sWh (aE (fOp bIn (ag 5) (ag 3))) (aA (aY (fOp jz (fOp bIx (fC (.str "abcdefghijklmnopqrstuvwxyz")) (fOp jX (ag 6) (fC (.int 26)))) (fOp bY (fC (.int 1)) (fOp jy (ag 6) (fC (.int 26))))) 5)
  (aY (fOp bY (ag 6) (fC (.int 1))) 6)) 200)
  (cu (fM isL bW 3 (ac (ag 5) ao)))))))
  (bo (ag 3))))))
noncomputable def gj:D->List D->Option (Rz×D):=bS gi 7 2
noncomputable def gk:FS :=
  (aA (aY (fCB j4 (ac (ag 1) ao)) 2)
  (aA (aY (bX ao) 3)
  (aA (sWh (aE (fOp bNe (ag 2) (bX ao))) (cu (fM isL bW 3 (ac (fM isL mD 2 (ac (fIO aH 0 (ac (fCB g8 (ac (ag 2) ao)) ao)) ao)) ao))) 300)
  (bo (ag 3)))))
noncomputable def di:D->List D->Option (Rz×D):=bS gk 4 2
noncomputable def kn:FS :=
  (bo (fCB cT (ac (cv 1 [0] (fIA (fIO di 0 (ac (ag 1) ao))) (gN 0) fu (fOp bY (fOp jz (fC (.str "-")) (fIO aH 1 (ac (fC (.int 2)) ao))) (ag 0))) ao)))
noncomputable def cb:D->List D->Option (Rz×D):=bS kn 2 2
noncomputable def i5:FS :=
  (aA (aY (bX ao) 3)
  (aA (aY (bX ao) 4)
  (aA (gE (fIA (fIO cb 0 (ac (ag 1) ao))) (gN 5) (aA (cu (fM isL bW 4 (ac (ag 5) ao)))
  (sIf (aE (fOp bEq (fIO aH 0 (ac (fC (.int 3)) ao)) (fC (.int 0)))) (aA (cu (fM isL bW 3 (ac (jU (ac (fC (.str "open")) (ac (fCB cT (ac (ag 4) ao)) ao))) ao)))
  (aY (bX ao) 4)) (sIf (ip (aE (ag 2)) (aE (fOp bEq (fIO aH 0 (ac (fC (.int 3)) ao)) (fC (.int 0))))) (aA (cu (fM isL bW 3 (ac (jU (ac (fC (.str "ring")) (ac (fCB cT (ac (ag 4) ao)) ao))) ao)))
  (aY (bX ao) 4)) bt))))
  (aA (sIf (aE (fOp bNe (ag 4) (bX ao))) (cu (fM isL bW 3 (ac (jU (ac (fC (.str "open")) (ac (fCB cT (ac (ag 4) ao)) ao))) ao))) bt)
  (bo (fCB cT (ac (ag 3) ao)))))))
noncomputable def i6:D->List D->Option (Rz×D):=bS i5 6 3
noncomputable def jp(gs:List D->Option Rz):FS :=
  (aA (sIf (aE (fOp (xg false) (ag 1) (fC .non))) (bo (fOp (xg false) (ag 0) (fC .non))) bt)
  (aA (sIf (iW (aE (fCB bF (ac (ag 1) (ac (fC (.ty "bool")) ao)))) (aE (fCB bF (ac (ag 0) (ac (fC (.ty "bool")) ao))))) (bo (iq (fCB bF (ac (ag 1) (ac (fC (.ty "bool")) ao))) (iq (fCB bF (ac (ag 0) (ac (fC (.ty "bool")) ao))) (fOp bEq (ag 0) (ag 1))))) bt)
  (aA (sIf (aE (fCB bF (ac (ag 1) (ac (fC (.ty "int")) ao)))) (bo (iq (fCB bF (ac (ag 0) (ac (fC (.ty "int")) ao))) (fOp bEq (ag 0) (ag 1)))) bt)
  (aA (sIf (aE (fCB bF (ac (ag 1) (ac (fC (.ty "str")) ao)))) (bo (iq (fCB bF (ac (ag 0) (ac (fC (.ty "str")) ao))) (fOp bEq (ag 0) (ag 1)))) bt)
  (aA (sIf (iW (aE (fOp bNe (fCB bF (ac (ag 1) (ac (fC (.ty "tuple")) ao))) (fCB bF (ac (ag 0) (ac (fC (.ty "tuple")) ao))))) (aE (fOp bNe (fCB bF (ac (ag 1) (ac (fC (.ty "list")) ao))) (fCB bF (ac (ag 0) (ac (fC (.ty "list")) ao)))))) (bo (fC (.bl false))) bt)
  (bo (iq (fOp bEq (fCB g8 (ac (ag 0) ao)) (fCB g8 (ac (ag 1) ao))) (fCB qZ (ac (cv 1 [0,1] (oM (ac (fCB g8 (ac (ag 1) ao)) ao)) (gN 0) fu (bm gs (ac (fOp bIx (ag 1) (ag 0)) (ac (fOp bIx (ag 2) (ag 0)) ao)))) ao)))))))))
noncomputable def dj:FS :=
  (aA (aY (bX (ac (fC (.str "[")) (ac (fC (.str "]")) ao))) 4)
  (aA (sIf (aE (fOp bEq (ag 2) (fC (.str "ring")))) (aY (bX (ac (fC (.str "(")) (ac (fC (.str ")")) ao))) 4) bt)
  (aY (fOp fj (fOp fj (fOp fj (ag 1) (fSl nS (ag 4) oNo (ff (fC (.int 1))))) (fCB j4 (ac (ag 3) ao))) (fSl nS (ag 4) (ff (fC (.int 1))) oNo)) 1)))
noncomputable def iH:FS :=
  (aA (aY (bX ao) 1)
  (aA (gE (fIA (ag 0)) (gT 2 (gsC (gN 2) (gsC (gN 3) gsN))) dj)
  (bo (ag 1))))
noncomputable def eV:List D->Option Rz:=bx iH 5 1
noncomputable def dq:FS :=
  (aA (aY (bX (fU [""," ","\n","  "," \n","\n     "])) 5)
  (aA (sIf (ip (aE (ag 3)) (aE (fOp g7 (ag 4) (bX (fU ["[","]","(",")","|"]))))) (aY (bX (fU [" ","\n","  ","\n "," ","     "])) 5) bt)
  (aA (aY (fOp bY (fOp bY (ag 2) (fOp bIx (ag 5) (fIO aH 0 (ac (fC (.int 6)) ao)))) (ag 4)) 2)
  (aY (fOp g7 (ag 4) (bX (fU ["[","]","(",")","|"]))) 3))))
noncomputable def iI:FS :=
  (aA (aY (fC (.str "")) 2)
  (aA (aY (fC (.bl false)) 3)
  (aA (gE (fIA (ag 1)) (gN 4) dq)
  (bo (fOp bY (ag 2) (fOp bIx (bX (fU [""," ","\n"," \n"])) (fIO aH 0 (ac (fC (.int 4)) ao))))))))
noncomputable def cV:D->List D->Option (Rz×D):=bS iI 6 2
noncomputable def dr:FS :=
  (aA (sIf (aE (fOp bEq (fOp bIx (ag 0) (fC (.int 0))) (fC (.str "ring")))) (bo (fOp bY (fOp bY (fC (.str "(")) (fBM "str" dU (fC (.str " ")) (ac (fOp bIx (ag 0) (fC (.int 1))) ao))) (fC (.str ")")))) bt)
  (bo (fOp bY (fOp bY (fC (.str "[")) (fBM "str" dU (fC (.str " ")) (ac (fOp bIx (ag 0) (fC (.int 1))) ao))) (fC (.str "]")))))
noncomputable def bA:List D->Option Rz:=bx dr 1 1
noncomputable def dN:FE :=
  (bm bA (ac (ag 0) ao))
noncomputable def cq:FS :=
  (aA (sIf (cO (aE (bm (bz 4) (ac (bm eT (ac (jU (ac (ag 3) ao)) ao)) (ac (bm bA (ac (ag 3) ao)) ao))))) (bo (fC (.bl false))) bt)
  (sIf (cO (aE (bm (bz 4) (ac (b8 cD (ac (bm bA (ac (ag 3) ao)) ao)) (ac (jU (ac (ag 3) ao)) ao))))) (bo (fC (.bl false))) bt))
noncomputable def fk:FS :=
  (aA (aY (fBM "str" jZ (fC (.str " ")) (ac (cv 1 [] (fIA (ag 1)) (gN 0) fu dN) ao)) 2)
  (aA (sIf (iW (cO (aE (bm (bz 4) (ac (bm eT (ac (ag 1) ao)) (ac (ag 2) ao))))) (cO (aE (bm (bz 4) (ac (b8 cD (ac (ag 2) ao)) (ac (ag 1) ao)))))) (bo (fC (.bl false))) bt)
  (aA (gE (fIA (ag 1)) (gN 3) cq)
  (bo (bm (bz 4) (ac (b8 cD (ac (fIO cV 0 (ac (b8 eV (ac (ag 1) ao)) ao)) ao)) (ac (ag 1) ao)))))))
noncomputable def cN:D->List D->Option (Rz×D):=bS fk 4 2
noncomputable def eg:FS :=
  (aA (aY (fOp fj (fOp fj (fC (.str "|")) (fBM "str" dU (fC (.str " ")) (ac (ag 1) ao))) (fC (.str "|"))) 2)
  (aA (sIf (iW (cO (aE (bm (bz 4) (ac (bm ge (ac (ag 1) ao)) (ac (ag 2) ao))))) (cO (aE (bm (bz 4) (ac (b8 cK (ac (ag 2) ao)) (ac (ag 1) ao)))))) (bo (fC (.bl false))) bt)
  (bo (bm (bz 4) (ac (b8 cK (ac (fIO cV 0 (ac (fOp fj (fOp fj (bX (ac (fC (.str "|")) ao)) (fCB j4 (ac (ag 1) ao))) (bX (ac (fC (.str "|")) ao))) ao)) ao)) (ac (ag 1) ao))))))
noncomputable def bQ:D->List D->Option (Rz×D):=bS eg 3 2
noncomputable def tN:FS :=
  (aA (aY (b8 hW (ac (ag 0) ao)) 1)
  (aA (aY (fIO aH 1 (ac (fC (.int 10)) ao)) 2)
  (aA (sIf (aE (fOp bEq (fIO aH 1 (ac (fC (.int 8)) ao)) (fC (.int 0)))) (aY (fOp yv (fC (.int 40)) (fIO aH 1 (ac (fC (.int 31)) ao))) 2) bt)
  (aA (aY (fIO gj 1 (ac (ag 2) ao)) 3)
  (aA (sIf (cO (aE (fIO cN 1 (ac (uU i6 1 [.bl true] (ac (ag 3) ao)) ao)))) (bo (fC (.bl false))) bt)
  (aA (aY (fIO cb 1 (ac (ag 3) ao)) 4)
  (aA (sIf (iW (cO (aE (fIO bQ 1 (ac (ag 4) ao)))) (cO (aE (fIO bQ 1 (ac (fIO cb 1 (ac (fSl nS (ag 3) oNo (ff (fOp jy (ag 2) (fC (.int 2))))) ao)) ao))))) (bo (fC (.bl false))) bt)
  (bo (fIO bQ 1 (ac (ag 4) ao))))))))))
end
end K04
namespace K04
open PySem L2 VF VF22
noncomputable abbrev nl0:List Str:=["thing"]
noncomputable abbrev nl1:List Str:=["words"]
noncomputable abbrev nl2:List Str:=["_law_flow_here","_law_many"]
noncomputable abbrev nl3:List Str:=["bead"]
noncomputable abbrev nl4:List Str:=["_law_script"]
noncomputable abbrev nl5:List Str:=["_law_found","_law_due"]
noncomputable abbrev nl6:List Str:=["_law_strand"]
noncomputable abbrev nl7:List Str:=["_law_flow_here","_law_names_here"]
noncomputable abbrev nl8:List Str:=["text","marks","spaced","mark"]
noncomputable abbrev nl9:List Str:=["_law_flow_here","_law_some","_law_due","_law_strand"]
noncomputable abbrev yW:List Str:=["_law_flow_here","_law_many","_law_cell","_law_digit"]
noncomputable abbrev yX:List Str:=["_law_flow_here","_law_stem","_law_words"]
noncomputable abbrev yY:List Str:=["_law_flow_here","_law_many","_law_stem","_law_names_here","_law_k","_law_name_here","_law_spare"]
noncomputable abbrev yZ:List Str:=["_law_flow_here","_law_things","_law_left","_law_told"]
noncomputable abbrev y0:List Str:=["_law_flow_here","_law_names_here","_law_rings","_law_strands","_law_piece","_law_bead"]
noncomputable abbrev y1:List Str:=["_law_flow_here","_law_names_here","_law_rings"]
noncomputable abbrev y2:List Str:=["_law_some","_law_tokens_here","_law_kind","_law_beads","_law_marks"]
noncomputable abbrev y4:List Str:=["_law_flow_here","_law_tokens_here","_law_text","_law_word","_law_token","_law_gaps"]
noncomputable abbrev y6:List Str:=["_law_flow_here","_law_tokens_here"]
noncomputable abbrev y7:List Str:=["_law_flow_here","_law_line_here","_law_due"]
noncomputable abbrev y8:List Str:=["_law_script","_law_flow_here","_law_many","_law_names_here","_law_line_here"]
noncomputable def top(i:Nat):Stmt:=PySem.Challenge.pw_strandwright_k04_whole_written_and_read.main.body.getD i (.Pass ⟨0,0,0,0⟩)
noncomputable abbrev jK:Stmt:=top 3
noncomputable abbrev i7:Stmt:=top 4
noncomputable abbrev mR:Stmt:=top 5
noncomputable abbrev mT:Stmt:=top 6
noncomputable abbrev kr:Stmt:=top 7
noncomputable abbrev gl:Stmt:=top 15
noncomputable abbrev iJ:Stmt:=top 16
noncomputable abbrev i8:Stmt:=top 17
noncomputable abbrev iK:Stmt:=top 18
noncomputable abbrev iL:Stmt:=top 19
noncomputable abbrev gm:Stmt:=top 20
noncomputable abbrev eW:Stmt:=top 21
noncomputable abbrev eX:Stmt:=top 22
noncomputable abbrev iM:Stmt:=top 23
noncomputable abbrev i9:Stmt:=top 24
noncomputable abbrev pb:Stmt:=top 26
noncomputable abbrev pc:Stmt:=top 27
noncomputable abbrev gC:Stmt:=top 28
noncomputable abbrev pd:Stmt:=top 29
noncomputable abbrev mU:Stmt:=top 30
noncomputable abbrev hZ:Stmt:=top 31
noncomputable abbrev mV:Stmt:=top 32
noncomputable abbrev tO:Stmt:=top 33
noncomputable abbrev jL:Stmt:=top 34
noncomputable abbrev ku:Stmt:=top 35
noncomputable abbrev kw:Stmt:=top 36
noncomputable abbrev dY:Stmt:=top 37
noncomputable abbrev eY:Stmt:=top 38
noncomputable abbrev gn:Stmt:=top 39
noncomputable abbrev xH:Stmt:=top 40
theorem pe:FnScope nl0 nl0 (am jK):=fsc (by decide +kernel)
theorem mW:FnScope nl3 nl3 (am i7):=fsc (by decide +kernel)
theorem pf:FnScope nl3 nl3 (am mR):=fsc (by decide +kernel)
theorem ph:FnScope nl0 nl0 (am mT):=fsc (by decide +kernel)
theorem sc_sbeadsin:FnScope ["thing","beads","part"] nl0 (am kr):=fsc (by decide +kernel)
theorem sc_sshowstrand:FnScope ["strand","beads"] ["strand"] (am gl):=fsc (by decide +kernel)
theorem n4:FnScope ["some"] ["some"] (am iJ):=fsc (by decide +kernel)
theorem sc_sshowline:FnScope ["line","beads"] ["line"] (am i8):=fsc (by decide +kernel)
theorem sc_swordsof:FnScope nl8 ["text","marks"] (am iK):=fsc (by decide +kernel)
theorem n5:FnScope nl1 nl1 (am iL):=fsc (by decide +kernel)
theorem sc_sreadstrand:FnScope ["words","beads"] nl1 (am gm):=fsc (by decide +kernel)
theorem sc_sstrandwords:FnScope ["words","groups","group","word"] nl1 (am eW):=fsc (by decide +kernel)
theorem sc_srefusetwice:FnScope ["thing","seen","bead","name"] nl0 (am eX):=fsc (by decide +kernel)
theorem sc_sreadset:FnScope ["text","some"] ["text"] (am iM):=fsc (by decide +kernel)
theorem sc_sreadline:FnScope ["text","words","line"] ["text"] (am i9):=fsc (by decide +kernel)
theorem rj:FnScope nl4 nl4 (am pb):=fsc (by decide +kernel)
theorem sc_sLpick:FnScope yW nl2 (am pc):=fsc (by decide +kernel)
theorem mX:FnScope nl2 nl2 (am gC):=fsc (by decide +kernel)
theorem sc_sLname:FnScope yX ["_law_flow_here","_law_stem"] (am pd):=fsc (by decide +kernel)
theorem sc_sLnames:FnScope yY nl2 (am mU):=fsc (by decide +kernel)
theorem sc_sLshuffled:FnScope yZ ["_law_flow_here","_law_things"] (am hZ):=fsc (by decide +kernel)
theorem rl:FnScope nl7 nl7 (am mV):=fsc (by decide +kernel)
theorem sc_sLset:FnScope y0 y1 (am tO):=fsc (by decide +kernel)
theorem pi:FnScope nl5 nl5 (am jL):=fsc (by decide +kernel)
theorem sc_sLtokens:FnScope y2 ["_law_some"] (am ku):=fsc (by decide +kernel)
theorem sc_sLspaced:FnScope y4 y6 (am kw):=fsc (by decide +kernel)
theorem ja:FnScope nl6 nl6 (am dY):=fsc (by decide +kernel)
theorem sc_sLsetholds:FnScope nl9 ["_law_flow_here","_law_some"] (am eY):=fsc (by decide +kernel)
theorem sc_sLlineholds:FnScope y7 ["_law_flow_here","_law_line_here"] (am gn):=fsc (by decide +kernel)
theorem sc_slaw:FnScope y8 nl4 (am xH):=fsc (by decide +kernel)
structure Md(P:Program)(w:World)(K:PySem.W.Frag)(mg:Str->Option Value):Prop where
 n_all:mg "all"=none
 n_bool:mg "bool"=none
 n_int:mg "int"=none
 n_isinstance:mg "isinstance"=none
 n_len:mg "len"=none
 n_list:mg "list"=none
 n_range:mg "range"=none
 n_str:mg "str"=none
 n_tuple:mg "tuple"=none
 c_LETTERS:∃t,mg "LETTERS"=some (.str "abcdefghijklmnopqrstuvwxyz" t)
 c_LONGEST_NAME:∃t,mg "LONGEST_NAME"=some (.int 6 t)
 c_KIND_OF:GlD P w K mg "KIND_OF" [("[","open"),("(","ring")]
 c_CLOSE_OF:GlD P w K mg "CLOSE_OF" [("[","]"),("(",")")]
end K04
namespace VF
open PySem L2
theorem pk{i j:Int}(h:CMul i j):jz (.int i) (.int j)=some (.int (i*j),false):=by
 have:qa (.int i) (.int j)=some (.int (i*j),false):=by
  show(if CMul i j then some (D.int (i*j),false) else none)=_;rw[if_pos h]
 unfold jz orD;rw[this]
theorem tP{i j:Int}(h:0<j):jX (.int i) (.int j)=some (.int (i % j),false):=by
 show(if 0<j then some (D.int (i % j),false) else none)=_;rw[if_pos h]
theorem tQ{i j:Int}(h:oE i j):jy (.int i) (.int j)=some (.int (i / j),false):=by
 show(if oE i j then some (D.int (i / j),false) else none)=_;rw[if_pos h]
theorem dZ{ds:List D}{i:Int}{d:D}(h:atI ds i=some d):bIx (.lst ds) (.int i)=some (d,false):=by
 have:sG (.lst ds) (.int i)=some (d,false):=by
  show(atI ds i).bind (fun d=>some (d,false))=_;rw[h];rfl
 unfold bIx orD;rw[this]
theorem ix_tup{ds:List D}{i:Int}{d:D}(h:atI ds i=some d):bIx (.tup ds) (.int i)=some (d,false):=by
 have e1:sG (.tup ds) (.int i)=none:=rfl;have:uQ (.tup ds) (.int i)=some (d,false):=by
  show(atI ds i).bind (fun d=>some (d,false))=_;rw[h];rfl
 unfold bIx orD;rw[e1,this]
theorem cL{f:FT}{st s:En}{b c:Bool}(h:f st=some (b,s))(e:b=c):f st=some (c,s):=e ▸ h
theorem mY{mm:D->D->D->Option D}{fe fi:FE}{i:Nat}{st s1 s2 s3:En}{r rk:Rs}{dv dk z z':D}{t t0:Sl}{x0:D}(h1:fe st=some (r,s1))(h2:esc r s1=some (dv,s2))(h0:s2[i]?=some t0)(h00:t0.ow=some x0)(h3:fi s2=some (rk,s3))(h4:cont s3 rk=some dk)(h5:s3[i]?=some t)(h6:t.ow=some z)(h7:mm z dk dv=some z'){s4:En}(h8:s3.set i (t.put z')=s4:=by rfl):kQ mm fe i fi st=some (.nx s4):=by
 simp only[kQ,h1,h2,h0,h00,h3,h4,h5,h6,h7,h8,Ya]
end VF
namespace K04
open PySem L2 VF
noncomputable def Fl(ns:List Int)(i m sd c:Int):D:=.lst [.lst (ns.map D.int),.int i,.int m,.int sd,.int c]
noncomputable def bG(φ:D):Prop:=∃ns i m sd c,φ=Fl ns i m sd c/\0<=i/\0<=m/\0<=sd/\0<=c
theorem u8(ns:List Int):hW [.fl (ns.map D.int)]=some (Fl ns 0 0 1 0,true):=rfl
theorem bN{φ : D}{n : Int}(hφ : bG φ)(h0 : 0 < n)(h1 : n ≤ 1000) : ∃ d φ', aH φ [.int n] = some ((.int d, false), φ') ∧ 0 ≤ d ∧ d < n ∧ bG φ' := by
  obtain ⟨ns, i, m, sd, c, rfl, hi, hm, hs, hc⟩ := hφ;have sp : ∃ A B, hX = aA A B ∧
     (∃ o i' m' sd', A [.io (Fl ns i m sd c), .v (.int n), .e, .e] = some (.nx [.io (Fl ns i' m' sd' c), .v (.int n), o, .e]) ∧ 0 ≤ i' ∧ 0 ≤ m' ∧ 0 ≤ sd') ∧
     (∀ o i m sd, 0 ≤ i → 0 ≤ m → 0 ≤ sd → ∃ d φ' s3, B [.io (Fl ns i m sd c), .v (.int n), o, .e] = some (.rt (.d (.int d)) [.io φ', .v (.int n), o, s3]) ∧ 0 ≤ d ∧ d < n ∧ bG φ') := by
    refine ⟨_, _, rfl, ?_, ?_⟩
    · by_cases c1 : m = 0
      · subst c1
        by_cases c2 : i < ((ns.map D.int).length : Int)
        · obtain ⟨v, hv, hm', _⟩ := iV hi c2
          obtain ⟨z, _, rfl⟩ := List.mem_map.mp hm';have t2 : ip (aE (fOp bEq (fOp bIx (ag 0) (fC (.int 2))) (fC (.int 0)))) (aE (fOp bLt (fOp bIx (ag 0) (fC (.int 1))) (fCB g8 (ac (fOp bIx (ag 0) (fC (.int 0))) ao)))) [.io (Fl ns i 0 sd c), .v (.int n), .e, .e] = some (true, [.io (Fl ns i 0 sd c), .v (.int n), .e, .e]) :=
            lq rfl (cL (b := decide (i < ((ns.map D.int).length : Int))) rfl (decide_eq_true c2))
          by_cases c3 : (10 : Int) ^ (18 : Int).toNat ≤ z
          · have p18 : (0 : Int) ≤ 10 ^ (18 : Int).toNat := by decide
            refine ⟨.v (.int z), i + 1, z, sd, ?_, by lia, by lia, hs⟩
            refine eK t2 ?_;refine ah (b9 (x := .int z) (ax rfl rfl rfl rfl (dZ hv)) rfl) ?_;refine ah (s := [.io (Fl ns (i + 1) 0 sd c), .v (.int n), .v (.int z), .e]) rfl ?_;refine eK (cL (b := decide ((10 : Int) ^ (18 : Int).toNat ≤ z)) (s := [.io (Fl ns (i + 1) 0 sd c), .v (.int n), .v (.int z), .e]) rfl (decide_eq_true c3)) ?_;rfl
          · refine ⟨.v (.int z), i + 1, 0, (sd * 40013 + z % 1000003 + 1) % 2147483647, ?_, by lia, by lia, Int.emod_nonneg _ (by decide)⟩
            refine eK t2 ?_;refine ah (b9 (x := .int z) (ax rfl rfl rfl rfl (dZ hv)) rfl) ?_;refine ah (s := [.io (Fl ns (i + 1) 0 sd c), .v (.int n), .v (.int z), .e]) rfl ?_;refine ck (cL (b := decide ((10 : Int) ^ (18 : Int).toNat ≤ z)) (s := [.io (Fl ns (i + 1) 0 sd c), .v (.int n), .v (.int z), .e]) rfl (decide_eq_false c3)) ?_;exact mY (ax (ax (ax (ax rfl rfl rfl rfl (pk (j := 40013) (.inr ⟨by decide, by decide⟩))) rfl rfl rfl rfl) rfl rfl rfl rfl) rfl rfl rfl rfl) rfl rfl rfl rfl rfl rfl rfl rfl
        · refine ⟨.e, i, 0, sd, ?_, hi, hm, hs⟩
          exact ck (lq (s := [.io (Fl ns i 0 sd c), .v (.int n), .e, .e]) rfl (cL (b := decide (i < ((ns.map D.int).length : Int))) rfl (decide_eq_false c2))) rfl
      · refine ⟨.e, i, m, sd, ?_, hi, hm, hs⟩
        have e : decide (V.int m = V.int 0) = false := decide_eq_false fun z => c1 (V.int.inj z);exact ck (vV (cL (b := decide (V.int m = V.int 0)) (s := [.io (Fl ns i m sd c), .v (.int n), .e, .e]) rfl e)) rfl
    · intro o i m sd hi hm hs
      by_cases c1 : 0 < m
      · refine ⟨m % n, Fl ns i (m / n) sd c, .v (.int (m % n)), ?_, Int.emod_nonneg _ (by lia), Int.emod_lt_of_pos _ h0, ⟨ns, i, m / n, sd, c, rfl, hi, Int.ediv_nonneg hm (by lia), hs, hc⟩⟩
        refine g9 ?_;refine eK (cL (b := decide (0 < m)) (s := [.io (Fl ns i m sd c), .v (.int n), o, .e]) rfl (decide_eq_true c1)) ?_;refine ah (s := [.io (Fl ns i m sd c), .v (.int n), o, .v (.int (m % n))]) (b9 (ax rfl rfl rfl rfl (tP h0)) rfl) ?_;refine ah (s := [.io (Fl ns i (m / n) sd c), .v (.int n), o, .v (.int (m % n))]) (mY (ax rfl rfl rfl rfl (tQ ⟨h0, by lia⟩)) rfl rfl rfl rfl rfl rfl rfl rfl) ?_
        rfl
      · refine ⟨(((sd * 48271 + 12820163 + (c + 1)) % 2147483647 % 65521 + 1) * ((sd * 48271 + 12820163 + (c + 1)) % 2147483647 / 65521 + 7919) % 1000003 / 7) % n, Fl ns i m ((sd * 48271 + 12820163 + (c + 1)) % 2147483647) (c + 1), .e, ?_, ?_, ?_, ⟨ns, i, m, _, _, rfl, hi, hm, Int.emod_nonneg _ (by decide), by lia⟩⟩
        · refine ah (ck (cL (b := decide (0 < m)) (s := [.io (Fl ns i m sd c), .v (.int n), o, .e]) rfl (decide_eq_false c1)) rfl) ?_
          refine ah (s := [.io (Fl ns i m sd (c + 1)), .v (.int n), o, .e]) rfl ?_;refine ah (s := [.io (Fl ns i m ((sd * 48271 + 12820163 + (c + 1)) % 2147483647) (c + 1)), .v (.int n), o, .e]) (mY (ax (ax (ax (ax rfl rfl rfl rfl (pk (j := 48271) (.inr ⟨by decide, by decide⟩))) rfl rfl rfl rfl) rfl rfl rfl rfl) rfl rfl rfl rfl) rfl rfl rfl rfl rfl rfl rfl rfl) ?_
          have a := Int.emod_nonneg ((sd * 48271 + 12820163 + (c + 1)) % 2147483647) (show (65521 : Int) ≠ 0 by decide)
          have b := Int.emod_lt_of_pos ((sd * 48271 + 12820163 + (c + 1)) % 2147483647) (show (0 : Int) < 65521 by decide)
          exact bf (ax (ax (ax (ax rfl rfl rfl rfl (pk (.inl ⟨by lia, by lia⟩))) rfl rfl rfl rfl) rfl rfl rfl rfl) rfl rfl rfl (tP h0))
        · exact Int.emod_nonneg _ (by lia)
        · exact Int.emod_lt_of_pos _ h0
  obtain ⟨A, B, eF, ⟨o, i', m', sd', eA, hi', hm', hs'⟩, hB⟩ := sp;obtain ⟨d, φ', s3, eB, h2, h3, h4⟩ := hB o i' m' sd' hi' hm' hs';refine ⟨d, φ', ?_, h2, h3, h4⟩;refine bC (o := .rt (.d (.int d)) [.io φ', .v (.int n), o, s3]) rfl ?_ rfl;rw [eF];exact ah eA eB
end K04
namespace K04
open PySem L2 VF VL
theorem ia{φ:D}{k:Int}(hφ:bG φ)(h0:0<=k)(h1:k<=100):∃x φ',ca φ [.int k]=some ((.str x,false),φ')/\(x.length:Int)=k/\Lw x/\bG φ':=by
 have hE:(Str.ofString "").length=0:=by decide +kernel
 have cl:=lA (fg:=gN 0) (fc:=fu) (k:=1) (fe:=fOp bIx (fC (.str "abcdefghijklmnopqrstuvwxyz")) (fIO aH 1 (ac (fC (.int 26)) ao)))
  (fun pre sb=>∃φ' ys,sb=[.e,.io φ']/\bG φ'/\pre=ys.map D.str/\∀y∈ys,∃c,y=(⟨#[c]⟩:Str)/\97<=c/\c<=122) (by
   rintro pre x sb ⟨φ',ys,rfl,hf,rfl,hy⟩;obtain⟨d,φ2,e,d0,d1,hf2⟩:=bN (n:=26) hf (by decide) (by decide)
   obtain⟨c,hc,hm,_⟩:=iV (xs:=letS.cps.toList) d0 (by rw[kf,List.length_range'];exact d1)
   refine⟨[.v x,.io φ'],[.v x,.io φ'],.d (.str ⟨#[c]⟩),[.v x,.io φ2],.str ⟨#[c]⟩,[.v x,.io φ2],rfl,rfl,ax rfl (bh rfl rfl rfl rfl rfl rfl e) rfl rfl (ix_str (by decide +kernel) hc),rfl,φ2,ys++[⟨#[c]⟩],rfl,hf2,by rw[Vc];rfl,fun y hy2=>?_⟩
   rcases Xg.mp hy2 with z|z
   ·exact hy y z
   ·have:y=⟨#[c]⟩:=by simpa using z
    rw[kf,List.mem_range'_1]at hm
    exact⟨c,this,by lia⟩)
  (rng 0 k.toNat) [] [.e,.io φ] ⟨φ,[],rfl,hφ,rfl,fun y hy=>by cases hy⟩
 obtain⟨ds,sf,e1,e2,φ',ys,rfl,hf,e3,hy⟩:=cl;rw[Zi]at e3;subst e3;rw[dH,Xa]at e2;have hy':∀y∈ys,∃c,y=(⟨#[c]⟩:Str):=fun y h=>by obtain⟨c,e,_⟩:=hy y h;exact⟨c,e⟩
 refine⟨Txt.join (Str.ofString "") ys,φ',?_,by rw[join_ones hy'];lia,tI hy,hf⟩
 have hj:jZ (.str "") [.lst (ys.map D.str)]=some (.str (Txt.join (Str.ofString "") ys),false):=by
  show(eG (ys.map D.str)).bind (fun ys=>if (ys.map (·.length)).sum+ys.length*(Str.ofString "").length<=16777216 then some (D.str (Txt.join (Str.ofString "") ys),false) else none)=_;rw[eN];show(if _ then _ else _)=_;rw[if_pos (by rw[tK hy',hE];lia)]
 refine bC (o:=.rt (.d (.str (Txt.join (Str.ofString "") ys))) [.io φ',.v (.int k)]) rfl ?_ rfl
 exact bf (jj rfl rfl rfl (az (cF (jJ rfl rfl ⟨by lia,by lia⟩) (by
  show(true&&decide ((rng 0 k.toNat).length<=1000000))=true
  rw[dH,decide_eq_true (by lia)];rfl) e1) rfl) rfl rfl hj)
noncomputable abbrev w1:List Str:=["to","turn","turns","ring","rings","odd","ours","row","rows","cuts","knots","cover"]
noncomputable abbrev w2:List Str:=["change","joins","theirs","one","two","home","none","open","keep","tox","onex"]
noncomputable abbrev wordsS:List Str:=w1++w2
noncomputable def okN(x:Str):Bool:=decide (1<=x.length/\x.length<=6)&&x.cps.toList.all fun c=>decide (97<=c/\c<=122)
theorem xI{x:Str}(h:okN x=true):Nm x:=by
 unfold okN at h;rw[Xe,decide_eq_true_eq,Vh]at h;exact⟨h.1.1,h.1.2,fun c hc=>of_decide_eq_true (h.2 c hc)⟩
theorem tR:∀v∈wordsS,okN v=true:=Vh.mp (by decide +kernel)
theorem u9{φ:D}{st:Str}(hφ:bG φ)(hst:st.length<=4)(lst:Lw st):∃x φ',hY φ [.str st]=some ((.str x,false),φ')/\Nm x/\bG φ':=by
 by_cases c0:st=""
 ·subst c0;obtain⟨d,φ1,e1,d0,d1,f1⟩:=bN (n:=7) hφ (by decide) (by decide)
  by_cases c1:d=0
  ·subst c1;obtain⟨d2,φ2,e2,d20,d21,f2⟩:=bN (n:=23) f1 (by decide) (by decide)
   obtain⟨v,hv,hm,_⟩:=iV (xs:=wordsS.map D.str) d20 (by rw[Xa];exact d21)
   obtain⟨x,hx,rfl⟩:=We.mp hm;refine⟨x,φ2,?_,xI (tR x hx),f2⟩;refine bC (o:=.rt (.d (.str x)) [.io φ2,.v (.str ""),.o (.lst (wordsS.map D.str))]) rfl ?_ rfl;refine ah (s:=[.io φ,.v (.str ""),.e]) rfl ?_;refine g9 ?_;refine eK (s:=[.io φ1,.v (.str ""),.e]) (aB (ax (bh rfl rfl rfl rfl rfl rfl e1) rfl rfl rfl rfl) rfl) ?_;refine ah (s:=[.io φ1,.v (.str ""),.o (.lst (w1.map D.str))]) rfl ?_;refine ah (s:=[.io φ1,.v (.str ""),.o (.lst (wordsS.map D.str))]) rfl ?_;exact bf (ax rfl (bh rfl rfl rfl rfl rfl rfl e2) rfl rfl (dZ hv))
  ·obtain⟨d2,φ2,e2,d20,d21,f2⟩:=bN (n:=6) f1 (by decide) (by decide)
   obtain⟨x,φ3,e3,hx,lx,f3⟩:=ia (k:=1+d2) f2 (by lia) (by lia)
   refine⟨x,φ3,?_,⟨by lia,by lia,lx⟩,f3⟩
   refine bC (o:=.rt (.d (.str x)) [.io φ3,.v (.str ""),.e]) rfl ?_ rfl;refine ah (s:=[.io φ,.v (.str ""),.e]) rfl ?_;have t:decide (V.int d=V.int 0)=false:=decide_eq_false fun z=>c1 (V.int.inj z);refine ah (ck (s:=[.io φ1,.v (.str ""),.e]) (cL (b:=decide (V.int d=V.int 0)) (aB (ax (bh rfl rfl rfl rfl rfl rfl e1) rfl rfl rfl rfl) rfl) t) rfl) ?_;exact bf (bh rfl rfl (az (ax rfl (bh rfl rfl rfl rfl rfl rfl e2) rfl rfl rfl) rfl) rfl rfl rfl e3)
 ·obtain⟨d,φ1,e1,d0,d1,f1⟩:=bN (n:=2) hφ (by decide) (by decide)
  obtain⟨x,φ2,e2,hx,lx,f2⟩:=ia (k:=1+d) f1 (by lia) (by lia)
  refine⟨st++x,φ2,?_,⟨by rw[Str.length_append];lia,by rw[Str.length_append];lia,lst.app lx⟩,f2⟩
  refine bC (o:=.rt (.d (.str (st++x))) [.io φ2,.v (.str st),.e]) rfl ?_ rfl;refine g9 ?_;have t:(!decide (V.str st=V.str ""))=true:=by rw[decide_eq_false (fun z=>c0 (V.str.inj z))];rfl
  refine eK (s:=[.io φ,.v (.str st),.e]) (cL (b:=!decide (V.str st=V.str "")) rfl t) ?_;exact bf (ax rfl (bh rfl rfl (az (ax rfl (bh rfl rfl rfl rfl rfl rfl e1) rfl rfl rfl) rfl) rfl rfl rfl e2) rfl rfl (dJ (by lia)))
end K04
namespace VF
open PySem L2
theorem bH{i:Nat}{s t:Sl}{st s1:En}(h:st[i]?=some t)(n:t.isIo=false)(e:st.set i s=s1:=by rfl):iX i s st=some s1:=by
 unfold iX;rw[h];show(if t.isIo=true then none else some (st.set i s))=_;rw[if_neg (by rw[n];decide),e]
theorem d4{xs:List D}{y:D}(h:xs.length<1000000):bW (.lst xs) [y]=some (.non,.lst (xs++[y])):=by
 show(if xs.length<1000000 then some (D.non,D.lst (xs++[y])) else none)=_;rw[if_pos h]
theorem tT{xs:List D}{i:Int}(h0:0<=i)(h1:i<xs.length)(h2:xs.length<=1000000)(hk:i.toNat<xs.length):mD (.lst xs) [.int i]=some (xs[i.toNat],.lst (xs.eraseIdx i.toNat)):=by
 show(if -(2 ^ 63)<=i/\i<2 ^ 63 then(seqIndex? i xs.length).bind fun k=>(xs[k]?).bind fun y=>some (y,D.lst (xs.eraseIdx k)) else none)=_;rw[if_pos ⟨by lia,by lia⟩,PySem.seqIndex_of h0 h1]
 show(xs[i.toNat]?).bind (fun y=>some (y,D.lst (xs.eraseIdx i.toNat)))=_;rw[Wd hk];rfl
theorem mZ{α:Type}{f:α->D}{g:D->α}(hg:∀a,g (f a)=a){ys:List D}{xs:List α}(p:ys.Perm (xs.map f)):∃zs:List α,ys=zs.map f/\zs.Perm xs:=by
 have h1:∀y∈ys,∃z,y=f z:=fun y hy=>by
  obtain⟨z,_,rfl⟩:=We.mp (p.mem_iff.mp hy);exact⟨z,rfl⟩
 refine⟨ys.map g,?_,?_⟩
 ·rw[Qf];refine(List.map_id' ys).symm.trans (Qh fun y hy=>?_);obtain⟨z,rfl⟩:=h1 y hy;show f z=f (g (f z));rw[hg]
 ·have:=p.map g;rw[Qf]at this;refine this.trans (List.Perm.of_eq ?_);exact(Qh fun z _=>hg z).trans (List.map_id' xs)
end VF
namespace K04
open PySem L2 VF VL
theorem tU{φ:D}{n:Int}(hφ:bG φ)(h0:0<=n)(h1:n<=100):∃(xs:List Str)(φ':D),gj φ [.int n]=some ((.lst (xs.map D.str),true),φ')/\(xs.length:Int)=n/\(∀x∈xs,Nm x)/\xs.Nodup/\bG φ':=by
 obtain⟨d,φ1,e1,d0,d1,f1⟩:=bN (n:=3) hφ (by decide) (by decide)
 have sp:∃A B C R,gi=aA A (aA B (aA C R)) /\
   (∃st φ2,A [.io φ,.v (.int n),.e,.e,.e,.e,.e]=some (.nx [.io φ,.v (.int n),.v (.str ""),.e,.e,.e,.e])/\B [.io φ,.v (.int n),.v (.str ""),.e,.e,.e,.e]=some (.nx [.io φ2,.v (.int n),.v (.str st),.e,.e,.e,.e]) /\
    C [.io φ2,.v (.int n),.v (.str st),.e,.e,.e,.e]=some (.nx [.io φ2,.v (.int n),.v (.str st),.o (.lst []),.e,.e,.e])/\bG φ2/\st.length<=4/\Lw st) /\
   (∀st φ2,bG φ2->st.length<=4->Lw st->∃(xs:List Str)(φ':D)(o4 o5 o6:Sl),R [.io φ2,.v (.int n),.v (.str st),.o (.lst []),.e,.e,.e]=some (.rt (.s 3) [.io φ',.v (.int n),.v (.str st),.o (.lst (xs.map D.str)),o4,o5,o6])/\(xs.length:Int)=n/\(∀x∈xs,Nm x)/\xs.Nodup/\bG φ'):=by
  refine⟨_,_,_,_,rfl,?_,?_⟩
  ·by_cases c:d=0
   ·subst c;obtain⟨d2,φ2,e2,d20,d21,f2⟩:=bN (n:=4) f1 (by decide) (by decide)
    obtain⟨x,φ3,e3,hx,lx,f3⟩:=ia (k:=1+d2) f2 (by lia) (by lia)
    refine⟨x,φ3,rfl,?_,rfl,f3,by lia,lx⟩
    refine eK (s:=[.io φ1,.v (.int n),.v (.str ""),.e,.e,.e,.e]) (aB (ax (bh rfl rfl rfl rfl rfl rfl e1) rfl rfl rfl rfl) rfl) ?_;exact b9 (bh rfl rfl (az (ax rfl (bh rfl rfl rfl rfl rfl rfl e2) rfl rfl rfl) rfl) rfl rfl rfl e3) rfl
   ·refine⟨"",φ1,rfl,?_,rfl,f1,by decide +kernel,tL⟩
    have t:decide (V.int d=V.int 0)=false:=decide_eq_false fun z=>c (V.int.inj z);exact ck (s:=[.io φ1,.v (.int n),.v (.str ""),.e,.e,.e,.e]) (cL (b:=decide (V.int d=V.int 0)) (aB (ax (bh rfl rfl rfl rfl rfl rfl e1) rfl rfl rfl rfl) rfl) t) rfl
  ·intro st φ2 f2 hst lst
   have lp:∀(fg:FG)(B:FS),fg=gN 4->(∀(φ':D)(xs:List Str)(k:D)(o5 o6:Sl),bG φ'->xs.length<=200->(∀x∈xs,Nm x)->xs.Nodup->xs.length<=110->o5.isIo=false->o6.isIo=false ->
     ∃φ2 x o6',B [.io φ',.v (.int n),.v (.str st),.o (.lst (xs.map D.str)),.v k,o5,o6]=some (.nx [.io φ2,.v (.int n),.v (.str st),.o (.lst ((xs++[x]).map D.str)),.v k,.v (.str x),.v o6'])/\bG φ2/\Nm x/\x∉xs) ->
     ∃(xs:List Str)(φ':D)(o4 o5 o6:Sl),aA (gE (oM (ac (ag 1) ao)) fg B) (bo (ag 3)) [.io φ2,.v (.int n),.v (.str st),.o (.lst []),.e,.e,.e]=some (.rt (.s 3) [.io φ',.v (.int n),.v (.str st),.o (.lst (xs.map D.str)),o4,o5,o6])/\(xs.length:Int)=n/\(∀x∈xs,Nm x)/\xs.Nodup/\bG φ':=by
    intro fg B hfg hB;subst hfg;obtain⟨sf,e,φ',xs,o4,o5,o6,rfl,hf,hl,hx,nd,_⟩:=fW (fg:=gN 4) (B:=B) (rng 0 n.toNat) (fun gone s=>∃(φ':D)(xs:List Str)(o4 o5 o6:Sl),s=[.io φ',.v (.int n),.v (.str st),.o (.lst (xs.map D.str)),o4,o5,o6]/\bG φ'/\xs.length=gone.length/\(∀x∈xs,Nm x)/\xs.Nodup/\o4.isIo=false/\o5.isIo=false/\o6.isIo=false)
     (fun gone x rest s ha zz8=>by
      obtain⟨φ',xs,o4,o5,o6,hs,hf,hl,hx,nd,q4,q5,q6⟩:=zz8;subst hs;have hg:=congrArg List.length ha;rw[dH,Za,Yd]at hg;obtain⟨φ3,y,o6',eB,f3,ny,hy⟩:=hB φ' xs x o5 o6 hf (by lia) hx nd (by lia) q5 q6
      refine⟨_,_,bH rfl q4,eB,φ3,xs++[y],.v x,.v (.str y),.v o6',rfl,f3,by simp[hl],fun z hz=>?_,?_,rfl,rfl,rfl⟩
      ·rcases Xg.mp hz with w|w
       ·exact hx z w
       ·have:z=y:=by simpa using w
        rw[this];exact ny
      ·rw[Wj]
       exact⟨nd,by simp,fun a ha b hb e=>by
        have:b=y:=by simpa using hb
        subst this;subst e;exact hy ha⟩) (rng 0 n.toNat) [] [.io φ2,.v (.int n),.v (.str st),.o (.lst []),.e,.e,.e] rfl ⟨φ2,[],.e,.e,.e,rfl,f2,rfl,fun x hx=>(by cases hx),List.nodup_nil,rfl,rfl,rfl⟩
    rw[dH]at hl;exact⟨xs,φ',o4,o5,o6,ah (eM (jJ rfl rfl ⟨by lia,by lia⟩) e) rfl,by lia,hx,nd,hf⟩
   refine lp _ _ rfl ?_;intro φ' xs k o5 o6 hf _ hx nd hl q5 q6;obtain⟨x,φ3,e3,nx,f3⟩:=u9 hf hst lst;obtain⟨sf,ew,s',y,rfl,ny,hy⟩:=oV (f:=aE (fOp bIn (ag 5) (ag 3))) (B:=aA (aY (fOp jz (fOp bIx (fC (.str "abcdefghijklmnopqrstuvwxyz")) (fOp jX (ag 6) (fC (.int 26)))) (fOp bY (fC (.int 1)) (fOp jy (ag 6) (fC (.int 26))))) 5) (aY (fOp bY (ag 6) (fC (.int 1))) 6))
    (fun m s=>∃(j:Nat)(x:Str),s=[.io φ3,.v (.int n),.v (.str st),.o (.lst (xs.map D.str)),.v k,.v (.str x),.v (.int j)]/\Nm x/\m+j=xs.length+2/\j<=xs.length+1/\(∀i,i+1<j->word i∈xs)/\(j=0∨x=word (j-1)))
    (fun s=>∃(j:Nat)(x:Str),s=[.io φ3,.v (.int n),.v (.str st),.o (.lst (xs.map D.str)),.v k,.v (.str x),.v (.int j)]/\Nm x/\x∉xs)
    (by
     rintro m s ⟨j,x,rfl,nx,hm,hj,hw,hxj⟩;by_cases c:x∈xs
     ·right;have hall:∀i,i<j->word i∈xs:=fun i hi=>by
       rcases hxj with z|z
       ·lia
       ·by_cases e:i+1<j
        ·exact hw i e
        ·have:i=j-1:=by lia
         rw[this,← z];exact c
      have hle:=rf hall;obtain⟨m',rfl⟩:∃m',m=m'+1:=⟨m-1,by lia⟩
      have d0:(0:Int)<=1+(j:Int) / 26:=Int.add_nonneg (by decide) (Int.ediv_nonneg (Int.natCast_nonneg j) (by decide))
      have d1:1+(j:Int) / 26<=1000:=Int.le_trans (Int.add_le_add_left (Int.ediv_le_self 26 (Int.natCast_nonneg j)) 1) (by lia)
      refine⟨_,[.io φ3,.v (.int n),.v (.str st),.o (.lst (xs.map D.str)),.v k,.v (.str (word j)),.v (.int ((j+1:Nat):Int))],m',cL (aB (ax rfl rfl rfl rfl sW) rfl) (decide_eq_true c),?_,Nat.lt_succ_self _,j+1,word j,rfl,u6 (by lia),by lia,Nat.succ_le_succ hle,fun i hi=>hall i (by lia),.inr rfl⟩
      refine ah (s:=[.io φ3,.v (.int n),.v (.str st),.o (.lst (xs.map D.str)),.v k,.v (.str (word j)),.v (.int j)]) (b9 (ax (ax rfl rfl rfl rfl (ix_str (by decide +kernel) (xF j))) (ax rfl rfl rfl rfl rfl) rfl rfl (qk ⟨d0,d1,(by show 1<=1000;decide)⟩)) rfl) ?_
      rfl
     ·left
      exact⟨_,cL (aB (ax rfl rfl rfl rfl sW) rfl) (decide_eq_false c),j,x,rfl,nx,c⟩)
    200 (xs.length+2) [.io φ3,.v (.int n),.v (.str st),.o (.lst (xs.map D.str)),.v k,.v (.str x),.v (.int 0)] (by lia) ⟨0,x,rfl,nx,rfl,Vj _,fun i hi=>absurd hi (by lia),.inl rfl⟩
   refine⟨φ3,y,.int s',?_,f3,ny,hy⟩;refine ah (b9 (bh rfl rfl rfl rfl rfl rfl e3) (bH rfl q5)) ?_;refine ah (b9 (x:=.int 0) rfl (bH rfl q6)) ?_;refine ah ew ?_;refine b7 (jB rfl rfl rfl rfl rfl rfl rfl (d4 (by rw[Xa];lia)) ?_)
   rw[Vc];rfl
 obtain⟨A,B,C,R,eF,⟨st,φ2,eA,eB,eC,f2,hst,lst⟩,hR⟩:=sp;obtain⟨xs,φ',o4,o5,o6,eR,hl,hx,nd,hf⟩:=hR st φ2 f2 hst lst;refine⟨xs,φ',?_,hl,hx,nd,hf⟩;refine bC (o:=.rt (.s 3) [.io φ',.v (.int n),.v (.str st),.o (.lst (xs.map D.str)),o4,o5,o6]) rfl ?_ rfl;rw[eF];exact ah eA (ah eB (ah eC eR))
theorem va{φ:D}{xs:List D}(hφ:bG φ)(hx:xs.length<=200):∃(ys:List D)(φ':D),di φ [.lst xs]=some ((.lst ys,true),φ')/\ys.Perm xs/\bG φ':=by
 obtain⟨sf,ew,ts,φ',rfl,pm,hf⟩:=oV (f:=aE (fOp bNe (ag 2) (bX ao))) (B:=cu (fM isL bW 3 (ac (fM isL mD 2 (ac (fIO aH 0 (ac (fCB g8 (ac (ag 2) ao)) ao)) ao)) ao)))
  (fun m s=>∃(ls ts:List D)(φ':D),s=[.io φ',.v (.lst xs),.o (.lst ls),.o (.lst ts)]/\bG φ'/\(ts++ls).Perm xs/\m=ls.length)
  (fun s=>∃(ts:List D)(φ':D),s=[.io φ',.v (.lst xs),.o (.lst []),.o (.lst ts)]/\ts.Perm xs/\bG φ')
  (by
   rintro m s ⟨ls,ts,φ',rfl,hf,pm,rfl⟩;have hlen:ts.length+ls.length=xs.length:=by have:=pm.length_eq;rw[Za]at this;exact this
   cases ls with
   | nil =>
    rw[Zc]at pm;exact .inl ⟨_,rfl,ts,φ',rfl,pm,hf⟩
   | cons y lr =>
    right;have hl0:(y::lr).length=lr.length+1:=rfl;obtain⟨d,φ2,e,d0,d1,f2⟩:=bN (n:=((y::lr).length:Int)) hf (by lia) (by lia)
    have hk:d.toNat<(y::lr).length:=by lia
    refine⟨_,[.io φ2,.v (.lst xs),.o (.lst ((y::lr).eraseIdx d.toNat)),.o (.lst (ts++[(y::lr)[d.toNat]]))],((y::lr).eraseIdx d.toNat).length,rfl,?_,?_,_,_,φ2,rfl,f2,?_,rfl⟩
    ·exact b7 (jB rfl rfl rfl (az (jB rfl rfl rfl (az (bh rfl rfl rfl rfl rfl rfl e) rfl) rfl rfl rfl (tT d0 d1 (by lia) hk)) rfl) rfl rfl rfl (d4 (by lia)))
    ·rw[List.length_eraseIdx_of_lt hk];lia
    ·refine List.Perm.trans ?_ pm;rw[Vb]
     exact List.Perm.append_left ts (kg hk))
  300 xs.length [.io φ,.v (.lst xs),.o (.lst xs),.o (.lst [])] (by lia) ⟨xs,[],φ,rfl,hφ,List.Perm.refl _,rfl⟩
 refine⟨ts,φ',?_,pm,hf⟩;refine bC (o:=.rt (.s 3) [.io φ',.v (.lst xs),.o (.lst []),.o (.lst ts)]) rfl ?_ rfl;refine ah (s:=[.io φ,.v (.lst xs),.o (.lst xs),.e]) rfl ?_;refine ah (s:=[.io φ,.v (.lst xs),.o (.lst xs),.o (.lst [])]) rfl ?_;exact ah ew rfl
end K04
namespace VF
open PySem L2
theorem n6(xs:List D):cT [.lst xs]=some (.tup xs,false):=rfl
theorem xJ{xs ys:List D}(h:xs.length+ys.length<=1000000):mH (.lst xs) [.tup ys]=some (.non,.lst (xs++ys)):=by
 show(if xs.length+ys.length<=1000000 then some (D.non,D.lst (xs++ys)) else none)=_;rw[if_pos h]
end VF
namespace K04
open PySem L2 VF VL
noncomputable abbrev bdD(p:Bool×Str):D:=.str (bd p)
noncomputable abbrev ay:=Bool×List (Bool×Str)
noncomputable def kd(r:Bool):Str:=if r then "ring" else "open"
noncomputable def stD(s:ay):D:=.tup [.str (kd s.1),.tup (s.2.map bdD)]
theorem tV{p:Bool×Str}(h:Nm p.2):(bd p).length<=1000000:=by have:=(gd h).2;lia
theorem m3{φ:D}{xs:List Str}(hφ:bG φ)(hx:xs.length<=200)(nm:∀x∈xs,Nm x):∃(ps:List (Bool×Str))(φ':D),cb φ [.lst (xs.map D.str)]=some ((.tup (ps.map bdD),false),φ')/\(ps.map (·.2)).Perm xs/\bG φ':=by
 obtain⟨ys,φ1,e1,pm,f1⟩:=va (xs:=xs.map D.str) hφ (by rw[Xa];exact hx)
 obtain⟨zs,rfl,pz⟩:=mZ (g:=fun d=>match d with|.str z=>z|_=>Str.empty) (fun _=>rfl) pm
 have hzl:=pz.length_eq;have nz:∀z∈zs,Nm z:=fun z hz=>nm z (pz.mem_iff.mp hz);obtain⟨ds,sf,ec,φ2,ps,rfl,f2,e3,e4⟩:=lE (fg:=gN 0) (fc:=fu) (k:=1) (fe:=fOp bY (fOp jz (fC (.str "-")) (fIO aH 1 (ac (fC (.int 2)) ao))) (ag 0)) (zs.map D.str)
  (fun gone pre sb=>∃(φ':D)(ps:List (Bool×Str)),sb=[.e,.io φ']/\bG φ'/\pre=ps.map bdD/\gone=(ps.map (·.2)).map D.str)
  (by
   rintro gone x rest pre sb ha ⟨φ',ps,rfl,hf,rfl,rfl⟩;obtain⟨d,φ2,e,d0,d1,f2⟩:=bN (n:=2) hf (by decide) (by decide)
   have hxm:x∈zs.map D.str:=by rw[ha];simp
   obtain⟨z,hz,rfl⟩:=We.mp hxm;have hm:=rg (d:=d) (n:=z) d0 d1;refine⟨[.v (.str z),.io φ'],[.v (.str z),.io φ'],.d (bdD (decide (d=1),z)),[.v (.str z),.io φ2],bdD (decide (d=1),z),[.v (.str z),.io φ2],rfl,rfl,?_,rfl,φ2,ps++[(decide (d=1),z)],rfl,f2,by rw[Vc];rfl,by rw[Vc,Vc];rfl⟩
   refine ax (ax rfl (bh rfl rfl rfl rfl rfl rfl e) rfl rfl (qk ⟨d0,by lia,by decide +kernel⟩)) rfl rfl rfl (dJ ?_) ?_
   ·have:=(gd (p:=(decide (d=1),z)) (nz z hz)).2;rw[← hm,Str.length_append]at this;show(Txt.mul minus d).length+z.length<=_;lia
   ·show Rs.d (D.str (Txt.mul minus d++z))=_
    rw[hm])
  (zs.map D.str) [] [] [.e,.io φ1] rfl ⟨φ1,[],rfl,f1,rfl,rfl⟩
 rw[Zi]at e3;subst e3;have e5:zs=ps.map (·.2):=by
  have:=congrArg (List.map (fun d:D=>match d with|.str z=>z|_=>Str.empty)) e4
  rw[Qf,Qf]at this;exact((List.map_id' zs).symm.trans this).trans (List.map_id' _)
 refine⟨ps,φ2,?_,by rw[← e5];exact pz,f2⟩
 refine bC (o:=.rt (.d (.tup (ps.map bdD))) [.io φ2,.v (.lst (xs.map D.str))]) rfl ?_ rfl;refine bf (dI (az (cF (lD (bh rfl rfl rfl rfl rfl rfl e1) rfl) ?_ ec) rfl) rfl rfl);show(true&&decide ((zs.map D.str).length<=1000000))=true;rw[Xa,decide_eq_true (by lia)];rfl
theorem jM:∀(ss:List ay),(∀s∈ss,s.2≠[])->ss.length<=(ss.flatMap (·.2)).length
 | [],_=>Wa _
 | s::r,h=>by
  have ih:=jM r fun x hx=>h x (Va _ hx);have hs:1<=s.2.length:=by
   cases e:s.2 with
   | nil=>exact absurd e (h s Xb)
   | cons _ _=>simp
  rw[Xc,Za,Yd];lia
theorem xK{φ:D}{xs:List Str}(hφ:bG φ)(hx:xs.length<=200)(nm:∀x∈xs,Nm x):∃(ss:List ay)(φ':D),i6 φ [.lst (xs.map D.str),.bl true]=some ((.tup (ss.map stD),false),φ')/\(∀s∈ss,s.2≠[])/\((ss.flatMap (·.2)).map (·.2)).Perm xs/\bG φ':=by
 obtain⟨ps,φ1,e1,pm,f1⟩:=m3 hφ hx nm;have hpl:ps.length=xs.length:=by have:=pm.length_eq;rw[Xa]at this;exact this
 have lp:∀(B:FS),(∀(φ':D)(ss:List ay)(piece:List (Bool×Str))(b:Bool×Str),bG φ'->(∀s∈ss,s.2≠[])->ss.length<=300->piece.length<=300 ->
    ∃(φ2:D)(ss2:List ay)(piece2:List (Bool×Str)),B [.io φ',.v (.lst (xs.map D.str)),.v (.bl true),.o (.lst (ss.map stD)),.o (.lst (piece.map bdD)),.v (bdD b)]=some (.nx [.io φ2,.v (.lst (xs.map D.str)),.v (.bl true),.o (.lst (ss2.map stD)),.o (.lst (piece2.map bdD)),.v (bdD b)])/\bG φ2/\(∀s∈ss2,s.2≠[])/\ss2.flatMap (·.2)++piece2=ss.flatMap (·.2)++piece++[b]) ->
   ∃(φ':D)(ss:List ay)(piece:List (Bool×Str))(o5:Sl),gE (fIA (fIO cb 0 (ac (ag 1) ao))) (gN 5) B [.io φ,.v (.lst (xs.map D.str)),.v (.bl true),.o (.lst []),.o (.lst []),.e]=some (.nx [.io φ',.v (.lst (xs.map D.str)),.v (.bl true),.o (.lst (ss.map stD)),.o (.lst (piece.map bdD)),o5])/\bG φ'/\(∀s∈ss,s.2≠[])/\ss.flatMap (·.2)++piece=ps:=by
  intro B hB;obtain⟨sf,e,φ',ss,piece,o5,gp,rfl,hf,hne,hg,hgp,hgp3,_⟩:=fW (fg:=gN 5) (B:=B) (ps.map bdD) (fun gone s=>∃(φ':D)(ss:List ay)(piece:List (Bool×Str))(o5:Sl)(gp:List (Bool×Str)),s=[.io φ',.v (.lst (xs.map D.str)),.v (.bl true),.o (.lst (ss.map stD)),.o (.lst (piece.map bdD)),o5]/\bG φ'/\(∀s∈ss,s.2≠[])/\ss.flatMap (·.2)++piece=gp/\(∃r,gp++r=ps)/\gone=gp.map bdD/\o5.isIo=false)
   (by
    rintro gone x rest s ha ⟨φ',ss,piece,o5,gp,rfl,hf,hne,hg,⟨r,hr⟩,rfl,q5⟩;cases r with
    | nil =>
     rw[Zc]at hr;subst hr;have:=congrArg List.length ha;simp at this
    | cons b r =>
     have hb:bdD b=x:=by
      rw[← hr,Vc]at ha;have:=List.append_cancel_left ha;exact(List.cons.inj this).1
     have hlen:=congrArg List.length hr;rw[Za,Yd]at hlen;have hl2:=congrArg List.length hg;rw[Za]at hl2;have hl3:=jM ss hne;obtain⟨φ2,ss2,piece2,eB,f2,hne2,hfl⟩:=hB φ' ss piece b hf hne (by lia) (by lia)
     subst hb
     exact⟨_,_,bH rfl q5,eB,φ2,ss2,piece2,.v (bdD b),gp++[b],rfl,f2,hne2,by rw[hfl,hg],⟨r,by rw[Vb];exact hr⟩,by rw[Vc];rfl,rfl⟩)
   (ps.map bdD) [] [.io φ1,.v (.lst (xs.map D.str)),.v (.bl true),.o (.lst []),.o (.lst []),.e] rfl ⟨φ1,[],[],.e,[],rfl,f1,fun s hs=>(by cases hs),rfl,⟨ps,rfl⟩,rfl,rfl⟩
  obtain⟨⟨r,hr⟩,hgp2⟩:(∃r,gp++r=ps)/\ps.map bdD=gp.map bdD:=⟨hgp,hgp3⟩;have hlen:=congrArg List.length hgp2;rw[Xa,Xa]at hlen;have hl2:=congrArg List.length hr;rw[Za]at hl2;have:r=[]:=Yh (by lia)
  subst this;rw[Zc]at hr;exact⟨φ',ss,piece,o5,eM (nR (bh rfl rfl rfl rfl rfl rfl e1) rfl) e,hf,hne,by rw[hg,hr]⟩
 have sp:∃B R,i5=aA (aY (bX ao) 3) (aA (aY (bX ao) 4) (aA (gE (fIA (fIO cb 0 (ac (ag 1) ao))) (gN 5) B) R)) /\
   (∀(φ':D)(ss:List ay)(piece:List (Bool×Str))(b:Bool×Str),bG φ'->(∀s∈ss,s.2≠[])->ss.length<=300->piece.length<=300 ->
    ∃(φ2:D)(ss2:List ay)(piece2:List (Bool×Str)),B [.io φ',.v (.lst (xs.map D.str)),.v (.bl true),.o (.lst (ss.map stD)),.o (.lst (piece.map bdD)),.v (bdD b)]=some (.nx [.io φ2,.v (.lst (xs.map D.str)),.v (.bl true),.o (.lst (ss2.map stD)),.o (.lst (piece2.map bdD)),.v (bdD b)])/\bG φ2/\(∀s∈ss2,s.2≠[])/\ss2.flatMap (·.2)++piece2=ss.flatMap (·.2)++piece++[b]) /\
   (∀(φ':D)(ss:List ay)(piece:List (Bool×Str))(o5:Sl),ss.length<=300->(∀s∈ss,s.2≠[])->∃(ss2:List ay)(s':En),R [.io φ',.v (.lst (xs.map D.str)),.v (.bl true),.o (.lst (ss.map stD)),.o (.lst (piece.map bdD)),o5]=some (.rt (.d (.tup (ss2.map stD))) (.io φ'::s'))/\(∀s∈ss2,s.2≠[])/\ss2.flatMap (·.2)=ss.flatMap (·.2)++piece):=by
  refine⟨_,_,rfl,?_,?_⟩
  ·intro φ' ss piece b hf hne hs hp;have ap:cu (fM isL bW 4 (ac (ag 5) ao)) [.io φ',.v (.lst (xs.map D.str)),.v (.bl true),.o (.lst (ss.map stD)),.o (.lst (piece.map bdD)),.v (bdD b)]=some (.nx [.io φ',.v (.lst (xs.map D.str)),.v (.bl true),.o (.lst (ss.map stD)),.o (.lst ((piece++[b]).map bdD)),.v (bdD b)]) :=
    b7 (jB rfl rfl rfl rfl rfl rfl rfl (d4 (by rw[Xa];lia)) (by rw[Vc];rfl))
   have nw:∀(r:Bool),∀s∈ss++[(r,piece++[b])],s.2≠[]:=fun r s hs=>by
    rcases Xg.mp hs with z|z
    ·exact hne s z
    ·have:s=(r,piece++[b]):=by simpa using z
     rw[this];simp
   have fl:∀(r:Bool),(ss++[(r,piece++[b])]).flatMap (·.2)++[]=ss.flatMap (·.2)++piece++[b]:=fun r=>by
    rw[Qe];simp
   have ms:∀r,(ss++[(r,piece++[b])]).map stD=ss.map stD++[stD (r,piece++[b])]:=fun r=>by rw[Vc];rfl
   have lss:(ss.map stD).length<1000000:=by rw[Xa];lia
   obtain⟨d,φ2,e2,d0,d1,f2⟩:=bN (n:=3) hf (by decide) (by decide)
   by_cases c:d=0
   ·subst c;refine⟨φ2,ss++[(false,piece++[b])],[],ah ap ?_,f2,nw false,fl false⟩;refine eK (s:=[.io φ2,.v (.lst (xs.map D.str)),.v (.bl true),.o (.lst (ss.map stD)),.o (.lst ((piece++[b]).map bdD)),.v (bdD b)]) (aB (ax (bh rfl rfl rfl rfl rfl rfl e2) rfl rfl rfl rfl) rfl) ?_;refine ah (b7 (jB rfl rfl rfl rfl rfl rfl rfl (d4 lss) (st3:=[.io φ2,.v (.lst (xs.map D.str)),.v (.bl true),.o (.lst ((ss++[(false,piece++[b])]).map stD)),.o (.lst ((piece++[b]).map bdD)),.v (bdD b)]) (by rw[ms];rfl))) ?_
    rfl
   ·have t:decide (V.int d=V.int 0)=false:=decide_eq_false fun z=>c (V.int.inj z);obtain⟨d2,φ3,e3,d20,d21,f3⟩:=bN (n:=3) f2 (by decide) (by decide)
    have tst:∀s,aE (fOp bEq (fIO aH 0 (ac (fC (.int 3)) ao)) (fC (.int 0))) (.io φ2::s)=some (decide (V.int d2=V.int 0),.io φ3::s):=fun s=>aB (ax (bh rfl rfl rfl rfl rfl rfl e3) rfl rfl rfl rfl) rfl;by_cases c2:d2=0
    ·subst c2;refine⟨φ3,ss++[(true,piece++[b])],[],ah ap ?_,f3,nw true,fl true⟩;refine ck (s:=[.io φ2,.v (.lst (xs.map D.str)),.v (.bl true),.o (.lst (ss.map stD)),.o (.lst ((piece++[b]).map bdD)),.v (bdD b)]) (cL (aB (ax (bh rfl rfl rfl rfl rfl rfl e2) rfl rfl rfl rfl) rfl) t) ?_;refine eK (s:=[.io φ3,.v (.lst (xs.map D.str)),.v (.bl true),.o (.lst (ss.map stD)),.o (.lst ((piece++[b]).map bdD)),.v (bdD b)]) (lq rfl (tst _)) ?_;refine ah (b7 (jB rfl rfl rfl rfl rfl rfl rfl (d4 lss) (st3:=[.io φ3,.v (.lst (xs.map D.str)),.v (.bl true),.o (.lst ((ss++[(true,piece++[b])]).map stD)),.o (.lst ((piece++[b]).map bdD)),.v (bdD b)]) (by rw[ms];rfl))) ?_
     rfl
    ·have t2:decide (V.int d2=V.int 0)=false:=decide_eq_false fun z=>c2 (V.int.inj z);refine⟨φ3,ss,piece++[b],ah ap ?_,f3,hne,by rw[Vb]⟩
     refine ck (s:=[.io φ2,.v (.lst (xs.map D.str)),.v (.bl true),.o (.lst (ss.map stD)),.o (.lst ((piece++[b]).map bdD)),.v (bdD b)]) (cL (aB (ax (bh rfl rfl rfl rfl rfl rfl e2) rfl rfl rfl rfl) rfl) t) ?_;exact ck (lq rfl (cL (tst _) t2)) rfl
  ·intro φ' ss piece o5 hs hne;cases piece with
   | nil =>
    exact⟨ss,_,ah (ck rfl rfl) (bf (dI rfl rfl rfl)),hne,by rw[Zc]⟩
   | cons p pr =>
    refine⟨ss++[(false,p::pr)],[.v (.lst (xs.map D.str)),.v (.bl true),.o (.lst ((ss++[(false,p::pr)]).map stD)),.o (.lst ((p::pr).map bdD)),o5],?_,fun s hs=>?_,by rw[Qe];simp⟩
    ·refine ah (eK rfl (b7 (jB rfl rfl rfl rfl rfl rfl rfl (d4 (by rw[Xa];lia)) (st3:=[.io φ',.v (.lst (xs.map D.str)),.v (.bl true),.o (.lst ((ss++[(false,p::pr)]).map stD)),.o (.lst ((p::pr).map bdD)),o5]) (by rw[show(ss++[(false,p::pr)]).map stD=ss.map stD++[stD (false,p::pr)] from by rw[Vc];rfl];rfl)))) ?_
     exact bf (dI rfl rfl rfl)
    ·rcases Xg.mp hs with z|z
     ·exact hne s z
     ·have:s=(false,p::pr):=by simpa using z
      rw[this];simp
 obtain⟨B,R,eF,hB,hR⟩:=sp;obtain⟨φ',ss,piece,o5,eL,hf,hne,hps⟩:=lp B hB;have hl2:=congrArg List.length hps;rw[Za]at hl2;have hl3:=jM ss hne;obtain⟨ss2,s',eR,hne2,hfl⟩:=hR φ' ss piece o5 (by lia) hne
 refine⟨ss2,φ',?_,hne2,by rw[hfl,hps];exact pm,hf⟩
 refine bC (o:=.rt (.d (.tup (ss2.map stD))) (.io φ'::s')) rfl ?_ rfl;rw[eF];exact ah rfl (ah rfl (ah eL eR))
end K04
namespace VF
open PySem L2
theorem vb{n:Nat}{x:D}(h:x∈rng 0 n):∃i:Nat,i<n/\x=.int i:=by
 obtain⟨i,hi⟩:=Wh h;obtain⟨h1,h2⟩:=so hi;exact⟨i,h1,by rw[h2,Int.zero_add]⟩
theorem vc{α:Type}(xs:List α)(d:D):xs.map (fun _=>d)=List.replicate xs.length d:=by
 induction xs with
 | nil=>rfl
 | cons x r ih=>rw[Yc,ih];rfl
end VF
namespace K04
open PySem L2 VF VL
theorem rm{n:Nat}{u:D}(h:Dp (n+1) u):bx (jp (bz n)) 2 2 [u,u]=some (.bl true,false):=by
 have seqs:∀(ds:List D),ds.length<=1000000->(∀d∈ds,Dp n d)->∀(u:D),(∀i d,atI ds i=some d->bIx u (.int i)=some (d,false)) ->
   cP (gN 0) fu (bm (bz n) (ac (fOp bIx (ag 1) (ag 0)) (ac (fOp bIx (ag 2) (ag 0)) ao))) 1 (rng 0 ((ds.length:Int)).toNat) [.e,.v u,.v u]=some (List.replicate ds.length (D.bl true),[.e,.v u,.v u]):=fun ds hl hd u hu=>by
  have e:=lw (fg:=gN 0) (fc:=fu) (k:=1) (fe:=bm (bz n) (ac (fOp bIx (ag 1) (ag 0)) (ac (fOp bIx (ag 2) (ag 0)) ao))) (fun _=>D.bl true) (rng 0 ((ds.length:Int)).toNat) [.e,.v u,.v u] (fun x hx=>by
   obtain⟨i,hi,rfl⟩:=vb hx;have hi':i<ds.length:=by lia
   have ha:atI ds (i:Int)=some ds[i]:=md (Wd hi');refine⟨[.v (.int i),.v u,.v u],[.v (.int i),.v u,.v u],.d (.bl true),[.v (.int i),.v u,.v u],[.v (.int i),.v u,.v u],rfl,rfl,?_,rfl,rfl⟩
   exact aT (az (ax rfl rfl rfl rfl (hu _ _ ha)) (az (ax rfl rfl rfl rfl (hu _ _ ha)) rfl)) rfl (de (hd _ (List.getElem_mem hi'))) rfl)
  rw[e,vc,dH];have:((ds.length:Int)).toNat=ds.length:=by lia
  rw[this]
 cases h with
 | bl _ b=>cases b<;>rfl
 | int _ i =>
  refine bg (o:=.rt (.d (.bl true)) [.v (.int i),.v (.int i)]) rfl ?_ rfl;refine ah (s:=[.v (.int i),.v (.int i)]) rfl (ah (s:=[.v (.int i),.v (.int i)]) rfl (g9 (eK (s:=[.v (.int i),.v (.int i)]) rfl ?_)));refine bf (j6 (s:=[.v (.int i),.v (.int i)]) rfl rfl (ax rfl rfl rfl rfl (z:=(.bl (decide (V.int i=V.int i)),false)) rfl ?_));rw[decide_eq_true rfl];rfl
 | non _=>rfl
 | str _ x =>
  refine bg (o:=.rt (.d (.bl true)) [.v (.str x),.v (.str x)]) rfl ?_ rfl;refine ah (s:=[.v (.str x),.v (.str x)]) rfl (ah (s:=[.v (.str x),.v (.str x)]) rfl (ah (s:=[.v (.str x),.v (.str x)]) rfl (g9 (eK (s:=[.v (.str x),.v (.str x)]) rfl ?_))));refine bf (j6 (s:=[.v (.str x),.v (.str x)]) rfl rfl (ax rfl rfl rfl rfl (z:=(.bl (decide (V.str x=V.str x)),false)) rfl ?_));rw[decide_eq_true rfl];rfl
 | @tup _ ds hl hd =>
  refine bg (o:=.rt (.d (.bl true)) [.v (.tup ds),.v (.tup ds)]) rfl ?_ rfl;refine ah (s:=[.v (.tup ds),.v (.tup ds)]) rfl (ah (s:=[.v (.tup ds),.v (.tup ds)]) rfl (ah (s:=[.v (.tup ds),.v (.tup ds)]) rfl (ah (s:=[.v (.tup ds),.v (.tup ds)]) rfl (ah (s:=[.v (.tup ds),.v (.tup ds)]) rfl ?_))));refine bf (j6 (s:=[.v (.tup ds),.v (.tup ds)]) (r:=.d (.bl (decide (V.int ds.length=V.int ds.length)))) rfl (by rw[decide_eq_true rfl];rfl) ?_)
  refine dI (az (cF (jJ (j:=(ds.length:Int)) rfl rfl ⟨by lia,by lia⟩) (by
   show(true&&decide ((rng 0 ((ds.length:Int)).toNat).length<=1000000))=true
   rw[dH,decide_eq_true (by lia)];rfl) (seqs ds hl hd (.tup ds) fun i d h=>VF.ix_tup h)) rfl) rfl (nQ _)
 | @lst _ ds hl hd =>
  refine bg (o:=.rt (.d (.bl true)) [.v (.lst ds),.v (.lst ds)]) rfl ?_ rfl;refine ah (s:=[.v (.lst ds),.v (.lst ds)]) rfl (ah (s:=[.v (.lst ds),.v (.lst ds)]) rfl (ah (s:=[.v (.lst ds),.v (.lst ds)]) rfl (ah (s:=[.v (.lst ds),.v (.lst ds)]) rfl (ah (s:=[.v (.lst ds),.v (.lst ds)]) rfl ?_))));refine bf (j6 (s:=[.v (.lst ds),.v (.lst ds)]) (r:=.d (.bl (decide (V.int ds.length=V.int ds.length)))) rfl (by rw[decide_eq_true rfl];rfl) ?_)
  refine dI (az (cF (jJ (j:=(ds.length:Int)) rfl rfl ⟨by lia,by lia⟩) (by
   show(true&&decide ((rng 0 ((ds.length:Int)).toNat).length<=1000000))=true
   rw[dH,decide_eq_true (by lia)];rfl) (seqs ds hl hd (.lst ds) fun i d h=>dZ h)) rfl) rfl (nQ _)
end K04
namespace K04
open PySem L2 VF VF22 VT
theorem bO(x:Str):x.length=x.cps.toList.length:=by simp[Str.length]
theorem y9:("\n":Str)=⟨#[10]⟩:=by rfl
theorem za:(" ":Str)=⟨#[32]⟩:=by rfl
noncomputable def tx(l:List Nat):Str:=⟨l.toArray⟩
theorem kx(x:Str):tx x.cps.toList=x:=by cases x;rfl
theorem pp{f:Nat->List Nat}(n:Nat)(h:∀k,(f k).length<=n):∀l:List Nat,(l.flatMap f).length<=n*l.length
 | []=>by simp
 | k::r=>by
  rw[Xc,Za,Yd,Nat.mul_succ];have:=pp n h r;have:=h k;lia
theorem tW{x ms:Str}(h1:32∉ms.cps.toList)(h2:10∉ms.cps.toList)(hn:ms.cps.toList.Nodup)(hl:ms.cps.toList.length<=4)(hx:x.cps.toList.length<=10000) :
  dh [.str x,.str ms]=some (.lst ((wt ms.cps.toList [] x.cps.toList).map fun l=>D.str (tx l)),true):=by
 have e1:(Txt.replace x "\n" " ").cps.toList=x.cps.toList.flatMap (rp 10 [32]):=by rw[y9,j9];rfl
 have l1:(Txt.replace x "\n" " ").cps.toList.length<=10000:=by
  rw[e1];exact Wb (pp 1 (fun k=>by unfold rp;split<;>simp) _) (by lia)
 have p4:3 ^ ms.cps.toList.length<=81:=Wb (Nat.pow_le_pow_right (by decide) hl) (by decide)
 have l2:3 ^ ms.cps.toList.length*(Txt.replace x "\n" " ").cps.toList.length<=1048576:=Wb (Nat.mul_le_mul p4 l1) (by decide)
 have rk:=nX ms.cps.toList (Txt.replace x "\n" " ") l2;have e2:=kc ms.cps.toList (Txt.replace x "\n" " ") h1 hn;rw[e1,yU h1 h2]at e2;generalize hy:bT " " " " ms.cps.toList (Txt.replace x "\n" " ")=y at e2;have l3:y.length<=100000:=by
  rw[bO,e2];exact Wb (pp 3 (fun k=>by unfold ft;by_cases a:k=10<;>by_cases b:k∈ms.cps.toList<;>simp[a,b]) _) (by lia)
 have l4:(Txt.split y " ").length<=1000000:=by
  unfold Txt.split;split
  ·simp
  ·split
   ·simp
   ·rw[length_partsBetween];have:=StrLaws.occ_length_le y " " 0 y.length (y.length+1);lia
 have hs:o0 (.str y) [.str " "]=some (.lst ((Txt.split y " ").map D.str),true):=if_pos ⟨rfl,l3⟩;have hw:((Txt.split y " ").filter fun p=>!p.cps.toList.isEmpty).map D.str=(wt ms.cps.toList [] x.cps.toList).map fun l=>D.str (tx l):=by
  have e:=tG y;rw[e2]at e;show _=(wd [] (x.cps.toList.flatMap (ft ms.cps.toList))).map _;rw[← e,za,List.filter_map,Qf];refine Qh fun p _=>?_;show D.str p=D.str (tx p.cps.toList);rw[kx]
 refine bg rfl (o:=.rt (.f (.lst ((wt ms.cps.toList [] x.cps.toList).map fun l=>D.str (tx l)))) [.v (.str x),.v (.str ms),.v (.str y),.e]) ?_ rfl;show hV [.v (.str x),.v (.str ms),.e,.e]=_;refine ah (ck (cB (c:=true) rfl) rfl) ?_;refine ah (s:=[.v (.str x),.v (.str ms),.v (.str (Txt.replace x "\n" " ")),.e]) (b9 (s:=[.v (.str x),.v (.str ms),.e,.e]) (x:=.str (Txt.replace x "\n" " ")) ?_ rfl) ?_
 ·show(if x.length<=1048576/\Str.length " "<=14 then _ else _)=_;rw[if_pos ⟨by rw[bO];lia,by decide +kernel⟩]
 refine ah (s:=[.v (.str x),.v (.str ms),.v (.str y),.e]) ?_ ?_
 ·show(if gM " " " " ms.cps.toList (Txt.replace x "\n" " ")=true then some (Ot.nx [.v (.str x),.v (.str ms),.v (.str (bT " " " " ms.cps.toList (Txt.replace x "\n" " "))),.e]) else none)=_;rw[if_pos rk,hy]
 refine bf (cF (lD (jj rfl rfl rfl (az rfl rfl) rfl rfl hs) rfl) (by rw[Xa];exact Xe _ _ |>.mpr ⟨rfl,decide_eq_true l4⟩) (s2:=[.e]) ?_)
 rw[← hw];refine hJ (fg:=gN 0) (fc:=iD) (fe:=iE) (k:=1) D.str D.str (fun p=>!p.cps.toList.isEmpty) [.e] (Txt.split y " ") fun p _=>⟨[.v (.str p)],[.v (.str p)],rfl,?_,fun _=>rfl,fun _=>⟨.d (.str p),[.v (.str p)],[.v (.str p)],rfl,rfl,rfl⟩⟩;refine cL (aB (r:=.d (.bl (!decide (V.str p=V.str "")))) (ax rfl rfl rfl rfl rfl) rfl) ?_;show(!decide (V.str p=V.str ""))=!p.cps.toList.isEmpty;congr 1;rw[Vi,decide_eq_true_eq,List.isEmpty_iff];constructor
 ·intro e;cases e;rfl
 ·intro e;have:p="":=by rw[← kx p,e];rfl
  rw[this]
end K04
namespace VF
open PySem L2
theorem lJ{α:Type}(f:α->Bool):∀xs:List α,iu (xs.map fun x=>D.bl (f x))=some (xs.map f)
 | []=>rfl
 | x::r=>by
  show(iu (r.map fun x=>D.bl (f x))).bind _=_;rw[lJ f r];rfl
theorem tX{α:Type}(f:α->Bool)(xs:List α):qZ [.lst (xs.map fun x=>D.bl (f x))]=some (.bl (xs.all f),false):=by
 show(iu _).bind _=_;rw[lJ];show some (D.bl ((xs.map f).all id),false)=_;rw[List.all_map];rfl
end VF
namespace K04
open PySem L2 VF VL VF22
noncomputable section
noncomputable def inL(c:Nat):Bool:=!(Builtin.Str.occurrences ("abcdefghijklmnopqrstuvwxyz":Str) ⟨#[c]⟩ 0 ("abcdefghijklmnopqrstuvwxyz":Str).length 1).isEmpty
theorem vd:∀c:Nat,c<123->97<=c->inL c=true:=by decide +kernel
noncomputable def okT(x:Str):Bool:=(decide (1<=x.length)&&decide (x.length<=6))&&x.cps.toList.all inL
theorem xL{x:Str}(h:Nm x):okT x=true:=by
 obtain⟨h1,h2,h3⟩:=h;unfold okT;rw[decide_eq_true h1,decide_eq_true h2];simp only[Bool.and_self,Bool.true_and];rw[Vh];intro c hc;have:=h3 c hc;exact vd c (by lia) this.1
theorem len_str{x:Str}(h:x.length<=1000000):g8 [.str x]=some (.int (x.length:Int),false):=by
 first
  | rfl
  | (unfold g8 orC;simp[sI,D.seq,sJ,h])
theorem tY{x:Str}(h:x.length<=1000000):gA [.str x]=some (.bl (okT x),false):=by
 have hc:cv 1 [] (fIA (ag 0)) (gN 0) fu (fOp bIn (ag 0) (fC (.str "abcdefghijklmnopqrstuvwxyz"))) [.v (.str x)]=some (.f (.lst (x.cps.toList.map fun c=>D.bl (inL c))),[.v (.str x)]):=by
  refine cF (s1:=[.v (.str x)]) (ds:=jV x) (s2:=[.e]) rfl (by
   have:(jV x).length=x.length:=by unfold jV;rw[Xa,Qg];rfl
   rw[this,decide_eq_true h];rfl) ?_
  exact df (fun c=>D.str ⟨#[c]⟩) (fun c=>D.bl (inL c)) [.e] x.cps.toList fun c _=>⟨[.v (.str ⟨#[c]⟩)],[.v (.str ⟨#[c]⟩)],.d (.bl (inL c)),[.v (.str ⟨#[c]⟩)],[.v (.str ⟨#[c]⟩)],rfl,rfl,ax rfl rfl rfl rfl rfl,rfl,rfl⟩
 have ch:aE (mq bLe bLe (fC (.int 1)) (fCB g8 (ac (ag 0) ao)) (fC (.int 6))) [.v (.str x)]=some (decide (1<=x.length)&&decide (x.length<=6),[.v (.str x)]):=by
  have l1:fCB g8 (ac (ag 0) ao) [.v (.str x)]=some (.d (.int (x.length:Int)),[.v (.str x)]):=dI rfl rfl (len_str h);have b1:bLe (.int 1) (.int (x.length:Int))=some (.bl (decide (1<=x.length)),false):=by
   show some (D.bl (decide ((1:Int)<=(x.length:Int))),false)=_;congr 3;rw[decide_eq_decide];lia
  have b2:bLe (.int (x.length:Int)) (.int 6)=some (.bl (decide (x.length<=6)),false):=by
   show some (D.bl (decide ((x.length:Int)<=6)),false)=_;congr 3;rw[decide_eq_decide];lia
  refine aB (r:=.d (.bl (decide (1<=x.length)&&decide (x.length<=6)))) ?_ rfl;unfold mq;simp only[fC,l1,Ya,cont,b1];cases decide (1<=x.length) with
  | false=>rfl
  | true =>
   simp only[b2,Ya];rfl
 refine bg (o:=.rt (.d (.bl (okT x))) [.v (.str x)]) rfl ?_ rfl;unfold okT;cases e:(decide (1<=x.length)&&decide (x.length<=6)) with
 | false =>
  rw[e]at ch;exact g9 (eK (s:=[.v (.str x)]) (mI (s:=[.v (.str x)]) rfl (cB ch)) rfl)
 | true =>
  rw[e]at ch;refine ah (ck (s:=[.v (.str x)]) (mI (s:=[.v (.str x)]) rfl (cB ch)) rfl) ?_;exact bf (dI (az hc rfl) rfl (tX inL x.cps.toList))
theorem tZ{x:Str}(h:Nm x):gA [.str x]=some (.bl true,false):=by
 rw[tY (by have:=h.2.1;lia),xL h]
theorem lK{t:Bool}{n:Str}(h:Nm n):dM [bdD (t,n)]=some (.bl t,false):=by
 have e:dM [bdD (t,n)]=some (.bl (Txt.startswith (bd (t,n)) minus),false):=rfl;rw[e,rh h]
theorem lL{t:Bool}{n:Str}(h:Nm n):gB [bdD (t,n)]=some (.str n,false):=by
 refine bg (o:=.rt (.d (.str n)) [.v (bdD (t,n))]) rfl ?_ rfl;cases t with
 | true =>
  refine bf (vW (s:=[.v (bdD (true,n))]) (aB (aT rfl rfl (lK h) rfl) rfl) (lC rfl rfl rfl rfl (xw (tV h)) ?_));show Rs.d (D.str (Txt.slice (minus++n) (some 1) none))=_;rw[xG]
 | false=>exact bf (vX (s:=[.v (bdD (false,n))]) (aB (aT rfl rfl (lK h) rfl) rfl) rfl)
theorem pq{ps:List (Bool×Str)}(h:ps.length<=300):dg [.tup (ps.map bdD)]=some (.lst (ps.map bdD),true):=by
 have sp:∃B,eS=aA (aY (bX ao) 1) (aA (gE (fIA (ag 0)) (gN 2) B) (bo (ag 1)))/\∀(t:D)(xs:List D)(b:Bool×Str),xs.length<=300->B [.v t,.o (.lst xs),.v (bdD b)]=some (.nx [.v t,.o (.lst (xs++[bdD b])),.v (bdD b)]):=by
  refine⟨_,rfl,fun t xs b hx=>?_⟩;exact eK (s:=[.v t,.o (.lst xs),.v (bdD b)]) rfl (b7 (jB rfl rfl rfl rfl rfl rfl rfl (d4 (by lia))))
 obtain⟨B,eF,hB⟩:=sp;obtain⟨sf,e,o2,rfl,_⟩:=fW (fg:=gN 2) (B:=B) (ps.map bdD) (fun gone s=>∃o2:Sl,s=[.v (.tup (ps.map bdD)),.o (.lst gone),o2]/\o2.isIo=false)
  (by
   rintro gone x rest s ha ⟨o2,rfl,q⟩;have hxm:x∈ps.map bdD:=by rw[ha];simp
   obtain⟨b,_,rfl⟩:=We.mp hxm;have hg:=congrArg List.length ha;rw[Xa,Za]at hg
   exact⟨_,_,bH rfl q,hB _ gone b (by lia),.v (bdD b),rfl,rfl⟩)
  (ps.map bdD) [] [.v (.tup (ps.map bdD)),.o (.lst []),.e] rfl ⟨.e,rfl,rfl⟩
 refine bg (o:=.rt (.s 1) [.v (.tup (ps.map bdD)),.o (.lst (ps.map bdD)),o2]) rfl ?_ rfl;rw[eF];exact ah rfl (ah (eM (nR rfl rfl) e) rfl)
theorem rn{ss:List ay}(h:(ss.flatMap (·.2)).length<=300)(hs:ss.length<=300):dg [.tup (ss.map stD)]=some (.lst ((ss.flatMap (·.2)).map bdD),true):=by
 have sp:∃B,eS=aA (aY (bX ao) 1) (aA (gE (fIA (ag 0)) (gN 2) B) (bo (ag 1)))/\∀(t:D)(xs:List D)(s:ay),xs.length+s.2.length<=1000->B [.v t,.o (.lst xs),.v (stD s)]=some (.nx [.v t,.o (.lst (xs++s.2.map bdD)),.v (stD s)]):=by
  refine⟨_,rfl,fun t xs s hx=>?_⟩;exact ck (s:=[.v t,.o (.lst xs),.v (stD s)]) rfl (b7 (jB rfl rfl rfl rfl rfl rfl rfl (xJ (by rw[Xa];lia))))
 obtain⟨B,eF,hB⟩:=sp;obtain⟨sf,e,o2,gs,rfl,hgs,_⟩:=fW (fg:=gN 2) (B:=B) (ss.map stD) (fun gone s=>∃(o2:Sl)(gs:List ay),s=[.v (.tup (ss.map stD)),.o (.lst ((gs.flatMap (·.2)).map bdD)),o2]/\(∃r,gs++r=ss)/\gone.length=gs.length/\o2.isIo=false)
  (by
   rintro gone x rest s ha ⟨o2,gs,rfl,⟨r,hr⟩,hl,q⟩;have hg:=congrArg List.length ha;rw[Xa,Za,Yd]at hg;cases r with
   | nil =>
    rw[Zc]at hr;subst hr;lia
   | cons b r =>
    have hx:x=stD b:=by
     have h1:=congrArg (fun l=>l[gone.length]?) ha;simp only[Vd]at h1;rw[← hr,Wc (by lia),hl,Nat.sub_self,Wc (by lia)]at h1
     rw[hl,Nat.sub_self]at h1;simpa using h1.symm
    subst hx;have hfl:(gs.flatMap (·.2)).length+b.2.length<=300:=by
     have:=congrArg (fun l=>(List.flatMap (fun x:ay=>x.2) l).length) hr;simp only[Qe,Xc,Za]at this;lia
    refine⟨_,_,bH rfl q,hB _ _ b (by rw[Xa];lia),.v (stD b),gs++[b],?_,⟨r,by rw[Vb];exact hr⟩,by simp[hl],rfl⟩
    rw[Qe,Vc]
    simp)
  (ss.map stD) [] [.v (.tup (ss.map stD)),.o (.lst []),.e] rfl ⟨.e,[],rfl,⟨ss,rfl⟩,rfl,rfl⟩
 obtain⟨⟨r,hr⟩,hl⟩:(∃r,gs++r=ss)/\(ss.map stD).length=gs.length:=by
  obtain⟨h1,h2⟩:=(show(∃r,gs++r=ss)/\(ss.map stD).length=gs.length from⟨hgs,by simp_all⟩)
  exact⟨h1,h2⟩
 have hl2:=congrArg List.length hr;rw[Za]at hl2;rw[Xa]at hl;have:r=[]:=Yh (by lia)
 subst this;rw[Zc]at hr;subst hr;refine bg (o:=.rt (.s 1) [.v (.tup (gs.map stD)),.o (.lst ((gs.flatMap (·.2)).map bdD)),o2]) rfl ?_ rfl;rw[eF];exact ah rfl (ah (eM (nR rfl rfl) e) rfl)
end
end K04
namespace K04
open PySem L2 VF VL VF22
theorem t5{p:Bool×Str}(h:Nm p.2):i4 [bdD p]=some (.bl true,false):=by
 refine bg (o:=.rt (.d (.bl true)) [.v (bdD p)]) rfl ?_ rfl;exact bf (j6 (r:=.d (.bl true)) (s:=[.v (bdD p)]) rfl rfl (aT (az (aT rfl rfl (lL h) rfl) rfl) rfl (tZ h) rfl))
theorem ky{ps:List (Bool×Str)}(h:∀p∈ps,Nm p.2)(hl:ps.length<=1000):eU [.lst (ps.map bdD)]=some (.tup (ps.map bdD),false):=by
 have hc:cv 1 [] (fIA (ag 0)) (gN 0) fu iF [.v (.lst (ps.map bdD))]=some (.f (.lst (ps.map fun _=>D.bl true)),[.v (.lst (ps.map bdD))]):=by
  refine cF (s1:=[.v (.lst (ps.map bdD))]) (ds:=ps.map bdD) (s2:=[.e]) rfl (by rw[Xa,decide_eq_true (by lia:ps.length<=1000000)];rfl) ?_
  exact df bdD (fun _=>D.bl true) [.e] ps fun p hp=>⟨[.v (bdD p)],[.v (bdD p)],.d (.bl true),[.v (bdD p)],[.v (bdD p)],rfl,rfl,aT rfl rfl (t5 (h p hp)) rfl,rfl,rfl⟩
 refine bg (o:=.rt (.d (.tup (ps.map bdD))) [.v (.lst (ps.map bdD))]) rfl ?_ rfl;refine ah (ck (s:=[.v (.lst (ps.map bdD))]) (cB (c:=true) (aB (dI (az hc rfl) rfl (tX (fun _=>true) ps)) ?_)) rfl) (bf (dI rfl rfl (n6 _)));show some (ps.all fun _=>true)=_;simp
noncomputable def sn(ps:List (Bool×Str)):List (Key×D):=ps.map fun p=>(Sum.inr p.2,D.bl true)
theorem ve{ps:List (Bool×Str)}{n:Str}(h:n∉ps.map (·.2)):fZ (sn ps) (Sum.inr n)=none:=by
 unfold fZ sn;rw[Option.map_eq_none_iff,List.find?_eq_none];intro x hx;obtain⟨p,hp,rfl⟩:=We.mp hx;simp only[decide_eq_true_eq];intro e;exact h (We.mpr ⟨p,hp,Sum.inr.inj e⟩)
theorem xM{ps:List (Bool×Str)}{p:Bool×Str}(h:p.2∉ps.map (·.2)):o8 (sn ps) (Sum.inr p.2) (.bl true)=sn (ps++[p]):=by
 unfold o8;rw[if_neg]
 ·unfold sn;rw[Vc];rfl
 ·rw[List.any_eq_true];rintro⟨x,hx,e⟩;unfold sn at hx;obtain⟨q,hq,rfl⟩:=We.mp hx;exact h (We.mpr ⟨q,hq,Sum.inr.inj (of_decide_eq_true e)⟩)
theorem n8{t:D}{ps:List (Bool×Str)}(hb:dg [t]=some (.lst (ps.map bdD),true))(hn:∀p∈ps,Nm p.2)(hl:ps.length<=300)(h:(ps.map (·.2)).Nodup):cn [t]=some (.non,false):=by
 have step:∀(gone:List (Bool×Str))(p:Bool×Str)(o3:Sl),o3.isIo=false->Nm p.2->gone.length<=300->p.2∉gone.map (·.2)->cC [.v t,.o (.dk (sn gone)),.v (bdD p),o3]=some (.nx [.v t,.o (.dk (sn (gone++[p]))),.v (bdD p),.v (.str p.2)]):=fun gone p o3 q hp hg hm=>by
  refine ah (s:=[.v t,.o (.dk (sn gone)),.v (bdD p),.v (.str p.2)]) (b9 (s:=[.v t,.o (.dk (sn gone)),.v (bdD p),o3]) (x:=.str p.2) (aT rfl rfl (lL (t:=p.1) hp) rfl) (bH rfl q)) ?_;refine ah (ck (s:=[.v t,.o (.dk (sn gone)),.v (bdD p),.v (.str p.2)]) (aB (r:=.d (.bl false)) (ax (z:=(.bl false,false)) rfl rfl rfl rfl ?_) rfl) rfl) ?_
  ·show(some (fZ (sn gone) (Sum.inr p.2))).bind _=_;rw[ve hm];rfl
  ·refine mY (z':=.dk (sn (gone++[p]))) rfl rfl rfl rfl rfl rfl rfl rfl ?_;show(if (sn gone).length<100000 then some (D.dk (o8 (sn gone) (Sum.inr p.2) (.bl true))) else none)=_;rw[if_pos (by unfold sn;rw[Xa];lia),xM hm]
 obtain⟨sf,e,o2,o3,rfl,_,_⟩:=ef (fg:=gN 2) (B:=cC) bdD ps (fun gone s=>∃(o2 o3:Sl),s=[.v t,.o (.dk (sn gone)),o2,o3]/\o2.isIo=false/\o3.isIo=false)
  (by
   rintro gone x rest s ha ⟨o2,o3,rfl,q2,q3⟩;have hx:x∈ps:=by rw[ha];simp
   have hg:=congrArg List.length ha;rw[Za]at hg;have nd:=h;rw[ha,Vc,Yc]at nd;have hm:x.2∉gone.map (·.2):=fun m=>(Wj.mp nd).2.2 _ m _ (Xb ..) rfl
   exact⟨_,_,bH rfl q2,step gone x o3 q3 (hn x hx) (by lia) hm,.v (bdD x),.v (.str x.2),rfl,rfl,rfl⟩)
  ps [] [.v t,.o (.dk (sn [])),.e,.e] rfl ⟨.e,.e,rfl,rfl,rfl⟩
 refine bg (o:=.nx [.v t,.o (.dk (sn ps)),o2,o3]) rfl ?_ rfl;exact ah (s:=[.v t,.o (.dk (sn [])),.e,.e]) (j5 rfl rfl) (eM (lD (bL rfl rfl hb) rfl) e)
end K04
namespace VF22
open PySem L2 VF
theorem vf{st s:En}{r:Rs}{a:Str}{fe:FE}{rows:List (Str×Str)}{neg b:Bool}(h:fe st=some (r,s))(h1:cont s r=some (.str a))(h2:(if neg then !(cJ rows a).isSome else(cJ rows a).isSome)=b):ql neg rows fe st=some (.d (.bl b),s):=by
 simp only[ql,h,h1,Ya,h2]
theorem t6{st s:En}{r:Rs}{a c:Str}{fe:FE}{rows:List (Str×Str)}(h:fe st=some (r,s))(h1:cont s r=some (.str a))(h2:cJ rows a=some c):tu rows fe st=some (.d (.str c),s):=by
 simp only[tu,h,h1,Ya,h2]
end VF22
namespace K04
open PySem L2 VF VL VF22
noncomputable def opn(r:Bool):Str:=if r then "(" else "["
noncomputable def cls(r:Bool):Str:=if r then ")" else "]"
noncomputable def tk(s:ay):List D:=.str (opn s.1)::(s.2.map bdD++[.str (cls s.1)])
theorem zb(n:Nat):HT.sIx (n+2) 0 (some 1)=1:=by simp[HT.sIx]
theorem zc(n:Nat):HT.sIx (n+2) (n+2) (some (-1))=n+1:=by simp[HT.sIx];lia
theorem qu{a b:D}(xs:List D):cutD (a::(xs++[b])) (some 1) (some (-1))=xs:=by
 unfold cutD;have hl:(a::(xs++[b])).length=xs.length+2:=by simp
 rw[hl,zb,zc];show(xs++[b]).take (xs.length+1-1)=xs;rw[Nat.add_sub_cancel,List.take_append_of_le_length (Wa _),List.take_length]
theorem xN{a:D}(xs:List D):atI (a::xs) 0=some a:=by
 simp[atI,ixN]
theorem zd{a b:D}(xs:List D):atI (a::(xs++[b])) (-1)=some b:=by
 have hl:(a::(xs++[b])).length=xs.length+2:=by simp
 have h:ixN (xs.length+2) (-1)=some (xs.length+1):=by
  unfold ixN;simp;lia
 unfold atI;rw[hl,h];show(a::(xs++[b]))[xs.length+1]?=some b;rw[List.getElem?_cons_succ,Wc (Wa _),Nat.sub_self];rfl
theorem lM(r:Bool):cJ [("[","open"),("(","ring")] (opn r)=some (kd r):=by cases r<;>decide +kernel
theorem pw(r:Bool):cJ [("[","]"),("(",")")] (opn r)=some (cls r):=by cases r<;>decide +kernel
theorem kz(a:Str):bNe (.str a) (.str a)=some (.bl false,false):=by
 show some (D.bl (!decide (V.str a=V.str a)),false)=_;rw[decide_eq_true rfl];rfl
theorem rq{s:ay}(h:∀p∈s.2,Nm p.2)(hn:s.2≠[])(hl:s.2.length<=1000):dX [.lst (tk s)]=some (stD s,false):=by
 have i0:bIx (.lst (tk s)) (.int 0)=some (.str (opn s.1),false):=dZ (xN _);have im:bIx (.lst (tk s)) (.int (-1))=some (.str (cls s.1),false):=dZ (zd _);have sl:bSl (.lst (tk s)) (some 1) (some (-1))=some (.lst (s.2.map bdD),true):=by
  show some (D.lst (cutD (tk s) (some 1) (some (-1))),true)=_;unfold tk;rw[qu]
 have e0:∀o:Sl,fOp bIx (ag 0) (fC (.int 0)) [.v (.lst (tk s)),o]=some (.d (.str (opn s.1)),[.v (.lst (tk s)),o]):=fun o=>ax rfl rfl rfl rfl i0;have e1:∀o:Sl,fOp bIx (ag 0) (fUn qY (fC (.int 1))) [.v (.lst (tk s)),o]=some (.d (.str (cls s.1)),[.v (.lst (tk s)),o]):=fun o=>ax rfl rfl rfl rfl im;refine bg (o:=.rt (.d (stD s)) [.v (.lst (tk s)),.v (.tup (s.2.map bdD))]) rfl ?_ rfl;refine ah (s:=[.v (.lst (tk s)),.v (.tup (s.2.map bdD))]) (b9 (s:=[.v (.lst (tk s)),.e]) (x:=.tup (s.2.map bdD)) (bL (az (lC rfl rfl rfl rfl sl rfl) rfl) rfl (ky h hl)) rfl) ?_;refine ah (ck (s:=[.v (.lst (tk s)),.v (.tup (s.2.map bdD))]) (mI (aB (vf (b:=false) (e0 _) rfl (by rw[lM];rfl)) rfl) (mI (aB (ax (e1 _) (t6 (e0 _) rfl (pw s.1)) rfl rfl (kz _)) rfl) ?_)) rfl) ?_
 ·refine cL (b:=decide (V.int ((s.2.map bdD).length:Int)=V.int 0)) (aB (ax (dI rfl rfl rfl) rfl rfl rfl rfl) rfl) (decide_eq_false fun z=>?_);have z':((s.2.map bdD).length:Int)=0:=by injection z
  rw[Xa]at z';exact hn (Yh (by lia))
 ·exact bf (mJ (az (t6 (e0 _) rfl (lM s.1)) (az rfl rfl)) rfl (by show 2<=1000000;decide))
theorem ze(x a b:Str):bIn (.str x) (.tup [.str a,.str b])=some (.bl (decide (x=a)||decide (x=b)),false):=by
 have e1:nM false (.str x) (.tup [.str a,.str b])=none:=rfl;have e2:mz false (.str x) (.tup [.str a,.str b])=some (.bl (decide (x=a)||decide (x=b)),false):=by
  show some (D.bl (inV (.str x) [V.str a,V.str b]),false)=_;congr 3;show((a == x)||((b == x)||false))=_;have q:∀a:Str,(a == x)=decide (x=a):=fun a=>by
   by_cases e:a=x
   ·subst e;simp
   ·have e':¬ x=a:=fun z=>e z.symm;simp[e,e']
  rw[Bool.or_false,q,q]
 unfold bIn orD;rw[e1];exact e2
theorem xO(xs:List D):bNe (.lst xs) (.lst [])=some (.bl (!xs.isEmpty),false):=rfl
theorem qv{W:D}{G g:List D}{x:Str}{o:Sl}(hx:x≠"]"/\x≠")")(hg:g.length<=10000) :
  aS [.v W,.o (.lst G),.o (.lst g),.v (.str x)]=some (.nx [.v W,.o (.lst G),.o (.lst (g++[.str x])),.v (.str x)]):=by
 refine ah (s:=[.v W,.o (.lst G),.o (.lst (g++[.str x])),.v (.str x)]) (b7 (jB rfl rfl rfl rfl rfl rfl rfl (d4 (by lia)))) ?_
 refine ck (cL (aB (ax rfl (mJ rfl rfl (by show 2<=1000000;decide)) rfl rfl (ze _ _ _)) rfl) ?_) rfl
 rw[decide_eq_false hx.1,decide_eq_false hx.2];rfl
theorem t7{W:D}{G g:List D}{x:Str}(hx:x="]"∨x=")")(hg:g.length<=10000)(hG:G.length<=10000) :
  aS [.v W,.o (.lst G),.o (.lst g),.v (.str x)]=some (.nx [.v W,.o (.lst (G++[.lst (g++[.str x])])),.o (.lst []),.v (.str x)]):=by
 refine ah (s:=[.v W,.o (.lst G),.o (.lst (g++[.str x])),.v (.str x)]) (b7 (jB rfl rfl rfl rfl rfl rfl rfl (d4 (by lia)))) ?_
 refine eK (s:=[.v W,.o (.lst G),.o (.lst (g++[.str x])),.v (.str x)]) (cL (aB (ax rfl (mJ rfl rfl (by show 2<=1000000;decide)) rfl rfl (ze _ _ _)) rfl) ?_) ?_
 ·rcases hx with rfl|rfl<;>decide +kernel
 ·exact ah (s:=[.v W,.o (.lst (G++[.lst (g++[.str x])])),.v (.lst (g++[.str x])),.v (.str x)]) (b7 (jB rfl rfl rfl rfl rfl rfl rfl (d4 (by lia)))) rfl
theorem iN{p:Bool×Str}(h:Nm p.2):∀k∈(bd p).cps.toList,k=45∨(97<=k/\k<=122):=by
 obtain⟨t,n⟩:=p;intro k hk;cases t with
 | false=>exact .inr (h.2.2 k hk)
 | true =>
  have e:(bd (true,n)).cps.toList=45::n.cps.toList:=by
   show(minus++n).cps.toList=_;rw[Str.cps_append,Yg];rfl
  rw[e]at hk;rcases Xd.mp hk with e|hk
  ·exact .inl e
  ·exact .inr (h.2.2 k hk)
theorem t8{p:Bool×Str}(h:Nm p.2):(bd p).cps.toList≠[]:=fun e=>by
 have:=(gd h).1;rw[bO,e]at this;exact absurd this (by simp)
theorem zf{p:Bool×Str}(h:Nm p.2):bd p≠"]"/\bd p≠")":=by
 refine⟨fun e=>?_,fun e=>?_⟩
 ·have:=iN h 93 (by rw[e];decide +kernel)
  lia
 ·have:=iN h 41 (by rw[e];decide +kernel)
  lia
theorem n9{W:D}{G:List D}:∀(ps:List (Bool×Str))(g rest:List D)(o:Sl),o.isIo=false->(∀p∈ps,Nm p.2)->g.length+ps.length<=10000 ->
  ∃o':Sl,o'.isIo=false/\ce (gN 3) aS (ps.map bdD++rest) [.v W,.o (.lst G),.o (.lst g),o]=ce (gN 3) aS rest [.v W,.o (.lst G),.o (.lst (g++ps.map bdD)),o']
 | [],g,rest,o,q,_,_=>⟨o,q,by simp⟩
 | p::ps,g,rest,o,q,hn,hl=>by
  rw[Yd]at hl;obtain⟨o',q',e⟩:=n9 (W:=W) (G:=G) ps (g++[bdD p]) rest (.v (bdD p)) rfl (fun x hx=>hn x (Va _ hx)) (by rw[Za,Zh];lia)
  refine⟨o',q',?_⟩;have e1:gN 3 (bdD p) [.v W,.o (.lst G),.o (.lst g),o]=some [.v W,.o (.lst G),.o (.lst g),.v (bdD p)]:=bH rfl q;have e2:=qv (W:=W) (G:=G) (g:=g) (x:=bd p) (o:=o) (zf (hn p (Xb ..))) (by lia)
  rw[Vb]at e;rw[Yc,Yk];simp only[ce,e1,Ya];rw[show aS [.v W,.o (.lst G),.o (.lst g),.v (bdD p)]=_ from e2];exact e
theorem rz{W:D}{G:List D}{s:ay}{rest:List D}{o:Sl}(q:o.isIo=false)(hn:∀p∈s.2,Nm p.2)(hl:s.2.length<=1000)(hG:G.length<=1000) :
  ∃o':Sl,o'.isIo=false/\ce (gN 3) aS (tk s++rest) [.v W,.o (.lst G),.o (.lst []),o]=ce (gN 3) aS rest [.v W,.o (.lst (G++[.lst (tk s)])),.o (.lst []),o']:=by
 have e1:gN 3 (.str (opn s.1)) [.v W,.o (.lst G),.o (.lst []),o]=some [.v W,.o (.lst G),.o (.lst []),.v (.str (opn s.1))]:=bH rfl q;have e2:=qv (W:=W) (G:=G) (g:=[]) (x:=opn s.1) (o:=o) (by cases s.1<;>decide +kernel) (by simp)
 obtain⟨o1,q1,e3⟩:=n9 (W:=W) (G:=G) s.2 [.str (opn s.1)] (.str (cls s.1)::rest) (.v (.str (opn s.1))) rfl hn (by simp;lia)
 have e4:gN 3 (.str (cls s.1)) [.v W,.o (.lst G),.o (.lst ([.str (opn s.1)]++s.2.map bdD)),o1]=some [.v W,.o (.lst G),.o (.lst ([.str (opn s.1)]++s.2.map bdD)),.v (.str (cls s.1))]:=bH rfl q1;have e5:=t7 (W:=W) (G:=G) (g:=[.str (opn s.1)]++s.2.map bdD) (x:=cls s.1) (by cases s.1<;>first|exact .inl rfl|exact .inr rfl) (by simp;lia) (by lia)
 refine⟨.v (.str (cls s.1)),rfl,?_⟩;have et:tk s++rest=.str (opn s.1)::(s.2.map bdD++(.str (cls s.1)::rest)):=by simp[tk]
 rw[et];simp only[ce,e1,Ya];rw[e2];show ce _ _ _ [.v W,.o (.lst G),.o (.lst [.str (opn s.1)]),.v (.str (opn s.1))]=_;rw[e3];simp only[ce,e4,Ya];rw[e5];rfl
theorem t9{W:D}:∀(ss:List ay)(G:List D)(o:Sl),o.isIo=false->(∀s∈ss,(∀p∈s.2,Nm p.2)/\s.2.length<=1000)->G.length+ss.length<=1000 ->
  ∃o':Sl,ce (gN 3) aS (ss.flatMap tk) [.v W,.o (.lst G),.o (.lst []),o]=some (.nx [.v W,.o (.lst (G++ss.map fun s=>.lst (tk s))),.o (.lst []),o'])
 | [],G,o,_,_,_=>⟨o,by simp[ce]⟩
 | s::ss,G,o,q,hn,hl=>by
  rw[Yd]at hl;obtain⟨h1,h2⟩:=hn s (Xb ..);obtain⟨o1,q1,e1⟩:=rz (W:=W) (G:=G) (s:=s) (rest:=ss.flatMap tk) q h1 h2 (by lia)
  obtain⟨o2,e2⟩:=t9 (W:=W) ss (G++[.lst (tk s)]) o1 q1 (fun x hx=>hn x (Va _ hx)) (by rw[Za,Zh];lia)
  refine⟨o2,?_⟩;rw[Xc,e1,e2,Vb];rfl
theorem zg{ss:List ay}(hn:∀s∈ss,(∀p∈s.2,Nm p.2)/\s.2.length<=1000)(hl:ss.length<=1000):cm [.lst (ss.flatMap tk)]=some (.lst (ss.map fun s=>.lst (tk s)),true):=by
 obtain⟨o',e⟩:=t9 (W:=.lst (ss.flatMap tk)) ss [] .e rfl hn (by simpa using hl)
 refine bg (o:=.rt (.s 1) [.v (.lst (ss.flatMap tk)),.o (.lst (ss.map fun s=>.lst (tk s))),.o (.lst []),o']) rfl ?_ rfl;refine ah rfl (ah rfl (ah (eM (lD rfl rfl) e) (ah (ck (aB (ax rfl rfl rfl rfl (xO _)) rfl) rfl) rfl)))
end K04
namespace K04
open PySem L2 VF VL VF22 VT
structure GS(ss:List ay):Prop where
 nm:∀s∈ss,∀p∈s.2,Nm p.2
 ne:∀s∈ss,s.2≠[]
 nd:((ss.flatMap (·.2)).map (·.2)).Nodup
 l1:(ss.flatMap (·.2)).length<=300
 l2:ss.length<=300
theorem GS.len{ss:List ay}(h:GS ss):∀s∈ss,s.2.length<=1000:=fun s hs=>by
 have h1:s.2.length<=(ss.flatMap (·.2)).length:=by
  obtain⟨a,b,rfl⟩:=List.append_of_mem hs;rw[Qe,Xc,Za,Za];lia
 have:=h.l1;lia
noncomputable abbrev mS:List Nat:=[91,93,40,41]
theorem oa:("[]()":Str).cps.toList=mS:=by decide +kernel
theorem jb:("|":Str).cps.toList=[124]:=by decide +kernel
theorem px{x:Str}{ss:List ay}(g:GS ss)(hx:x.cps.toList.length<=10000)(hw:((wt mS [] x.cps.toList).map fun l=>D.str (tx l))=ss.flatMap tk):cD [.str x]=some (.tup (ss.map stD),false):=by
 have e1:=tW (x:=x) (ms:="[]()") (by rw[oa];decide) (by rw[oa];decide) (by rw[oa];decide) (by rw[oa];decide) hx
 rw[oa,hw]at e1;have e2:=zg (ss:=ss) (fun s hs=>⟨g.nm s hs,g.len s hs⟩) (by have:=g.l2;lia)
 have e3:=n8 (rn g.l1 g.l2) (fun p hp=>by obtain⟨s,hs,hp⟩:=List.mem_flatMap.mp hp;exact g.nm s hs p hp) g.l1 g.nd
 have hc:cv 1 [] (fIA (b8 cm (ac (b8 dh (ac (ag 0) (ac (fC (.str "[]()")) ao))) ao))) (gN 0) fu iG [.v (.str x),.e]=some (.f (.lst (ss.map stD)),[.v (.str x),.e]):=by
  refine cF (s1:=[.v (.str x),.e]) (ds:=ss.map fun s=>.lst (tk s)) (s2:=[.e]) (lD (bL (az (bL rfl rfl e1) rfl) rfl e2) rfl) (by rw[Xa,decide_eq_true (by have:=g.l2;lia:ss.length<=1000000)];rfl) ?_
  exact df (fun s=>.lst (tk s)) stD [.e] ss fun s hs=>⟨[.v (.lst (tk s))],[.v (.lst (tk s))],.d (stD s),[.v (.lst (tk s))],[.v (.lst (tk s))],rfl,rfl,bL rfl rfl (rq (g.nm s hs) (g.ne s hs) (g.len s hs)),rfl,rfl⟩
 refine bg (o:=.rt (.d (.tup (ss.map stD))) [.v (.str x),.v (.tup (ss.map stD))]) rfl ?_ rfl;exact ah (s:=[.v (.str x),.v (.tup (ss.map stD))]) (b9 (s:=[.v (.str x),.e]) (dI (az hc rfl) rfl (n6 _)) rfl) (ah (b7 (bL rfl rfl e3)) rfl)
theorem oe{x:Str}{ps:List (Bool×Str)}(hn:∀p∈ps,Nm p.2)(hl:ps.length<=300)(hd:(ps.map (·.2)).Nodup)(hx:x.cps.toList.length<=10000)(hw:((wt [124] [] x.cps.toList).map fun l=>D.str (tx l))=.str "|"::(ps.map bdD++[.str "|"])) :
  cK [.str x]=some (.tup (ps.map bdD),false):=by
 have e1:=tW (x:=x) (ms:="|") (by rw[jb];decide) (by rw[jb];decide) (by rw[jb];decide) (by rw[jb];decide) hx
 rw[jb,hw]at e1;have e3:=n8 (pq hl) hn hl hd;have i0:bIx (.lst (.str "|"::(ps.map bdD++[.str "|"]))) (.int 0)=some (.str "|",false):=dZ (xN _);have im:bIx (.lst (.str "|"::(ps.map bdD++[.str "|"]))) (.int (-1))=some (.str "|",false):=dZ (zd _);have sl:bSl (.lst (.str "|"::(ps.map bdD++[.str "|"]))) (some 1) (some (-1))=some (.lst (ps.map bdD),true):=by
  show some (D.lst (cutD _ (some 1) (some (-1))),true)=_;rw[qu]
 generalize hL:(.str "|"::(ps.map bdD++[.str "|"]):List D)=L at e1 i0 im sl;have hLl:L.length=ps.length+2:=by rw[← hL];simp
 refine bg (o:=.rt (.d (.tup (ps.map bdD))) [.v (.str x),.o (.lst L),.v (.tup (ps.map bdD))]) rfl ?_ rfl;refine ah (s:=[.v (.str x),.o (.lst L),.e]) (j5 (s:=[.v (.str x),.e,.e]) (bL rfl rfl e1) rfl) ?_;refine ah (ck (s:=[.v (.str x),.o (.lst L),.e]) (mI (cL (b:=decide ((L.length:Int)<2)) (aB (ax (dI rfl rfl rfl) rfl rfl rfl rfl) rfl) (decide_eq_false (by lia))) (mI (aB (ax (ax rfl rfl rfl rfl i0) rfl rfl rfl (kz _)) rfl) (aB (ax (ax rfl rfl rfl rfl im) rfl rfl rfl (kz _)) rfl))) rfl) ?_
 refine ah (s:=[.v (.str x),.o (.lst L),.v (.tup (ps.map bdD))]) (b9 (s:=[.v (.str x),.o (.lst L),.e]) (x:=.tup (ps.map bdD)) (bL (az (lC rfl rfl rfl rfl sl rfl) rfl) rfl (ky hn (by lia))) rfl) ?_
 exact ah (b7 (bL rfl rfl e3)) rfl
end K04
namespace VT
open PySem PySem.Spec PyProof.Rows L2 VF
noncomputable def Rdy(ms x:List Nat)(done:List (List Nat))(w:Bool):Prop:=∃pre acc,(∀rest,wt ms [] (x++rest)=pre++wt ms acc rest)/\pre++em acc=done/\(w=false->acc=[])
theorem m5(ms:List Nat):Rdy ms [] [] false:=⟨[],[],fun _=>rfl,rfl,fun _=>rfl⟩
theorem iO{ms x g:List Nat}{done:List (List Nat)}{w:Bool}(h:Rdy ms x done w)(hb:32∉ms)(hg:∀k∈g,isB k)(hn:g=[]->w=false):Rdy ms (x++g) done false:=by
 obtain⟨pre,acc,h1,h2,h3⟩:=h;by_cases e:g=[]
 ·subst e;rw[Zc];exact⟨pre,acc,h1,h2,fun _=>h3 (hn rfl)⟩
 ·refine⟨done,[],fun rest=>?_,by rw[mP,Zc],fun _=>rfl⟩
  rw[Vb,h1,u4 hb hg e,← Vb,h2]
theorem du{ms x:List Nat}{c:Nat}{done:List (List Nat)}{w:Bool}(h:Rdy ms x done w)(hb:32∉ms)(hb2:10∉ms)(hc:c∈ms):Rdy ms (x++[c]) (done++[[c]]) false:=by
 obtain⟨pre,acc,h1,h2,h3⟩:=h;refine⟨done++[[c]],[],fun rest=>?_,by rw[mP,Zc],fun _=>rfl⟩
 rw[Vb,h1];show pre++wt ms acc (c::rest)=_;rw[u5 hc hb hb2,← Vb,h2,Vb];rfl
theorem kA{ms x u:List Nat}{done:List (List Nat)}(h:Rdy ms x done false)(hu:∀k∈u,isW ms k)(hn:u≠[]):Rdy ms (x++u) (done++[u]) true:=by
 obtain⟨pre,acc,h1,h2,h3⟩:=h;obtain rfl:=h3 rfl;rw[mP,Zc]at h2;subst h2;refine⟨pre,u,fun rest=>?_,by rw[em,if_neg hn],fun z=>nomatch z⟩
 rw[Vb,h1,qt hu,Zi]
theorem iP{ms x:List Nat}{done:List (List Nat)}{w:Bool}(h:Rdy ms x done w):wt ms [] x=done:=by
 obtain⟨pre,acc,h1,h2,h3⟩:=h;have:=h1 [];rw[Zc]at this;rw[this,xE,h2]
theorem Rdy.to_true{ms x:List Nat}{done:List (List Nat)}{w:Bool}(h:Rdy ms x done w):Rdy ms x done true:=by
 obtain⟨pre,acc,h1,h2,h3⟩:=h;exact⟨pre,acc,h1,h2,fun z=>nomatch z⟩
end VT
namespace VF
open PySem L2
theorem rA{x:Str}{xs:List Str}:g7 (.str x) (.lst (xs.map D.str))=some (.bl (!decide (x∈xs)),false):=by
 have h:=sW (x:=x) (xs:=xs);have e1:nM false (.str x) (.lst (xs.map D.str))=none:=rfl;have e2:nM true (.str x) (.lst (xs.map D.str))=none:=rfl;have f1:mz false (.str x) (.lst (xs.map D.str))=(ji (xs.map D.str)).bind (fun ws=>some (D.bl (inV (.str x) ws),false)):=rfl;have f2:mz true (.str x) (.lst (xs.map D.str))=(ji (xs.map D.str)).bind (fun ws=>some (D.bl (!inV (.str x) ws),false)):=rfl;unfold bIn orD at h;rw[e1]at h;unfold g7 orD;rw[e2];have h':mz false (.str x) (.lst (xs.map D.str))=some (.bl (decide (x∈xs)),false):=h;show mz true (.str x) (.lst (xs.map D.str))=_;rw[f1,gy]at h';rw[f2,gy];have h2:(some (D.bl (inV (.str x) (xs.map V.str)),false):Option (D×Bool))=some (.bl (decide (x∈xs)),false):=h';injection h2 with h2;injection h2 with h2;injection h2 with h2;show some (D.bl (!inV (.str x) (xs.map V.str)),false)=_;rw[h2]
end VF
namespace K04
open PySem L2 VF VL VF22 VT
noncomputable abbrev Tkn:=Nat ⊕ (Bool×Str)
noncomputable def tS:Tkn->Str
 | .inl c=>⟨#[c]⟩
 | .inr p=>bd p
noncomputable def kB:Tkn->Bool
 | .inl _=>false
 | .inr _=>true
noncomputable def TOk(ms:List Nat):Tkn->Prop
 | .inl c=>c∈ms
 | .inr p=>Nm p.2
noncomputable abbrev marksS:List Str:=["[","]","(",")","|"]
noncomputable abbrev gapA:List Str:=[""," ","\n","  "," \n","\n     "]
noncomputable abbrev gapB:List Str:=[" ","\n","  ","\n "," ","     "]
noncomputable abbrev gapC:List Str:=[""," ","\n"," \n"]
noncomputable def MOk(ms:List Nat):Prop:=ms=mS∨ms=[124]
theorem MOk.b{ms:List Nat}(h:MOk ms):32∉ms/\10∉ms:=by rcases h with rfl|rfl<;>decide
theorem MOk.w{ms:List Nat}(h:MOk ms){p:Bool×Str}(hp:Nm p.2):∀k∈(bd p).cps.toList,isW ms k:=fun k hk=>by
 have:=iN hp k hk;rcases h with rfl|rfl
 ·refine⟨by lia,by lia,?_⟩
  simp only[Xd,Xk,or_false];lia
 ·refine⟨by lia,by lia,?_⟩
  simp only[Xd,Xk,or_false];lia
theorem vg{ms:List Nat}(h:MOk ms){t:Tkn}(ht:TOk ms t):(!decide (tS t∈marksS))=kB t:=by
 cases t with
 | inl c =>
  have:∀c∈[91,93,40,41,124],decide ((⟨#[c]⟩:Str)∈marksS)=true:=by decide +kernel
  have hc:c∈[91,93,40,41,124]:=by
   have ht:c∈ms:=ht;rcases h with rfl|rfl
   ·simp only[Xd,Xk,or_false]at ht ⊢;lia
   ·simp only[Xd,Xk,or_false]at ht ⊢;lia
  show(!decide ((⟨#[c]⟩:Str)∈marksS))=false;rw[this c hc];rfl
 | inr p =>
  have hp:Nm p.2:=ht;show(!decide (bd p∈marksS))=true;rw[decide_eq_false]
  ·rfl
  ·intro hm;have hs:=iN hp;have:∀x∈marksS,∃k∈x.cps.toList,¬ (k=45∨(97<=k/\k<=122)):=by decide +kernel
   obtain⟨k,hk,hno⟩:=this _ hm;exact hno (hs k hk)
theorem xP:∀x∈gapA,x.cps.toList.length<=6/\∀k∈x.cps.toList,isB k:=by unfold isB;decide +kernel
theorem xQ:∀x∈gapB,x.cps.toList.length<=6/\(∀k∈x.cps.toList,isB k)/\x.cps.toList≠[]:=by unfold isB;decide +kernel
theorem xR:∀x∈gapC,x.cps.toList.length<=6/\∀k∈x.cps.toList,isB k:=by unfold isB;decide +kernel
theorem ua{ms:List Nat}{t:Tkn}(ht:TOk ms t):(tS t).cps.toList.length<=7:=by
 cases t with
 | inl c=>show 1<=7;decide
 | inr p=>have:=(gd (p:=p) ht).2;rw[bO]at this;exact this
theorem zh{ms x g:List Nat}(h:MOk ms){done:List (List Nat)}{w:Bool}{t:Tkn}(ht:TOk ms t)(r:Rdy ms x done w)(hg:∀k∈g,isB k)(hn:g=[]->w=true->kB t=false):Rdy ms (x++g++(tS t).cps.toList) (done++[(tS t).cps.toList]) (kB t):=by
 cases t with
 | inl c =>
  by_cases e:g=[]
  ·subst e;rw[Zc];exact du r h.b.1 h.b.2 ht
  ·exact du (iO r h.b.1 hg fun z=>absurd z e) h.b.1 h.b.2 ht
 | inr p =>
  refine kA (iO r h.b.1 hg fun z=>?_) (h.w ht) (t8 ht);cases w with
  | false=>rfl
  | true=>cases hn z rfl
theorem vh{ms:List Nat}(h:MOk ms){φ L:D}{x:Str}{w:Bool}{t:Tkn}{o5:Sl}(hφ:bG φ)(ht:TOk ms t)(hx:x.cps.toList.length<=900000)(q5:o5.isIo=false) :
  ∃(φ':D)(g:Str)(o5':Sl),dq [.io φ,.v L,.v (.str x),.v (.bl w),.v (.str (tS t)),o5]=some (.nx [.io φ',.v L,.v (.str (x++g++tS t)),.v (.bl (kB t)),.v (.str (tS t)),o5'])/\bG φ'/\o5'.isIo=false/\g.cps.toList.length<=6/\(∀k∈g.cps.toList,isB k)/\(g.cps.toList=[]->w=true->kB t=false):=by
 obtain⟨d,φ1,e1,d0,d1,f1⟩:=bN (n:=6) hφ (by decide) (by decide)
 have e0:aY (bX (fU gapA)) 5 [.io φ,.v L,.v (.str x),.v (.bl w),.v (.str (tS t)),o5]=some (.nx [.io φ,.v L,.v (.str x),.v (.bl w),.v (.str (tS t)),.o (.lst (gapA.map D.str))]):=j5 rfl (bH rfl q5);have nt:∀(a b:Sl)(y:Str)(o:Sl),fOp g7 (ag 4) (bX (fU marksS)) [a,b,.v (.str y),.v (.bl w),.v (.str (tS t)),o]=some (.d (.bl (kB t)),[a,b,.v (.str y),.v (.bl w),.v (.str (tS t)),o]):=fun a b y o=>by
  rw[← vg h ht];exact ax (d1:=.str (tS t)) (d2:=.lst (marksS.map D.str)) (z:=(.bl (!decide (tS t∈marksS)),false)) rfl rfl rfl rfl (rA (xs:=marksS))
 have fin:∀(gs:List Str)(g:Str),atI (gs.map D.str) d=some (.str g)->g.cps.toList.length<=6->aA (aY (fOp bY (fOp bY (ag 2) (fOp bIx (ag 5) (fIO aH 0 (ac (fC (.int 6)) ao)))) (ag 4)) 2) (aY (fOp g7 (ag 4) (bX (fU ["[","]","(",")","|"]))) 3)
   [.io φ,.v L,.v (.str x),.v (.bl w),.v (.str (tS t)),.o (.lst (gs.map D.str))]=some (.nx [.io φ1,.v L,.v (.str (x++g++tS t)),.v (.bl (kB t)),.v (.str (tS t)),.o (.lst (gs.map D.str))]):=fun gs g hg lg=>by
  have l1:=ua ht;have b1:x.length+g.length<=1000000:=by rw[bO,bO];lia
  have b2:(x++g).length+(tS t).length<=1000000:=by rw[Str.length_append,bO,bO,bO];lia
  refine ah (s:=[.io φ1,.v L,.v (.str (x++g++tS t)),.v (.bl w),.v (.str (tS t)),.o (.lst (gs.map D.str))]) (b9 (s:=[.io φ1,.v L,.v (.str x),.v (.bl w),.v (.str (tS t)),.o (.lst (gs.map D.str))]) (x:=.str (x++g++tS t)) ?_ rfl) (b9 (nt _ _ _ _) rfl);exact ax (ax rfl (ax rfl (bh rfl rfl rfl rfl rfl rfl e1) rfl rfl (dZ hg)) rfl rfl (dJ b1)) rfl rfl rfl (dJ b2)
 by_cases c:w=true/\kB t=true
 ·obtain⟨g,hg,hm,_⟩:=iV (xs:=gapB.map D.str) d0 d1;obtain⟨g,hm2,rfl⟩:=We.mp hm;obtain⟨b1,b2,b3⟩:=xQ g hm2;refine⟨φ1,g,.o (.lst (gapB.map D.str)),?_,f1,rfl,b1,b2,fun z=>absurd z b3⟩;refine ah e0 (ah (s:=[.io φ,.v L,.v (.str x),.v (.bl w),.v (.str (tS t)),.o (.lst (gapB.map D.str))]) (eK (lq (s:=[.io φ,.v L,.v (.str x),.v (.bl w),.v (.str (tS t)),.o (.lst (gapA.map D.str))]) ?_ (aB (nt _ _ _ _) ?_)) rfl) (fin gapB g hg b1))
  ·rw[c.1];rfl
  ·rw[c.2];rfl
 ·obtain⟨g,hg,hm,_⟩:=iV (xs:=gapA.map D.str) d0 d1;obtain⟨g,hm2,rfl⟩:=We.mp hm;obtain⟨b1,b2⟩:=xP g hm2
  refine⟨φ1,g,.o (.lst (gapA.map D.str)),?_,f1,rfl,b1,b2,fun _ hw=>by
   cases hb:kB t with
   | false=>rfl
   | true=>exact absurd ⟨hw,hb⟩ c⟩
  refine ah e0 (ah (ck (s:=[.io φ,.v L,.v (.str x),.v (.bl w),.v (.str (tS t)),.o (.lst (gapA.map D.str))]) ?_ rfl) (fin gapA g hg b1));cases w with
  | false=>exact vV rfl
  | true =>
   refine lq (s:=[.io φ,.v L,.v (.str x),.v (.bl true),.v (.str (tS t)),.o (.lst (gapA.map D.str))]) rfl (cL (aB (nt _ _ _ _) rfl) ?_);cases hb:kB t with
   | false=>rfl
   | true=>exact absurd ⟨rfl,hb⟩ c
theorem br(a b:Str):(a++b).cps.toList=a.cps.toList++b.cps.toList:=by rw[Str.cps_append,Yg]
theorem lN{ms:List Nat}(h:MOk ms){φ:D}{ts:List Tkn}(hφ:bG φ)(ht:∀t∈ts,TOk ms t)(hl:ts.length<=700) :
  ∃(x:Str)(φ':D),cV φ [.lst (ts.map fun t=>D.str (tS t))]=some ((.str x,false),φ')/\bG φ'/\x.cps.toList.length<=10000/\wt ms [] x.cps.toList=ts.map fun t=>(tS t).cps.toList:=by
 obtain⟨sf,e,φ1,x,w,o4,o5,rfl,f1,r,lx,q4,q5⟩:=ef (fg:=gN 4) (B:=dq) (fun t=>D.str (tS t)) ts
  (fun gone s=>∃(φ1:D)(x:Str)(w:Bool)(o4 o5:Sl),s=[.io φ1,.v (.lst (ts.map fun t=>D.str (tS t))),.v (.str x),.v (.bl w),o4,o5]/\bG φ1/\Rdy ms x.cps.toList (gone.map fun t=>(tS t).cps.toList) w/\x.cps.toList.length<=13*gone.length/\o4.isIo=false/\o5.isIo=false)
  (by
   rintro gone t rest s ha ⟨φ1,x,w,o4,o5,rfl,f1,r,lx,q4,q5⟩;have hg:=congrArg List.length ha;rw[Za,Yd]at hg;have hto:=ht t (by rw[ha];simp)
   obtain⟨φ2,g,o5',e2,f2,q5',l2,b2,n2⟩:=vh h (L:=.lst (ts.map fun t=>D.str (tS t))) (x:=x) (w:=w) (o5:=o5) f1 hto (by lia) q5
   refine⟨_,_,bH rfl q4,e2,φ2,x++g++tS t,kB t,.v (.str (tS t)),o5',rfl,f2,?_,?_,rfl,q5'⟩
   ·rw[Vc,br,br];exact zh h hto r b2 n2
   ·have:=ua hto;rw[br,br,Za,Za,Za,Zh]
    lia)
  ts [] [.io φ,.v (.lst (ts.map fun t=>D.str (tS t))),.v (.str ""),.v (.bl false),.e,.e] rfl ⟨φ,"",false,.e,.e,rfl,hφ,m5 ms,by show 0<=_;lia,rfl,rfl⟩
 obtain⟨d,φ2,e1,d0,d1,f2⟩:=bN (n:=4) f1 (by decide) (by decide)
 obtain⟨g,hg,hm,_⟩:=iV (xs:=gapC.map D.str) d0 d1;obtain⟨g,hm2,rfl⟩:=We.mp hm;obtain⟨b1,b2⟩:=xR g hm2;refine⟨x++g,φ2,?_,f2,by rw[br,Za];lia,?_⟩
 ·refine bC (o:=.rt (.d (.str (x++g))) [.io φ2,.v (.lst (ts.map fun t=>D.str (tS t))),.v (.str x),.v (.bl w),o4,o5]) rfl ?_ rfl;refine ah rfl (ah rfl (ah (eM (lD rfl rfl) e) (bf (ax rfl (ax (d1:=.lst (gapC.map D.str)) rfl (bh rfl rfl rfl rfl rfl rfl e1) rfl rfl (dZ hg)) rfl rfl (dJ (by rw[bO,bO];lia))))))
 ·rw[br];by_cases e:g.cps.toList=[]
  ·rw[e,Zc];exact iP r
  ·exact iP (iO r h.b.1 b2 fun z=>absurd z e)
noncomputable def opc(r:Bool):Nat:=if r then 40 else 91
noncomputable def clc(r:Bool):Nat:=if r then 41 else 93
noncomputable def tkT(s:ay):List Tkn:=.inl (opc s.1)::(s.2.map .inr++[.inl (clc s.1)])
theorem xS(r:Bool):(⟨#[opc r]⟩:Str)=opn r:=by cases r<;>decide +kernel
theorem xT(r:Bool):(⟨#[clc r]⟩:Str)=cls r:=by cases r<;>decide +kernel
theorem zi(s:ay):(tkT s).map (fun t=>D.str (tS t))=tk s:=by
 unfold tkT tk;rw[Yc,Vc,Qf,Qi];show D.str ⟨#[opc s.1]⟩::(_++[D.str ⟨#[clc s.1]⟩])=_;rw[xS,xT];rfl
theorem m6(ss:List ay):(ss.flatMap tkT).map (fun t=>D.str (tS t))=ss.flatMap tk:=by
 rw[List.map_flatMap];exact gc fun s _=>zi s
theorem xU{ss:List ay}(h:∀s∈ss,∀p∈s.2,Nm p.2):∀t∈ss.flatMap tkT,TOk mS t:=fun t ht=>by
 obtain⟨s,hs,ht⟩:=List.mem_flatMap.mp ht;unfold tkT at ht;rcases Xd.mp ht with rfl|ht
 ·show opc s.1∈mS;cases s.1<;>decide
 ·rcases Xg.mp ht with ht|ht
  ·obtain⟨p,hp,rfl⟩:=We.mp ht;exact h s hs p hp
  ·obtain rfl:=Zd.mp ht;show clc s.1∈mS;cases s.1<;>decide
theorem zj{ms x:List Nat}{ts:List Tkn}(h:wt ms [] x=ts.map fun t=>(tS t).cps.toList):((wt ms [] x).map fun l=>D.str (tx l))=ts.map fun t=>D.str (tS t):=by
 rw[h,Qf];refine Qh fun t _=>?_;show D.str (tx (tS t).cps.toList)=_;rw[kx]
theorem qw(ss:List ay):(ss.flatMap tkT).length=(ss.flatMap (·.2)).length+2*ss.length:=by
 induction ss with
 | nil=>rfl
 | cons s ss ih =>
  rw[Xc,Xc,Za,Za,ih];have:(tkT s).length=s.2.length+2:=by simp[tkT]
  rw[this,Yd];lia
theorem vi(ss:List ay):(ss.flatMap tk).length=(ss.flatMap (·.2)).length+2*ss.length:=by
 rw[← m6,Xa,qw]
noncomputable def mk2(r:Bool):List D:=[.str (opn r),.str (cls r)]
theorem og{W:D}{T:List D}{s:ay}{o4:Sl}(q:o4.isIo=false)(hl:T.length+s.2.length<=900000) :
  ∃o4':Sl,o4'.isIo=false/\dj [.v W,.o (.lst T),.v (.str (kd s.1)),.v (.tup (s.2.map bdD)),o4]=some (.nx [.v W,.o (.lst (T++tk s)),.v (.str (kd s.1)),.v (.tup (s.2.map bdD)),o4']):=by
 have ek:∀r:Bool,decide (V.str (kd r)=V.str "ring")=r:=by
  intro r;cases r
  ·exact decide_eq_false fun z=>absurd (V.str.inj z) (by decide +kernel)
  ·exact decide_eq_true rfl
 refine⟨.o (.lst (mk2 s.1)),rfl,?_⟩;refine ah (s:=[.v W,.o (.lst T),.v (.str (kd s.1)),.v (.tup (s.2.map bdD)),.o (.lst (mk2 false))]) (j5 (s:=[.v W,.o (.lst T),.v (.str (kd s.1)),.v (.tup (s.2.map bdD)),o4]) rfl (bH rfl q)) ?_;have h2:sIf (aE (fOp bEq (ag 2) (fC (.str "ring")))) (aY (bX (ac (fC (.str "(")) (ac (fC (.str ")")) ao))) 4) bt [.v W,.o (.lst T),.v (.str (kd s.1)),.v (.tup (s.2.map bdD)),.o (.lst (mk2 false))]=some (.nx [.v W,.o (.lst T),.v (.str (kd s.1)),.v (.tup (s.2.map bdD)),.o (.lst (mk2 s.1))]):=by
  have e:=ek s.1;cases hr:s.1 with
  | true =>
   rw[hr]at e;exact eK (cL (b:=decide (V.str (kd true)=V.str "ring")) (aB (ax rfl rfl rfl rfl rfl) rfl) e) rfl
  | false =>
   rw[hr]at e;exact ck (cL (b:=decide (V.str (kd false)=V.str "ring")) (aB (ax rfl rfl rfl rfl rfl) rfl) e) rfl
 refine ah h2 ?_;have s1:nS (.lst (mk2 s.1)) none (some 1)=some (.lst [.str (opn s.1)],true):=rfl;have s2:nS (.lst (mk2 s.1)) (some 1) none=some (.lst [.str (cls s.1)],true):=rfl;have l1:(s.2.map bdD).length=s.2.length:=Xa ..;have a1:=fY (a:=T) (b:=[.str (opn s.1)]) (by show T.length+1<=_;lia)
 have a2:=fY (a:=T++[.str (opn s.1)]) (b:=s.2.map bdD) (by rw[Za,l1];show T.length+1+_<=_;lia)
 have a3:=fY (a:=T++[.str (opn s.1)]++s.2.map bdD) (b:=[.str (cls s.1)]) (by rw[Za,Za,l1];show T.length+1+_+1<=_;lia)
 have et:T++[.str (opn s.1)]++s.2.map bdD++[.str (cls s.1)]=T++tk s:=by unfold tk;simp
 rw[et]at a3;exact j5 (ax (ax (ax rfl (lC rfl rfl rfl rfl s1 rfl) rfl rfl a1) (dI rfl rfl rfl) rfl rfl a2) (lC rfl rfl rfl rfl s2 rfl) rfl rfl a3) rfl
theorem gt2{i j:Nat}{a b:D}{st s1 s2:En}(h1:iX i (.v a) st=some s1)(h2:iX j (.v b) s1=some s2):VF.gT 2 (gsC (gN i) (gsC (gN j) gsN)) (.tup [a,b]) st=some s2:=by
 show(if 2=2 then gsC (gN i) (gsC (gN j) gsN) [a,b] st else none)=_;rw[if_pos rfl];show(iX i (.v a) st).bind _=_;rw[h1];show(iX j (.v b) s1).bind _=_;rw[h2];rfl
theorem rB{ss:List ay}(hl:(ss.flatMap (·.2)).length+2*ss.length<=10000):eV [.tup (ss.map stD)]=some (.lst (ss.flatMap tk),true):=by
 obtain⟨sf,e,o2,o3,o4,rfl,q2,q3,q4⟩:=ef (fg:=gT 2 (gsC (gN 2) (gsC (gN 3) gsN))) (B:=dj) stD ss
  (fun gone s=>∃(o2 o3 o4:Sl),s=[.v (.tup (ss.map stD)),.o (.lst (gone.flatMap tk)),o2,o3,o4]/\o2.isIo=false/\o3.isIo=false/\o4.isIo=false)
  (by
   rintro gone s rest st ha ⟨o2,o3,o4,rfl,q2,q3,q4⟩;have hb:(gone.flatMap tk).length+s.2.length<=900000:=by
    rw[vi];rw[ha,Qe,Xc,Za,Za,Za]at hl;lia
   obtain⟨o4',q4',e2⟩:=og (W:=.tup (ss.map stD)) (T:=gone.flatMap tk) (s:=s) q4 hb;refine⟨[.v (.tup (ss.map stD)),.o (.lst (gone.flatMap tk)),.v (.str (kd s.1)),.v (.tup (s.2.map bdD)),o4],_,?_,e2,.v (.str (kd s.1)),.v (.tup (s.2.map bdD)),o4',?_,rfl,rfl,q4'⟩
   ·exact gt2 (bH rfl q2) (bH rfl q3)
   ·rw[Qe];simp)
  ss [] [.v (.tup (ss.map stD)),.o (.lst []),.e,.e,.e] rfl ⟨.e,.e,.e,rfl,rfl,rfl,rfl⟩
 refine bg (o:=.rt (.s 1) [.v (.tup (ss.map stD)),.o (.lst (ss.flatMap tk)),o2,o3,o4]) rfl ?_ rfl;exact ah rfl (ah (eM (nR rfl rfl) e) rfl)
theorem str_ext{a b:Str}(h:a.cps.toList=b.cps.toList):a=b:=by rw[← kx a,← kx b,h]
theorem empty_app(a:Str):Str.empty++a=a:=str_ext (by rw[br];rfl)
noncomputable def jn(ps:List (Bool×Str)):Str:=Str.join " " (ps.map bd)
theorem zk(ps:List (Bool×Str)):Txt.join " " (ps.map bd)=jn ps:=StrLaws.glued_eq_join _ _
theorem qx(p q:Bool×Str)(r:List (Bool×Str)):jn (p::q::r)=bd p++" "++jn (q::r):=rfl
theorem m7:(" ":Str).cps.toList=[32]:=by decide +kernel
theorem pA:∀(ps:List (Bool×Str)),(∀p∈ps,Nm p.2)->(jn ps).cps.toList.length<=8*ps.length
 | [],_=>by show 0<=_;lia
 | [p],h=>by
  have:=(gd (h p (Zd.mpr rfl))).2;rw[bO]at this;show(bd p).cps.toList.length<=8*1;lia
 | p::q::r,h=>by
  have ih:=pA (q::r) fun a ha=>h a (Va _ ha);have:=(gd (h p (Xb ..))).2;rw[bO]at this;have e1:([32]:List Nat).length=1:=rfl;have e2:(p::q::r).length=(q::r).length+1:=rfl;rw[qx,br,br,Za,Za,m7,e1,e2];lia
theorem ub:∀(ps:List (Bool×Str)),(∀p∈ps,Nm p.2)->((ps.map bd).map (·.length)).sum<=7*ps.length
 | [],_=>by simp
 | p::r,h=>by
  have ih:=ub r fun a ha=>h a (Va _ ha);have:=(gd (h p (Xb ..))).2;rw[Yc,Yc,List.sum_cons,Yd];lia
theorem qy{ps:List (Bool×Str)}(h:∀p∈ps,Nm p.2)(hl:ps.length<=1000):dU (.str " ") [.tup (ps.map bdD)]=some (.str (jn ps),false):=by
 rw[← zk,← tE (sep:=" ") (ys:=ps.map bd)]
 ·rw[Qf];rfl
 ·have h1:=ub ps h;have h2:Str.length " "=1:=by decide +kernel
  rw[Xa,h2];lia
theorem kC{ms:List Nat}(hm:MOk ms):∀(ps:List (Bool×Str)){x:List Nat}{done:List (List Nat)},ps≠[]->(∀p∈ps,Nm p.2)->Rdy ms x done false->Rdy ms (x++(jn ps).cps.toList) (done++ps.map fun p=>(bd p).cps.toList) true
 | [],_,_,hn,_,_=>absurd rfl hn
 | [p],x,done,_,h,r=>kA r (hm.w (h p (Zd.mpr rfl))) (t8 (h p (Zd.mpr rfl)))
 | p::q::rr,x,done,_,h,r=>by
  have hp:=h p (Xb ..);have r1:=kA r (hm.w hp) (t8 hp);have r2:=iO (g:=[32]) r1 hm.b.1 (fun k hk=>by obtain rfl:=Zd.mp hk;exact .inl rfl) (fun z=>nomatch z)
  have r3:=kC hm (q::rr) (by simp) (fun a ha=>h a (Va _ ha)) r2
  rw[qx,br,br,m7];simpa[Vb]using r3
noncomputable def sh(s:ay):Str:=opn s.1++jn s.2++cls s.1
theorem vj(r:Bool):(opn r).cps.toList=[opc r]:=by cases r<;>decide +kernel
theorem vk(r:Bool):(cls r).cps.toList=[clc r]:=by cases r<;>decide +kernel
theorem uc(s:ay):(sh s).cps.toList=[opc s.1]++(jn s.2).cps.toList++[clc s.1]:=by
 unfold sh;rw[br,br,vj,vk]
theorem vm(s:ay):(tkT s).map (fun t=>(tS t).cps.toList)=[opc s.1]::((s.2.map fun p=>(bd p).cps.toList)++[[clc s.1]]):=by
 unfold tkT;rw[Yc,Vc,Qf,Qi];rfl
theorem ud{s:ay}{x:List Nat}{done:List (List Nat)}{w:Bool}(h:∀p∈s.2,Nm p.2)(hn:s.2≠[])(r:Rdy mS x done w):Rdy mS (x++(sh s).cps.toList) (done++(tkT s).map fun t=>(tS t).cps.toList) false:=by
 have hm:MOk mS:=.inl rfl;have r1:=du (c:=opc s.1) r hm.b.1 hm.b.2 (by cases s.1<;>decide)
 have r2:=kC hm s.2 hn h r1;have r3:=du (c:=clc s.1) r2 hm.b.1 hm.b.2 (by cases s.1<;>decide)
 rw[uc,vm];simpa[Vb]using r3
noncomputable def shA(ss:List ay):Str:=Str.join " " (ss.map sh)
theorem xV(ss:List ay):Txt.join " " (ss.map sh)=shA ss:=StrLaws.glued_eq_join _ _
theorem qz:∀(ss:List ay){x:List Nat}{done:List (List Nat)}{w:Bool},(∀s∈ss,(∀p∈s.2,Nm p.2)/\s.2≠[])->Rdy mS x done w->Rdy mS (x++(shA ss).cps.toList) (done++(ss.flatMap tkT).map fun t=>(tS t).cps.toList) true
 | [],x,done,w,_,r=>by
  show Rdy mS (x++[]) (done++[]) true;rw[Zc,Zc];exact r.to_true
 | [s],x,done,w,h,r=>by
  have:=ud (h s (Zd.mpr rfl)).1 (h s (Zd.mpr rfl)).2 r;rw[Xc,List.flatMap_nil,Zc];exact this.to_true
 | s::t::rr,x,done,w,h,r=>by
  have hs:=h s (Xb ..);have r1:=ud hs.1 hs.2 r;have r2:=iO (g:=[32]) r1 (by decide) (fun k hk=>by obtain rfl:=Zd.mp hk;exact .inl rfl) (fun z=>nomatch z)
  have r3:=qz (t::rr) (fun a ha=>h a (Va _ ha)) r2;have e:shA (s::t::rr)=sh s++" "++shA (t::rr):=rfl;rw[e,br,br,m7,Xc,Vc];simpa[Vb]using r3
theorem pB{s:ay}(h:∀p∈s.2,Nm p.2):(sh s).cps.toList.length<=8*s.2.length+2:=by
 have:=pA s.2 h;rw[uc,List.length_append,List.length_append];show 1+_+1<=_;lia
theorem qA:∀(ss:List ay),(∀s∈ss,∀p∈s.2,Nm p.2)->(shA ss).cps.toList.length<=8*(ss.flatMap (·.2)).length+3*ss.length
 | [],_=>by show 0<=_;lia
 | [s],h=>by
  have:=pB (h s (Zd.mpr rfl));have e1:([s].flatMap (·.2)).length=s.2.length:=by simp
  have e2:([s]:List ay).length=1:=rfl;show(sh s).cps.toList.length<=_;rw[e1,e2];lia
 | s::t::rr,h=>by
  have ih:=qA (t::rr) fun a ha=>h a (Va _ ha);have:=pB (h s (Xb ..));have e:shA (s::t::rr)=sh s++" "++shA (t::rr):=rfl;have e1:([32]:List Nat).length=1:=rfl;have e2:(s::t::rr).length=(t::rr).length+1:=rfl;rw[e,br,br,m7,Za,Za,Xc,Za,e1,e2];lia
end K04
namespace VF
open PySem L2
section
variable {st s:En}{r:Rs}{fa:FE}{f:Str->FE}{acc y:Str}{a:Option (Rs×En)}
theorem ue(h1:fa st=some (r,s))(h2:cont s r=some (.str y))(h3:(acc++y).length<=1000000)(h4:f (acc++y) s=a):fJc fa f acc st=a:=by
 simp only[fJc,h1,h2,Ya];rw[if_pos h3];exact h4
theorem zl(h:acc.length<=1000000):fJn acc st=some (.d (.str acc),st):=by
 unfold fJn;rw[if_pos h]
theorem zm{b:D->Option Rz}{d:D}{z:Rz}{r':Rs}(h1:fa st=some (r,s))(h2:cont s r=some d)(h3:b d=some z)(hz:mk z=r':=by rfl):fUn b fa st=some (r',s):=by
 simp only[fUn,h1,h2,h3,hz,Ya]
end
theorem zB{z:Str}(h:z.length<=1000000):oY (.str z)=some (.str z,false):=by
 show(if z.length<=1000000 then some (D.str z,false) else none)=_;rw[if_pos h]
end VF
namespace K04
open PySem L2 VF VL VF22 VT
theorem zn(n:Nat)(p:Bool×Str):Dp (n+1) (bdD p):=.str _ _
theorem qB(n:Nat){ps:List (Bool×Str)}(h:ps.length<=1000000):Dp (n+2) (.tup (ps.map bdD)):=.tup (by rw[Xa];exact h) fun d hd=>by
 obtain⟨p,_,rfl⟩:=We.mp hd;exact zn n p
theorem zo(n:Nat){s:ay}(h:s.2.length<=1000000):Dp (n+3) (stD s):=.tup (by show 2<=1000000;decide) fun d hd=>by
 rcases Xd.mp hd with rfl|hd
 ·exact .str _ _
 ·obtain rfl:=Zd.mp hd;exact qB n h
theorem xW{ss:List ay}(h:ss.length<=1000000)(h2:∀s∈ss,s.2.length<=1000000):Dp 4 (.tup (ss.map stD)):=.tup (by rw[Xa];exact h) fun d hd=>by
 obtain⟨s,hs,rfl⟩:=We.mp hd;exact zo 0 (h2 s hs)
theorem jN{ps:List (Bool×Str)}(h:∀p∈ps,Nm p.2)(hl:ps.length<=1000):(jn ps).length<=8000:=by
 have:=pA ps h;rw[bO];lia
theorem qC(r:Bool):(opn r).length=1/\(cls r).length=1:=by cases r<;>decide +kernel
theorem zp(a b:D):bIx (.tup [a,b]) (.int 0)=some (a,false):=ix_tup (xN _)
theorem zq(a b:D):bIx (.tup [a,b]) (.int 1)=some (b,false):=ix_tup (by simp[atI,ixN])
theorem vn(r:Bool):decide (V.str (kd r)=V.str "ring")=r:=by
 cases r
 ·exact decide_eq_false fun z=>absurd (V.str.inj z) (by decide +kernel)
 ·exact decide_eq_true rfl
theorem vo(r:Bool):decide (V.str (kd r)=V.str "open")=!r:=by
 cases r
 ·exact decide_eq_true rfl
 ·exact decide_eq_false fun z=>absurd (V.str.inj z) (by decide +kernel)
theorem lO{s:ay}(h:∀p∈s.2,Nm p.2)(hl:s.2.length<=1000):bA [stD s]=some (.str (sh s),false):=by
 have l1:=jN h hl;have o1:=qC s.1;have hj:fBM "str" dU (fC (.str " ")) (ac (fOp bIx (ag 0) (fC (.int 1))) ao) [.v (stD s)]=some (.d (.str (jn s.2)),[.v (stD s)]):=jj rfl rfl rfl (az (ax rfl rfl rfl rfl (zq _ _)) rfl) rfl rfl (qy h hl);have fin:∀r:Bool,s.1=r->fOp bY (fOp bY (fC (.str (opn r))) (fBM "str" dU (fC (.str " ")) (ac (fOp bIx (ag 0) (fC (.int 1))) ao))) (fC (.str (cls r))) [.v (stD s)]=some (.d (.str (sh s)),[.v (stD s)]):=by
  rintro r rfl;exact ax (ax rfl hj rfl rfl (dJ (by lia))) rfl rfl rfl (dJ (by rw[Str.length_append];lia))
 have hk:=vn s.1;refine bg (o:=.rt (.d (.str (sh s))) [.v (stD s)]) rfl ?_ rfl;have ht:aE (fOp bEq (fOp bIx (ag 0) (fC (.int 0))) (fC (.str "ring"))) [.v (stD s)]=some (s.1,[.v (stD s)]):=cL (aB (ax (ax rfl rfl rfl rfl (zp _ _)) rfl rfl rfl rfl) rfl) hk;cases hr:s.1 with
 | true =>
  rw[hr]at ht;exact g9 (eK ht (bf (fin true hr)))
 | false =>
  rw[hr]at ht;exact ah (ck ht rfl) (bf (fin false hr))
theorem pC{st:En}{i:Nat}{a b z:Str}(h:ag i st=some (.d (.str z),st))(hz:z.length<=900000)(ha:a.length<=100)(hb:b.length<=100):fJ (fJc (fC (.str a)) (fJc (fUn oY (ag i)) (fJc (fC (.str b)) fJn))) st=some (.d (.str (a++z++b)),st):=by
 show fJc (fC (.str a)) (fJc (fUn oY (ag i)) (fJc (fC (.str b)) fJn)) Str.empty st=_;refine ue rfl rfl (by rw[empty_app];lia) ?_
 rw[empty_app];refine ue (zm h rfl (zB (by lia))) rfl (by rw[Str.length_append];lia) ?_
 refine ue rfl rfl (by rw[Str.length_append,Str.length_append];lia) ?_
 exact zl (by rw[Str.length_append,Str.length_append];lia)
theorem rC{s:ay}(h:∀p∈s.2,Nm p.2)(hl:s.2.length<=1000):dW [stD s]=some (.str (sh s),false):=by
 have l1:=jN h hl;have hk:=vo s.1;refine bg (o:=.rt (.d (.str (sh s))) [.v (stD s),.v (.str (jn s.2))]) rfl ?_ rfl;refine ah (s:=[.v (stD s),.v (.str (jn s.2))]) (b9 (s:=[.v (stD s),.e]) (jj rfl rfl rfl (az (ax rfl rfl rfl rfl (zq _ _)) rfl) rfl rfl (qy h hl)) rfl) ?_;have ht:aE (fOp bEq (fOp bIx (ag 0) (fC (.int 0))) (fC (.str "open"))) [.v (stD s),.v (.str (jn s.2))]=some (!s.1,[.v (stD s),.v (.str (jn s.2))]):=cL (aB (ax (ax rfl rfl rfl rfl (zp _ _)) rfl rfl rfl rfl) rfl) hk;have o:∀r:Bool,(opn r).length<=100/\(cls r).length<=100:=fun r=>by have:=qC r;lia
 refine bf ?_;unfold sh;cases hr:s.1 with
 | true =>
  rw[hr]at ht;exact vX ht (pC (a:=opn true) (b:=cls true) rfl (by lia) (o true).1 (o true).2)
 | false =>
  rw[hr]at ht;exact vW ht (pC (a:=opn false) (b:=cls false) rfl (by lia) (o false).1 (o false).2)
theorem oh{ps:List (Bool×Str)}(h:∀p∈ps,Nm p.2)(hl:ps.length<=1000):ge [.tup (ps.map bdD)]=some (.str ("|"++jn ps++"|"),false):=by
 have l1:=jN h hl;have b1:Str.length "|"<=100:=by decide +kernel
 refine bg (o:=.rt (.d (.str ("|"++jn ps++"|"))) [.v (.tup (ps.map bdD)),.v (.str (jn ps))]) rfl ?_ rfl;exact ah (s:=[.v (.tup (ps.map bdD)),.v (.str (jn ps))]) (b9 (s:=[.v (.tup (ps.map bdD)),.e]) (jj rfl rfl rfl rfl rfl rfl (qy h hl)) rfl) (bf (pC rfl (by lia) b1 b1))
theorem uf:∀(ss:List ay),(∀s∈ss,∀p∈s.2,Nm p.2)->((ss.map sh).map (·.length)).sum<=8*(ss.flatMap (·.2)).length+2*ss.length
 | [],_=>by simp
 | s::r,h=>by
  have ih:=uf r fun a ha=>h a (Va _ ha);have:=pB (h s (Xb ..));rw[← bO]at this;rw[Yc,Yc,List.sum_cons,Xc,Za,Yd];lia
theorem wa{ss:List ay}(g:GS ss):jZ (.str " ") [.lst (ss.map fun s=>D.str (sh s))]=some (.str (shA ss),false):=by
 have e:=tF (sep:=" ") (ys:=ss.map sh) (by
  have h1:=uf ss g.nm;have h2:Str.length " "=1:=by decide +kernel
  have:=g.l1;have:=g.l2
  rw[Xa,h2];lia)
 rw[Qf,xV]at e;exact e
theorem kD{ss:List ay}(g:GS ss):eT [.tup (ss.map stD)]=some (.str (shA ss),false):=by
 have hc:cv 1 [] (fIA (ag 0)) (gN 0) fu iC [.v (.tup (ss.map stD))]=some (.f (.lst (ss.map fun s=>D.str (sh s))),[.v (.tup (ss.map stD))]):=by
  refine cF (s1:=[.v (.tup (ss.map stD))]) (ds:=ss.map stD) (s2:=[.e]) rfl (by rw[Xa,decide_eq_true (by have:=g.l2;lia:ss.length<=1000000)];rfl) ?_
  exact df stD (fun s=>D.str (sh s)) [.e] ss fun s hs=>⟨[.v (stD s)],[.v (stD s)],.d (.str (sh s)),[.v (stD s)],[.v (stD s)],rfl,rfl,aT rfl rfl (rC (g.nm s hs) (g.len s hs)) rfl,rfl,rfl⟩
 refine bg (o:=.rt (.d (.str (shA ss))) [.v (.tup (ss.map stD))]) rfl ?_ rfl;exact bf (jj rfl rfl rfl (az hc rfl) rfl rfl (wa g))
theorem oi{a b:Str}(h:a.length+b.length<=1000000):fj (.str a) (.str b)=some (.str (a++b),false):=by
 unfold fj orD;rw[dJ h]
noncomputable def lT(ps:List (Bool×Str)):List Tkn:=.inl 124::(ps.map .inr++[.inl 124])
noncomputable def lX(ps:List (Bool×Str)):Str:="|"++jn ps++"|"
theorem zr{ps:List (Bool×Str)}(h:∀p∈ps,Nm p.2):∀t∈lT ps,TOk [124] t:=fun t ht=>by
 rcases Xd.mp ht with rfl|ht
 ·show 124∈[124];decide
 ·rcases Xg.mp ht with ht|ht
  ·obtain⟨p,hp,rfl⟩:=We.mp ht;exact h p hp
  ·obtain rfl:=Zd.mp ht;show 124∈[124];decide
theorem zC:(⟨#[124]⟩:Str)="|":=by decide +kernel
theorem zt(ps:List (Bool×Str)):(lT ps).map (fun t=>D.str (tS t))=.str "|"::(ps.map bdD++[.str "|"]):=by
 unfold lT;rw[Yc,Vc,Qf,Qi];show D.str ⟨#[124]⟩::(_++[D.str ⟨#[124]⟩])=_;rw[zC];rfl
theorem ug(ps:List (Bool×Str)):(lX ps).cps.toList=[124]++(jn ps).cps.toList++[124]:=by
 unfold lX;rw[br,br,jb]
theorem zu{ps:List (Bool×Str)}(h:∀p∈ps,Nm p.2):wt [124] [] (lX ps).cps.toList=(lT ps).map fun t=>(tS t).cps.toList:=by
 have hm:MOk [124]:=.inr rfl;have r1:=du (c:=124) (m5 [124]) hm.b.1 hm.b.2 (by decide)
 have e:(lT ps).map (fun t=>(tS t).cps.toList)=[124]::((ps.map fun p=>(bd p).cps.toList)++[[124]]):=by
  unfold lT;rw[Yc,Vc,Qf,Qi];rfl
 rw[e,ug];by_cases hn:ps=[]
 ·subst hn;have r3:=du (c:=124) r1 hm.b.1 hm.b.2 (by decide)
  exact iP r3
 ·have r2:=kC hm ps hn h r1;have r3:=du (c:=124) r2 hm.b.1 hm.b.2 (by decide)
  have:=iP r3;simpa[Vb]using this
theorem jq{x:Str}{ps:List (Bool×Str)}(hn:∀p∈ps,Nm p.2)(hl:ps.length<=300)(hd:(ps.map (·.2)).Nodup)(hx:x.cps.toList.length<=10000)(hw:wt [124] [] x.cps.toList=(lT ps).map fun t=>(tS t).cps.toList):cK [.str x]=some (.tup (ps.map bdD),false) :=
 oe hn hl hd hx (by rw[zj hw,zt])
theorem ib{x:Str}{ss:List ay}(g:GS ss)(hx:x.cps.toList.length<=10000)(hw:wt mS [] x.cps.toList=(ss.flatMap tkT).map fun t=>(tS t).cps.toList):cD [.str x]=some (.tup (ss.map stD),false) :=
 px g hx (by rw[zj hw,m6])
theorem jc{φ:D}{ps:List (Bool×Str)}(hφ:bG φ)(hn:∀p∈ps,Nm p.2)(hl:ps.length<=300)(hd:(ps.map (·.2)).Nodup):∃φ',bQ φ [.tup (ps.map bdD)]=some ((.bl true,false),φ')/\bG φ':=by
 have l1:=jN hn (by lia)
 have b1:Str.length "|"=1:=by decide +kernel
 have lx:(lX ps).cps.toList.length<=10000:=by rw[ug];rw[bO]at l1;simp only[Za,Zh];lia
 have al:bz 4 [.tup (ps.map bdD),.tup (ps.map bdD)]=some (.bl true,false):=de (qB 2 (by lia))
 have as:bz 4 [.str (lX ps),.str (lX ps)]=some (.bl true,false):=de (.str _ _);have r1:=jq hn hl hd lx (zu hn);obtain⟨x,φ',e1,f1,lx2,w2⟩:=lN (ms:=[124]) (.inr rfl) (ts:=lT ps) hφ (zr hn) (by simp[lT];lia)
 rw[zt]at e1;have r2:=jq hn hl hd lx2 w2;refine⟨φ',?_,f1⟩;have lm:(ps.map bdD).length=ps.length:=Xa ..;have a1:=fY (a:=[.str "|"]) (b:=ps.map bdD) (by rw[lm];show 1+_<=_;lia)
 have a2:=fY (a:=[.str "|"]++ps.map bdD) (b:=[.str "|"]) (by rw[Za,lm];show 1+_+1<=_;lia)
 refine bC (o:=.rt (.d (.bl true)) [.io φ',.v (.tup (ps.map bdD)),.v (.str (lX ps))]) rfl ?_ rfl;refine ah (s:=[.io φ,.v (.tup (ps.map bdD)),.v (.str (lX ps))]) (b9 (s:=[.io φ,.v (.tup (ps.map bdD)),.e]) (x:=.str (lX ps)) ?_ rfl) ?_
 ·exact ax (ax rfl (jj rfl rfl rfl rfl rfl rfl (qy hn (by lia))) rfl rfl (oi (by rw[b1];lia))) rfl rfl rfl (oi (by rw[Str.length_append,b1];lia))
 refine ah (ck (mI (s:=[.io φ,.v (.tup (ps.map bdD)),.v (.str (lX ps))]) (cB (c:=true) (aB (aT (az (aT rfl rfl (oh hn (by lia)) rfl) rfl) rfl as rfl) rfl)) (cB (c:=true) (s:=[.io φ,.v (.tup (ps.map bdD)),.v (.str (lX ps))]) (aB (aT (az (bL rfl rfl r1) rfl) rfl al rfl) rfl))) rfl) ?_
 refine bf (aT (az (bL (az (bh rfl rfl (az (ax (ax rfl (dI rfl rfl rfl) rfl rfl a1) rfl rfl rfl a2) rfl) rfl rfl rfl e1) rfl) rfl r2) rfl) rfl al rfl)
theorem GS.one{ss:List ay}(g:GS ss){s:ay}(hs:s∈ss):GS [s]:=by
 have e:([s].flatMap (·.2))=s.2:=by simp
 obtain⟨a,b,rfl⟩:=List.append_of_mem hs;refine⟨fun t ht=>?_,fun t ht=>?_,?_,?_,by show 1<=300;decide⟩
 ·obtain rfl:=Zd.mp ht;exact g.nm _ hs
 ·obtain rfl:=Zd.mp ht;exact g.ne _ hs
 ·rw[e];have:=g.nd;rw[Qe,Xc,Vc,Vc]at this;exact(Wj.mp (Wj.mp this).2.1).1
 ·rw[e];have:=g.l1;rw[Qe,Xc,Za,Za]at this;lia
theorem uh{ss:List ay}(g:GS ss):wt mS [] (shA ss).cps.toList=(ss.flatMap tkT).map fun t=>(tS t).cps.toList :=
 iP (qz ss (fun s hs=>⟨g.nm s hs,g.ne s hs⟩) (m5 mS))
theorem wc{ss:List ay}(g:GS ss):(shA ss).cps.toList.length<=10000:=by
 have:=qA ss g.nm;have:=g.l1;have:=g.l2;lia
theorem vp(s:ay):shA [s]=sh s:=rfl
theorem alS{ss:List ay}(g:GS ss):bz 4 [.tup (ss.map stD),.tup (ss.map stD)]=some (.bl true,false):=de (xW (by have:=g.l2;lia) fun s hs=>by have:=g.len s hs;lia)
theorem alX(x:Str):bz 4 [.str x,.str x]=some (.bl true,false):=de (.str _ _)
theorem rD{φ:D}{ss:List ay}(hφ:bG φ)(g:GS ss)(hb:(ss.flatMap (·.2)).length+2*ss.length<=700):∃φ',cN φ [.tup (ss.map stD)]=some ((.bl true,false),φ')/\bG φ':=by
 have hg1:=g.l1;have hg2:=g.l2;have r1:=ib g (wc g) (uh g)
 obtain⟨x,φ',e1,f1,lx2,w2⟩:=lN (ms:=mS) (.inl rfl) (ts:=ss.flatMap tkT) hφ (xU g.nm) (by
  rw[qw];exact hb)
 rw[m6]at e1;have r2:=ib g lx2 w2;have tk:=rB (ss:=ss) (by lia)
 refine⟨φ',?_,f1⟩;have hc:cv 1 [] (fIA (ag 1)) (gN 0) fu dN [.io φ,.v (.tup (ss.map stD)),.e,.e]=some (.f (.lst (ss.map fun s=>D.str (sh s))),[.io φ,.v (.tup (ss.map stD)),.e,.e]):=by
  refine cF (s1:=[.io φ,.v (.tup (ss.map stD)),.e,.e]) (ds:=ss.map stD) (s2:=[.e]) rfl (by rw[Xa,decide_eq_true (by lia:ss.length<=1000000)];rfl) ?_
  exact df stD (fun s=>D.str (sh s)) [.e] ss fun s hs=>⟨[.v (stD s)],[.v (stD s)],.d (.str (sh s)),[.v (stD s)],[.v (stD s)],rfl,rfl,aT rfl rfl (lO (g.nm s hs) (g.len s hs)) rfl,rfl,rfl⟩
 have step:∀s∈ss,∀(a b c:Sl),cq [a,b,c,.v (stD s)]=some (.nx [a,b,c,.v (stD s)]):=fun s hs a b c=>by
  have g1:=g.one hs;have s1:=kD g1;have rd:=ib g1 (wc g1) (uh g1);rw[vp]at s1 rd;have ls:=lO (g.nm s hs) (g.len s hs);have al:=alS g1;have tp:∀a b c:Sl,jU (ac (ag 3) ao) [a,b,c,.v (stD s)]=some (.d (.tup [stD s]),[a,b,c,.v (stD s)]):=fun a b c=>mJ rfl rfl (by show 1<=1000000;decide)
  refine ah (ck (s:=[a,b,c,.v (stD s)]) (cB (c:=true) (aB (aT (az (aT (az (tp _ _ _) rfl) rfl s1 rfl) (az (aT rfl rfl ls rfl) rfl)) rfl (alX _) rfl) rfl)) rfl) ?_;exact ck (s:=[a,b,c,.v (stD s)]) (cB (c:=true) (aB (aT (az (bL (az (aT rfl rfl ls rfl) rfl) rfl rd) (az (tp _ _ _) rfl)) rfl al rfl) rfl)) rfl
 obtain⟨sf,e,o3,rfl,_⟩:=ef (fg:=gN 3) (B:=cq) stD ss (fun _ st=>∃o3:Sl,st=[.io φ,.v (.tup (ss.map stD)),.v (.str (shA ss)),o3]/\o3.isIo=false)
  (by
   rintro gone s rest st ha ⟨o3,rfl,q⟩
   exact⟨_,_,bH rfl q,step s (by rw[ha];simp) _ _ _,.v (stD s),rfl,rfl⟩)
  ss [] [.io φ,.v (.tup (ss.map stD)),.v (.str (shA ss)),.e] rfl ⟨.e,rfl,rfl⟩
 refine bC (o:=.rt (.d (.bl true)) [.io φ',.v (.tup (ss.map stD)),.v (.str (shA ss)),o3]) rfl ?_ rfl;refine ah (s:=[.io φ,.v (.tup (ss.map stD)),.v (.str (shA ss)),.e]) (b9 (s:=[.io φ,.v (.tup (ss.map stD)),.e,.e]) (x:=.str (shA ss)) (jj rfl rfl rfl (az hc rfl) rfl rfl (wa g)) rfl) ?_;refine ah (ck (mI (s:=[.io φ,.v (.tup (ss.map stD)),.v (.str (shA ss)),.e]) (cB (c:=true) (aB (aT (az (aT rfl rfl (kD g) rfl) rfl) rfl (alX _) rfl) rfl)) (cB (c:=true) (s:=[.io φ,.v (.tup (ss.map stD)),.v (.str (shA ss)),.e]) (aB (aT (az (bL rfl rfl r1) rfl) rfl (alS g) rfl) rfl))) rfl) ?_;refine ah (eM (nR rfl rfl) e) ?_;exact bf (aT (az (bL (az (bh rfl rfl (az (bL rfl rfl tk) rfl) rfl rfl rfl e1) rfl) rfl r2) rfl) rfl (alS g) rfl)
theorem xX{d:Int}(c:¬ d=0):decide (V.int d=V.int 0)=false:=decide_eq_false fun z=>c (V.int.inj z)
theorem uk{ds:List D}{k:Nat}(h:k<=ds.length):cutD ds none (some (k:Int))=ds.take k:=by
 unfold cutD;rw[HT.sIx_nat,HT.sIx_none,List.drop_zero,Nat.min_eq_left h,Nat.sub_zero]
theorem lP{ps:List (Bool×Str)}{N:List Str}(pm:(ps.map (·.2)).Perm N)(nm:∀x∈N,Nm x)(nd:N.Nodup)(hl:N.length<=300):(∀p∈ps,Nm p.2)/\ps.length<=300/\(ps.map (·.2)).Nodup:=by
 refine⟨fun p hp=>nm _ (pm.subset (We.mpr ⟨p,hp,rfl⟩)),?_,pm.nodup_iff.mpr nd⟩;have:=pm.length_eq;rw[Xa]at this;lia
theorem vq(ns:List Int):bx tN 5 1 [.fl (ns.map D.int)]=some (.bl true,false):=by
 have f0:bG (Fl ns 0 0 1 0):=⟨ns,0,0,1,0,rfl,by decide,by decide,by decide,by decide⟩
 obtain⟨d1,φ1,e1,d10,d11,f1⟩:=bN (n:=10) f0 (by decide) (by decide)
 obtain⟨d2,φ2,e2,d20,d21,f2⟩:=bN (n:=8) f1 (by decide) (by decide)
 generalize hS:D.fl (ns.map D.int)=S;have sp:∃A B C R,tN=aA A (aA B (aA C R)) /\
   A [.v S,.e,.e,.e,.e]=some (.nx [.v S,.o (Fl ns 0 0 1 0),.e,.e,.e]) /\
   B [.v S,.o (Fl ns 0 0 1 0),.e,.e,.e]=some (.nx [.v S,.o φ1,.v (.int d1),.e,.e]) /\
   (∃(n:Nat)(φ3:D),C [.v S,.o φ1,.v (.int d1),.e,.e]=some (.nx [.v S,.o φ3,.v (.int n),.e,.e])/\n<=40/\bG φ3) /\
   (∀(n:Nat)(φ3:D),n<=40->bG φ3->∃s,R [.v S,.o φ3,.v (.int n),.e,.e]=some (.rt (.d (.bl true)) s)):=by
  refine⟨_,_,_,_,rfl,j5 (bL rfl rfl (hS ▸ u8 ns)) rfl,b9 (bh rfl rfl rfl rfl rfl rfl e1) rfl,?_,?_⟩
  ·by_cases c:d2=0
   ·subst c;obtain⟨d3,φ3,e3,d30,d31,f3⟩:=bN (n:=31) f2 (by decide) (by decide)
    obtain⟨n,hn⟩:=Zj (a:=40-d3) (by lia)
    refine⟨n,φ3,?_,by lia,f3⟩
    refine eK (s:=[.v S,.o φ2,.v (.int d1),.e,.e]) (aB (ax (bh rfl rfl rfl rfl rfl rfl e2) rfl rfl rfl rfl) rfl) ?_;refine b9 (s:=[.v S,.o φ3,.v (.int d1),.e,.e]) (x:=.int n) ?_ rfl;rw[← hn];exact ax rfl (bh rfl rfl rfl rfl rfl rfl e3) rfl rfl rfl
   ·obtain⟨n,rfl⟩:=Zj d10;refine⟨n,φ2,?_,by lia,f2⟩
    exact ck (s:=[.v S,.o φ2,.v (.int n),.e,.e]) (cL (aB (ax (bh rfl rfl rfl rfl rfl rfl e2) rfl rfl rfl rfl) rfl) (xX c)) rfl
  ·intro n φ3 hn f3;obtain⟨N,φ4,e4,hxl,nm,nd,f4⟩:=tU (n:=(n:Int)) f3 (by lia) (by lia)
   have hNl:N.length<=100:=by lia
   obtain⟨ss,φ5,e5,h51,h52,f5⟩:=xK f4 (by lia) nm
   have hfl:(ss.flatMap (·.2)).length=N.length:=by have:=h52.length_eq;rwa [Xa]at this
   have hsl:=jM ss h51;have g:GS ss:=⟨fun s hs p hp=>nm _ (h52.subset (We.mpr ⟨p,List.mem_flatMap.mpr ⟨s,hs,hp⟩,rfl⟩)),h51,h52.nodup_iff.mpr nd,by lia,by lia⟩
   obtain⟨φ6,e6,f6⟩:=rD f5 g (by lia)
   obtain⟨ps,φ7,e7,p7,f7⟩:=m3 f6 (by lia) nm
   obtain⟨a1,a2,a3⟩:=lP p7 nm nd (by lia)
   obtain⟨φ8,e8,f8⟩:=jc f7 a1 a2 a3;have nm2:∀x∈N.take (n / 2),Nm x:=fun x hx=>nm x (List.mem_of_mem_take hx);have nd2:(N.take (n / 2)).Nodup:=nd.sublist (List.take_sublist _ _);have l2:(N.take (n / 2)).length<=100:=Wb (List.length_take_le' _ _) hNl;obtain⟨qs,φ9,e9,p9,f9⟩:=m3 f8 (xs:=N.take (n / 2)) (by lia) nm2
   obtain⟨b1,b2,b3⟩:=lP p9 nm2 nd2 (by lia)
   obtain⟨φ10,e10,f10⟩:=jc f9 b1 b2 b3;obtain⟨φ11,e11,f11⟩:=jc f10 a1 a2 a3;have sl:nS (.lst (N.map D.str)) none (some ((n / 2:Nat):Int))=some (.lst ((N.take (n / 2)).map D.str),true):=by
    show some (D.lst (cutD (N.map D.str) none (some ((n / 2:Nat):Int))),true)=_;rw[uk (by rw[Xa];lia),List.map_take]
   have dv:jy (.int (n:Int)) (.int 2)=some (.int ((n / 2:Nat):Int),false):=by
    rw[tQ ⟨by decide,by decide⟩];rfl
   have hq:fOp jy (ag 2) (fC (.int 2)) [.v S,.o φ8,.v (.int n),.v (.lst (N.map D.str)),.v (.tup (ps.map bdD))]=some (.d (.int ((n / 2:Nat):Int)),[.v S,.o φ8,.v (.int n),.v (.lst (N.map D.str)),.v (.tup (ps.map bdD))]):=ax rfl rfl rfl rfl dv;have hp:ff (fOp jy (ag 2) (fC (.int 2))) [.v S,.o φ8,.v (.int n),.v (.lst (N.map D.str)),.v (.tup (ps.map bdD))]=some (some ((n / 2:Nat):Int),[.v S,.o φ8,.v (.int n),.v (.lst (N.map D.str)),.v (.tup (ps.map bdD))]):=by
    unfold ff;rw[hq];rfl
   have hsl2:fSl nS (ag 3) oNo (ff (fOp jy (ag 2) (fC (.int 2)))) [.v S,.o φ8,.v (.int n),.v (.lst (N.map D.str)),.v (.tup (ps.map bdD))]=some (.f (.lst ((N.take (n / 2)).map D.str)),[.v S,.o φ8,.v (.int n),.v (.lst (N.map D.str)),.v (.tup (ps.map bdD))]):=lC rfl rfl hp rfl sl rfl;refine⟨[.v S,.o φ11,.v (.int n),.v (.lst (N.map D.str)),.v (.tup (ps.map bdD))],?_⟩;refine ah (s:=[.v S,.o φ4,.v (.int n),.o (.lst (N.map D.str)),.e]) (j5 (bh rfl rfl rfl rfl rfl rfl e4) rfl) ?_;refine ah (ck (s:=[.v S,.o φ6,.v (.int n),.v (.lst (N.map D.str)),.e]) (cB (c:=true) (aB (bh rfl rfl (az (xv rfl rfl rfl rfl rfl rfl e5) rfl) rfl rfl rfl e6) rfl)) rfl) ?_;refine ah (s:=[.v S,.o φ7,.v (.int n),.v (.lst (N.map D.str)),.v (.tup (ps.map bdD))]) (b9 (s:=[.v S,.o φ7,.v (.int n),.v (.lst (N.map D.str)),.e]) (bh rfl rfl rfl rfl rfl rfl e7) rfl) ?_;refine ah (ck (s:=[.v S,.o φ10,.v (.int n),.v (.lst (N.map D.str)),.v (.tup (ps.map bdD))]) (mI (s:=[.v S,.o φ8,.v (.int n),.v (.lst (N.map D.str)),.v (.tup (ps.map bdD))]) (cB (c:=true) (aB (bh rfl rfl rfl rfl rfl rfl e8) rfl)) (cB (c:=true) (aB (bh rfl rfl (az (bh rfl rfl (az hsl2 rfl) rfl rfl rfl e9) rfl) rfl rfl rfl e10) rfl))) rfl) ?_;exact bf (bh rfl rfl rfl rfl rfl rfl e11)
 obtain⟨A,B,C,R,eF,hA,hB,⟨n,φ3,hC,hn,f3⟩,hR⟩:=sp;obtain⟨s,hs⟩:=hR n φ3 hn f3;refine bg (o:=.rt (.d (.bl true)) s) rfl ?_ rfl;rw[eF];exact ah hA (ah hB (ah hC hs))
end K04
namespace K04
open PySem L2 VF VF22
section
variable (P:Program)(w:World)(K:PySem.W.Frag)(mg:Str->Option Value)(base:Heap)
noncomputable abbrev lQ:=Cal P w K mg base "is_name" 1 nl0 (spV K gA)
noncomputable abbrev jr:=Cal P w K mg base "is_turned" 1 nl3 (spV K dM)
noncomputable abbrev jd:=Cal P w K mg base "name_of" 2 nl3 (spV K gB)
noncomputable abbrev lR:=Cal P w K mg base "is_bead" 3 nl0 (spV K i4)
noncomputable abbrev kE:=Cal P w K mg base "beads_in" 1 nl0 (spV K dg)
noncomputable abbrev gR:=Cal P w K mg base "show_strand" 1 ["strand"] (spV K dW)
noncomputable abbrev kF:=Cal P w K mg base "show_set" 2 ["some"] (spV K eT)
noncomputable abbrev js:=Cal P w K mg base "show_line" 1 ["line"] (spV K ge)
noncomputable abbrev ie:=Cal P w K mg base "words_of" 1 ["text","marks"] (spV K dh)
noncomputable abbrev ig:=Cal P w K mg base "beads_of" 4 nl1 (spV K eU)
noncomputable abbrev gS:=Cal P w K mg base "read_strand" 5 nl1 (spV K dX)
noncomputable abbrev gq:=Cal P w K mg base "strand_words" 1 nl1 (spV K cm)
noncomputable abbrev dw:=Cal P w K mg base "refuse_twice" 3 nl0 (spV K cn)
noncomputable abbrev kG:=Cal P w K mg base "read_set" 6 ["text"] (spV K cD)
noncomputable abbrev jt:=Cal P w K mg base "read_line" 5 ["text"] (spV K cK)
noncomputable abbrev kH:=Cal P w K mg base "_law_flow" 1 nl4 (spV K hW)
noncomputable abbrev bU:=Cal P w K mg base "_law_pick" 1 nl2 (fP K aH)
noncomputable abbrev d5:=Cal P w K mg base "_law_letters" 2 nl2 (fP K ca)
noncomputable abbrev kI:=Cal P w K mg base "_law_name" 3 ["_law_flow_here","_law_stem"] (fP K hY)
noncomputable abbrev ju:=Cal P w K mg base "_law_names" 4 nl2 (fP K gj)
noncomputable abbrev gr:=Cal P w K mg base "_law_shuffled" 2 ["_law_flow_here","_law_things"] (fP K di)
noncomputable abbrev ii:=Cal P w K mg base "_law_line" 3 nl7 (fP K cb)
noncomputable abbrev lS:=CalD P w K mg base "_law_set" 4 y1 [.bl true] (fP K i6)
noncomputable abbrev gt:=Cal P w K mg base "_law_alike" 4 nl5 (spV K (bz 4))
noncomputable abbrev iQ:=Cal P w K mg base "_law_tokens" 1 ["_law_some"] (spV K eV)
noncomputable abbrev eZ:=Cal P w K mg base "_law_spaced" 2 y6 (fP K cV)
noncomputable abbrev dA:=Cal P w K mg base "_law_shown_strand" 1 nl6 (spV K bA)
noncomputable abbrev fq:=Cal P w K mg base "_law_set_holds" 7 ["_law_flow_here","_law_some"] (fP K cN)
noncomputable abbrev eh:=Cal P w K mg base "_law_line_holds" 6 ["_law_flow_here","_law_line_here"] (fP K bQ)
end
section
variable {P:Program}{w:World}{K:PySem.W.Frag}{mg:Str->Option Value}{base:Heap}
theorem pD(M:Md P w K mg):Bd' P w K mg base "is_name" jK nl0 0 lG:=fun hr=>⟨_,(ae (bp (PW.pt (gI (cw (bP (bM K M.n_isinstance (pv 0) (cQ rfl M.n_str cX)))) (fv (cw (rP vz vz ai (dL K M.n_len (pv 0)) (uC rfl M.c_LONGEST_NAME)))))) (ak (aI gH)) aN)
   (ak (aI (fE (jR rfl) rfl M.n_all boot_all (au (cR (eE (osc:=(am jK)) (ON:=nl0) (N:=["letter"]) (k:=1) (caps:=[]) (by decide +kernel) rfl rfl) rfl (ci (K:=K) rfl (pv 0)) (fun _ _ _ _=>(cr 0 (by show(["letter"]:List Str).Nodup;decide +kernel))) (fun _ _ _ _=>dE) (fun _ _ _ _=>(lZ (oR (K:=K) rfl) (pv 0) (uB rfl M.c_LETTERS) (by with_unfolding_all rfl)))) af))))),
  (ar (bq (dP (b5 (cc (be bc (aa (ab 0) (aa (dB fun _ _=>.ty _) ad))))) (b5 (aL (sk vP vP (aj _) (be fV (aa (ab 0) ad)) (dB fun _ _=>.int _))))) (aJ (gK _)) aO)
   (aJ (be oQ (aa (cS (cj (ab 0)) (bB 0) (by decide) fO (aq oS (ab 0) (dB fun _ _=>.str _))) ad))))⟩
theorem m8(M:Md P w K mg):Bd' P w K mg base "is_turned" i7 nl3 0 jl:=fun hr=>⟨_,(ak (aI (d9 PySem.F.plainAttrs_str PySem.F.slot_str_startswith PySem.F.type_str_startswith kP (pv 0) (au aD af)))),
  (aJ (gL q0 (ab 0) (aa (aF _) ad)))⟩
theorem pE(M:Md P w K mg)(c1:jr P w K mg base):Bd' P w K mg base "name_of" mR nl3 1 lH:=fun hr=>⟨_,(ak (aI (nl (bP (aw c1 hr rfl (au (pv 0) af))) (d8 (mE (K:=K) rfl) (pv 0) (dD ai) jG) (pv 0)))),
  (aJ (vM (cc (aV (aa (ab 0) ad))) (ee jI (ab 0) (cI (aj _)) mB) (ab 0)))⟩
theorem pF(M:Md P w K mg)(c0:lQ P w K mg base)(c2:jd P w K mg base):Bd' P w K mg base "is_bead" mT nl0 2 lI:=fun hr=>⟨_,(ak (aI (iS (bM K M.n_isinstance (pv 0) (cQ rfl M.n_str cX)) (jO (aw c0 hr rfl (au (aw c2 hr rfl (au (pv 0) af)) af)))))),
  (aJ (gw (be bc (aa (ab 0) (aa (dB fun _ _=>.ty _) ad))) (aV (aa (aV (aa (ab 0) ad)) ad))))⟩
theorem oj(M:Md P w K mg):Bd' P w K mg base "beads_in" kr ["thing","beads","part"] 0 eS:=fun hr=>⟨_,(ae (aP 1 sc_sbeadsin.nd (bi af))
   (ae (fA PassesOwn.never rfl (ci (K:=K) rfl (pv 0)) (cr 2 sc_sbeadsin.nd) (ak (bp (bP (bM K M.n_isinstance (pv 2) (cQ rfl M.n_str cX))) (ak (bZ (cG (pv 1) (pv 2)))) (ak (bZ (d9 PySem.F.plainAttrs_list PySem.F.slot_list_extend PySem.F.type_list_extend (oU (K:=K) rfl rfl) (pv 1) (au (aQ K (pv 2) ai) af)))))))
   (ak (aI (pv 1))))),
  (ar (aG (bj ad))
   (ar (fQ (cj (ab 0)) (bB 2) (bq (cc (be bc (aa (ab 2) (aa (dB fun _ _=>.ty _) ad)))) (b6 (jx bV (aa (ab 2) ad))) (b6 (jx rb (aa (aq bn (ab 2) (aj _)) ad)))))
   (aJ (ab 1))))⟩
theorem kJ(M:Md P w K mg):Bd' P w K mg base "show_strand" gl ["strand","beads"] 0 gO:=fun hr=>⟨_,(ae (aP 1 sc_sshowstrand.nd (d9 PySem.F.plainAttrs_str PySem.F.slot_str_join PySem.F.type_str_join (ga (K:=K) rfl) aD (au (aQ K (pv 0) ai) af)))
   (ak (aI (nl (aW dC (aQ K (pv 0) ai) aD) (mK (cU aD (cU (oW (pv 1)) (cU aD oX)))) (mK (cU aD (cU (oW (pv 1)) (cU aD oX)))))))),
  (ar (aG (gL gb (aF _) (aa (aq bn (ab 0) (aj _)) ad)))
   (aJ (vM (aL (aq cg (aq bn (ab 0) (aj _)) (aF _))) (xy (iA (aF _) (iA (jT oZ (ab 1)) (iA (aF _) sX)))) (xy (iA (aF _) (iA (jT oZ (ab 1)) (iA (aF _) sX)))))))⟩
theorem ol(M:Md P w K mg)(c5:gR P w K mg base):Bd' P w K mg base "show_set" iJ ["some"] 1 kh:=fun hr=>⟨_,(ak (aI (d9 PySem.F.plainAttrs_str PySem.F.slot_str_join PySem.F.type_str_join mn aD (au (cR (eE (osc:=(am iJ)) (ON:=["some"]) (N:=["strand"]) (k:=1) (caps:=[]) (by decide +kernel) rfl rfl) rfl (ci (K:=K) rfl (pv 0)) (fun _ _ _ _=>(cr 0 (by show(["strand"]:List Str).Nodup;decide +kernel))) (fun _ _ _ _=>dE) (fun _ _ _ _=>(aw c5 hr rfl (au (pv 0) af)))) af)))),
  (aJ (gL mC (aF _) (aa (cS (cj (ab 0)) (bB 0) (by decide) fO (aV (aa (ab 0) ad))) ad)))⟩
theorem m9(M:Md P w K mg):Bd' P w K mg base "show_line" i8 ["line","beads"] 0 jm:=fun hr=>⟨_,(ae (aP 1 sc_sshowline.nd (d9 PySem.F.plainAttrs_str PySem.F.slot_str_join PySem.F.type_str_join (ga (K:=K) rfl) aD (au (pv 0) af)))
   (ak (aI (mK (cU aD (cU (oW (pv 1)) (cU aD oX))))))),
  (ar (aG (gL gb (aF _) (aa (ab 0) ad)))
   (aJ (xy (iA (aF _) (iA (jT oZ (ab 1)) (iA (aF _) sX))))))⟩
theorem om(M:Md P w K mg):Bd' P w K mg base "words_of" iK nl8 0 hV:=fun hr=>⟨_,(ae (bp (cw (bP (bM K M.n_isinstance (pv 0) (cQ rfl M.n_str cX)))) (ak fw) aN)
   (ae (aP 2 sc_swordsof.nd (VT.pe_repl (by decide +kernel) (pv 0)))
   (ae (VT.ps_frep (im:=3) (iy:=2) PassesOwn.never rfl (pv 1) sc_swordsof.nd rfl rfl (by first|exact Or.inl rfl|exact Or.inr rfl) (by first|exact Or.inl rfl|exact Or.inr rfl) (by decide) VT.cz_b VT.hz_b)
   (ak (aI (cR (eE (osc:=(am iK)) (ON:=nl8) (N:=["word"]) (k:=1) (caps:=[]) (by decide +kernel) rfl rfl) rfl (ci (K:=K) rfl (d9 PySem.F.plainAttrs_str PySem.F.slot_str_split PySem.F.type_str_split tm (pv 2) (au aD af))) (fun _ _ _ _=>(cr 0 (by show(["word"]:List Str).Nodup;decide +kernel))) (fun _ _ _ _=>uA (aW (dR (K:=K) rfl hr.units) (pv 0) aD)) (fun _ _ _ _=>(pv 0)))))))),
  (ar (bq (b5 (cc (be bc (aa (ab 0) (aa (dB fun _ _=>.ty _) ad))))) fX aO)
   (ar (aG (VT.rd_repl (ab 0)))
   (ar (VT.rs_frep (ab 1))
   (aJ (cS (cj (gL tq (ab 2) (aa (aF _) ad))) (bB 0) (by decide) (aL (aq dS (ab 0) (aF _))) (ab 0))))))⟩
theorem on(M:Md P w K mg)(c3:lR P w K mg base):Bd' P w K mg base "beads_of" iL nl1 3 ki:=fun hr=>⟨_,(ae (bp (cw (bP (fE (jR rfl) rfl M.n_all boot_all (au (cR (eE (osc:=(am iL)) (ON:=nl1) (N:=["word"]) (k:=1) (caps:=[]) (by decide +kernel) rfl rfl) rfl (ci (K:=K) rfl (pv 0)) (fun _ _ _ _=>(cr 0 (by show(["word"]:List Str).Nodup;decide +kernel))) (fun _ _ _ _=>dE) (fun _ _ _ _=>(aw c3 hr rfl (au (pv 0) af)))) af)))) (ak fw) aN)
   (ak (aI (eQ K M.n_tuple (pv 0))))),
  (ar (bq (b5 (cc (be oQ (aa (cS (cj (ab 0)) (bB 0) (by decide) fO (aV (aa (ab 0) ad))) ad)))) fX aO)
   (aJ (be cA (aa (ab 0) ad))))⟩
theorem kK(M:Md P w K mg)(c9:ig P w K mg base):Bd' P w K mg base "read_strand" gm ["words","beads"] 4 gP:=fun hr=>⟨_,(ae (aP 1 sc_sreadstrand.nd (aw c9 hr rfl (au (d8 (mE (K:=K) rfl) (pv 0) (dD ai) (dD (pK lY ai))) af)))
   (ae (bp (PW.pt (gI (gu (o7 (K:=K) rfl) (aQ K (pv 0) ai) (yP rfl M.c_KIND_OF) (by with_unfolding_all rfl)) (gI (aW (dR (K:=K) rfl hr.units) (aQ K (pv 0) (pK lY ai)) (nV (K:=K) rfl rfl M.c_CLOSE_OF (aQ K (pv 0) ai) (fun _ _=>rfl))) (fv (aW dC (dL K M.n_len (pv 1)) ai))))) (ak fw) aN)
   (ak (aI (gW (au (nV (K:=K) rfl rfl M.c_KIND_OF (aQ K (pv 0) ai) (fun _ _=>rfl)) (au (pv 1) af))))))),
  (ar (aG (bK (aa (ee jI (ab 0) (cI (aj _)) (cI (jT mx (aj _)))) ad)))
   (ar (bq (dP (aL (u0 (aq bn (ab 0) (aj _)))) (dP (aL (aq dS (aq bn (ab 0) (jT mx (aj _))) (tv (aq bn (ab 0) (aj _))))) (aL (aq cg (be fV (aa (ab 1) ad)) (aj _))))) fX aO)
   (aJ (gY (aa (tv (aq bn (ab 0) (aj _))) (aa (ab 1) ad))))))⟩
theorem jC(M:Md P w K mg):Bd' P w K mg base "strand_words" eW ["words","groups","group","word"] 0 gf:=fun hr=>⟨_,(ae (aP 1 sc_sstrandwords.nd (bi af))
   (ae (aP 2 sc_sstrandwords.nd (bi af))
   (ae (fA PassesOwn.never rfl (ci (K:=K) rfl (pv 0)) (cr 3 sc_sstrandwords.nd) (ae (bZ (cG (pv 2) (pv 3)))
   (ak (bp (gu (oR (K:=K) rfl) (pv 3) (gW (au aD (au aD af))) (by with_unfolding_all rfl)) (ae (bZ (cG (pv 1) (pv 2)))
   (ak (aP 2 sc_sstrandwords.nd (bi af)))) aN))))
   (ae (bp (aW (dR (K:=K) rfl hr.units) (pv 2) (bi af)) (ak (bZ (cG (pv 1) (pv 2)))) aN)
   (ak (aI (pv 1))))))),
  (ar (aG (bj ad))
   (ar (aG (bj ad))
   (ar (fQ (cj (ab 0)) (bB 3) (ar (b6 (jx bV (aa (ab 3) ad)))
   (bq (aL (aq oS (ab 3) (gY (aa (aF _) (aa (aF _) ad))))) (ar (b6 (jx bV (aa (ab 2) ad)))
   (aG (bj ad))) aO)))
   (ar (bq (aL (aq dS (ab 2) (bj ad))) (b6 (jx bV (aa (ab 2) ad))) aO)
   (aJ (ab 1))))))⟩
theorem jD(M:Md P w K mg)(c2:jd P w K mg base)(c4:kE P w K mg base):Bd' P w K mg base "refuse_twice" eX ["thing","seen","bead","name"] 2 gh:=fun hr=>⟨_,(ae (aP 1 sc_srefusetwice.nd rT)
   (ak (fA PassesOwn.never rfl (ci (K:=K) rfl (aw c4 hr rfl (au (pv 0) af))) (cr 2 sc_srefusetwice.nd) (ae (aP 3 sc_srefusetwice.nd (aw c2 hr rfl (au (pv 2) af)))
   (ae (bp (gu (xC (vG hr)) (pv 3) (pv 1) (by with_unfolding_all rfl)) (ak fw) aN)
   (ak (fz gH (gU (pv 1) (pv 3) (re (vG hr)))))))))),
  (ar (aG tz)
   (fQ (cj (bK (aa (ab 0) ad))) (bB 2) (ar (aG (aV (aa (ab 2) ad)))
   (ar (bq (aL (aq (xB false) (ab 3) (ab 1))) fX aO)
   (gZ rc (gK _) (ab 3))))))⟩
theorem oq(M:Md P w K mg)(c8:ie P w K mg base)(c10:gS P w K mg base)(c11:gq P w K mg base)(c12:dw P w K mg base):Bd' P w K mg base "read_set" iM ["text","some"] 5 kj:=fun hr=>⟨_,(ae (aP 1 sc_sreadset.nd (eQ K M.n_tuple (cR (eE (osc:=(am iM)) (ON:=["text","some"]) (N:=["group"]) (k:=1) (caps:=[]) (by decide +kernel) rfl rfl) rfl (ci (K:=K) rfl (aw c11 hr rfl (au (aw c8 hr rfl (au (pv 0) (au aD af))) af))) (fun _ _ _ _=>(cr 0 (by show(["group"]:List Str).Nodup;decide +kernel))) (fun _ _ _ _=>dE) (fun _ _ _ _=>(aw c10 hr rfl (au (pv 0) af))))))
   (ae (bZ (aw c12 hr rfl (au (pv 1) af)))
   (ak (aI (pv 1))))),
  (ar (aG (be cA (aa (cS (cj (bK (aa (bK (aa (ab 0) (aa (aF _) ad))) ad))) (bB 0) (by decide) fO (bK (aa (ab 0) ad))) ad)))
   (ar (b6 (bK (aa (ab 1) ad)))
   (aJ (ab 1))))⟩
theorem na(M:Md P w K mg)(c8:ie P w K mg base)(c9:ig P w K mg base)(c12:dw P w K mg base):Bd' P w K mg base "read_line" i9 ["text","words","line"] 4 jo:=fun hr=>⟨_,(ae (aP 1 sc_sreadline.nd (aw c8 hr rfl (au (pv 0) (au aD af))))
   (ae (bp (PW.pt (gI (aW sN (dL K M.n_len (pv 1)) ai) (gI (aW (dR (K:=K) rfl hr.units) (aQ K (pv 1) ai) aD) (fv (aW (dR (K:=K) rfl hr.units) (aQ K (pv 1) (pK lY ai)) aD))))) (ak fw) aN)
   (ae (aP 2 sc_sreadline.nd (aw c9 hr rfl (au (d8 (mE (K:=K) rfl) (pv 1) (dD ai) (dD (pK lY ai))) af)))
   (ae (bZ (aw c12 hr rfl (au (pv 2) af)))
   (ak (aI (pv 2))))))),
  (ar (aG (bK (aa (ab 0) (aa (aF _) ad))))
   (ar (bq (dP (aL (aq sO (be fV (aa (ab 1) ad)) (aj _))) (dP (aL (aq dS (aq bn (ab 1) (aj _)) (aF _))) (aL (aq dS (aq bn (ab 1) (jT mx (aj _))) (aF _))))) fX aO)
   (ar (aG (bK (aa (ee jI (ab 1) (cI (aj _)) (cI (jT mx (aj _)))) ad)))
   (ar (b6 (bK (aa (ab 2) ad)))
   (aJ (ab 2))))))⟩
theorem ot(M:Md P w K mg):Bd' P w K mg base "_law_flow" pb nl4 0 kl:=fun hr=>⟨_,(ak (aI (u2 (nW (d6 (eJ (K:=K) rfl rfl) rfl M.n_list cy (au (pv 0) af)) (nW ai (nW ai (nW ai (nW ai u1 rfl) rfl) rfl) rfl) rfl)))),
  (aJ (bj (aa (be iz (aa (ab 0) ad)) (aa (aj _) (aa (aj _) (aa (aj _) (aa (aj _) ad)))))))⟩
theorem ou(M:Md P w K mg):Bd' P w K mg base "_law_pick" pc yW 0 hX:=fun hr=>⟨_,(ae (bp (PW.pt (oB (aW dC (aQ K (pv 0) ai) ai) (lW (aW sN (aQ K (pv 0) ai) (dL K M.n_len (aQ K (pv 0) ai)))))) (ae (aP 2 sc_sLpick.nd (aQ K (aQ K (pv 0) ai) (aQ K (pv 0) ai)))
   (ae (fz (bb K (aQ K (pv 0) ai) ai) (gU (pv 0) ai set_list))
   (ak (bp (aW yi (pv 2) (bJ ww ai ai)) (ak (fz (pv 2) (gU (pv 0) ai set_list))) (ak (fz (bJ fB (bb K (bb K (bJ iw (aQ K (pv 0) ai) ai) (bJ fB (pv 2) ai)) ai) ai) (gU (pv 0) ai set_list))))))) aN)
   (ae (bp (aW yh (aQ K (pv 0) ai) ai) (ae (aP 3 sc_sLpick.nd (bJ fB (aQ K (pv 0) ai) (pv 1)))
   (ae (fz (bJ ij (aQ K (pv 0) ai) (pv 1)) (gU (pv 0) ai set_list))
   (ak (aI (pv 3))))) aN)
   (ae (fz (bb K (aQ K (pv 0) ai) ai) (gU (pv 0) ai set_list))
   (ae (fz (bJ fB (bb K (bb K (bJ iw (aQ K (pv 0) ai) ai) ai) (aQ K (pv 0) ai)) ai) (gU (pv 0) ai set_list))
   (ak (aI (bJ fB (bJ ij (bJ fB (bJ iw (bb K (bJ fB (aQ K (pv 0) ai) ai) ai) (bb K (bJ ij (aQ K (pv 0) ai) ai) ai)) ai) ai) (pv 1)))))))),
  (ar (bq (mo (aL (aq cg (aq bn (ab 0) (aj _)) (aj _))) (aL (aq sO (aq bn (ab 0) (aj _)) (be fV (aa (aq bn (ab 0) (aj _)) ad))))) (ar (aG (aq bn (aq bn (ab 0) (aj _)) (aq bn (ab 0) (aj _))))
   (ar (gZ cY (aq ro_addA (aq bn (ab 0) (aj _)) (aj _)) (aj _))
   (bq (aL (aq yz (ab 2) (aq xb (aj _) (aj _)))) (gZ cY (ab 2) (aj _)) (gZ cY (aq fS (aq ro_addA (aq ro_addA (aq ix (aq bn (ab 0) (aj _)) (aj _)) (aq fS (ab 2) (aj _))) (aj _)) (aj _)) (aj _))))) aO)
   (ar (bq (aL (aq yy (aq bn (ab 0) (aj _)) (aj _))) (ar (aG (aq fS (aq bn (ab 0) (aj _)) (ab 1)))
   (ar (gZ cY (aq jY (aq bn (ab 0) (aj _)) (ab 1)) (aj _))
   (aJ (ab 3)))) aO)
   (ar (gZ cY (aq ro_addA (aq bn (ab 0) (aj _)) (aj _)) (aj _))
   (ar (gZ cY (aq fS (aq ro_addA (aq ro_addA (aq ix (aq bn (ab 0) (aj _)) (aj _)) (aj _)) (aq bn (ab 0) (aj _))) (aj _)) (aj _))
   (aJ (aq fS (aq jY (aq fS (aq ix (aq ro_addA (aq fS (aq bn (ab 0) (aj _)) (aj _)) (aj _)) (aq ro_addA (aq jY (aq bn (ab 0) (aj _)) (aj _)) (aj _))) (aj _)) (aj _)) (ab 1)))))))⟩
theorem kL(M:Md P w K mg)(c16:bU P w K mg base):Bd' P w K mg base "_law_letters" gC nl2 1 gQ:=fun hr=>⟨_,(ak (aI (d9 PySem.F.plainAttrs_str PySem.F.slot_str_join PySem.F.type_str_join mn aD (au (cR (eE (osc:=(am gC)) (ON:=nl2) (N:=["_law_k","_law_flow_here"]) (k:=1) (caps:=[0]) (by decide +kernel) rfl rfl) rfl (iT rfl M.n_range (au (pv 1) af)) (fun _ _ _ _=>(cr 0 (by show(["_law_k","_law_flow_here"]:List Str).Nodup;decide +kernel))) (fun _ _ _ _=>dE) (fun _ _ _ _=>(aQ K aD (aw c16 hr rfl (au (pv 1) (au ai af)))))) af)))),
  (aJ (gL mC (aF _) (aa (cS (mt (aa (ab 1) ad)) (bB 0) (by decide) fO (aq bn (aF _) (bw (aa (aj _) ad)))) ad)))⟩
theorem ox(M:Md P w K mg)(c16:bU P w K mg base)(c17:d5 P w K mg base):Bd' P w K mg base "_law_name" pd yX 2 km:=fun hr=>⟨_,(ae (bp (aW (dR (K:=K) rfl hr.units) (pv 1) aD) (ak (aI (bb K (pv 1) (aw c17 hr rfl (au (pv 0) (au (bb K ai (aw c16 hr rfl (au (pv 0) (au ai af)))) af)))))) aN)
   (@ae _ _ _ _ _ (bp (aW dC (aw c16 hr rfl (au (pv 0) (au ai af))) ai) (@ae _ _ _ _ _ (@aP _ 2 _ _ _ _ _ sc_sLname.nd (@bi _ _ _ _ (@dF _ _ _ (by rfl))) (by rfl) (by first|exact Or.inl rfl|exact Or.inr rfl) (by first|exact .inl rfl|exact .inr rfl) (by rfl) (by rfl) (by rfl))
   (ae (aP 2 sc_sLname.nd (bb K (pv 2) (@bi _ _ _ _ (@dF _ _ _ (by rfl)))))
   (ak (aI (aQ K (pv 2) (aw c16 hr rfl (au (pv 0) (au ai af)))))))) aN)
   (ak (aI (aw c17 hr rfl (au (pv 0) (au (bb K ai (aw c16 hr rfl (au (pv 0) (au ai af)))) af))))))),
  (ar (bq (aL (aq dS (ab 1) (aF _))) (aJ (aq ro_addA (ab 1) (bw (aa (aq ro_addA (aj _) (bw (aa (aj _) ad))) ad)))) aO)
   (ar (bq (aL (aq cg (bw (aa (aj _) ad)) (aj _))) (ar (aG (bj eI))
   (ar (aG (aq ro_addA (ab 2) (bj eI)))
   (aJ (aq bn (ab 2) (bw (aa (aj _) ad)))))) aO)
   (aJ (bw (aa (aq ro_addA (aj _) (bw (aa (aj _) ad))) ad)))))⟩
theorem ng(M:Md P w K mg)(c16:bU P w K mg base)(c17:d5 P w K mg base)(c18:kI P w K mg base):Bd' P w K mg base "_law_names" mU yY 3 gi:=fun hr=>⟨_,(ae (aP 2 sc_sLnames.nd aD)
   (ae (bp (aW dC (aw c16 hr rfl (au (pv 0) (au ai af))) ai) (ak (aP 2 sc_sLnames.nd (aw c17 hr rfl (au (pv 0) (au (bb K ai (aw c16 hr rfl (au (pv 0) (au ai af)))) af))))) aN)
   (ae (aP 3 sc_sLnames.nd (bi af))
   (ae (fA PassesOwn.never rfl (iT rfl M.n_range (au (pv 1) af)) (cr 4 sc_sLnames.nd) (ae (aP 5 sc_sLnames.nd (aw c18 hr rfl (au (pv 0) (au (pv 2) af))))
   (ae (aP 6 sc_sLnames.nd ai)
   (ae (nu PassesOwn.never (gu (oR (K:=K) rfl) (pv 5) (pv 3) (by with_unfolding_all rfl)) (ae (aP 5 sc_sLnames.nd (bJ iw (aQ K aD (bJ fB (pv 6) ai)) (bb K ai (bJ ij (pv 6) ai))))
   (ak (aP 6 sc_sLnames.nd (bb K (pv 6) ai)))))
   (ak (bZ (cG (pv 3) (pv 5))))))))
   (ak (aI (pv 3))))))),
  (ar (aG (aF _))
   (ar (bq (aL (aq cg (bw (aa (aj _) ad)) (aj _))) (aG (bw (aa (aq ro_addA (aj _) (bw (aa (aj _) ad))) ad))) aO)
   (ar (aG (bj ad))
   (ar (fQ (mt (aa (ab 1) ad)) (bB 4) (ar (aG (bw (aa (ab 2) ad)))
   (ar (aG (aj _))
   (ar (nK 200 (aL (aq oS (ab 5) (ab 3))) (ar (aG (aq ix (aq bn (aF _) (aq fS (ab 6) (aj _))) (aq ro_addA (aj _) (aq jY (ab 6) (aj _)))))
   (aG (aq ro_addA (ab 6) (aj _)))))
   (b6 (jx bV (aa (ab 5) ad)))))))
   (aJ (ab 3))))))⟩
theorem jE(M:Md P w K mg)(c16:bU P w K mg base):Bd' P w K mg base "_law_shuffled" hZ yZ 1 gk:=fun hr=>⟨_,(ae (aP 2 sc_sLshuffled.nd (d6 (eJ (K:=K) rfl rfl) rfl M.n_list cy (au (pv 1) af)))
   (ae (aP 3 sc_sLshuffled.nd (bi af))
   (ae (nu PassesOwn.never (aW (dR (K:=K) rfl hr.units) (pv 2) (bi af)) (ak (bZ (cG (pv 3) (d9 PySem.F.plainAttrs_list PySem.F.slot_list_pop PySem.F.type_list_pop r6 (pv 2) (au (aw c16 hr rfl (au (pv 0) (au (dL K M.n_len (pv 2)) af))) af))))))
   (ak (aI (pv 3)))))),
  (ar (aG (be iz (aa (ab 1) ad)))
   (ar (aG (bj ad))
   (ar (nK 300 (aL (aq dS (ab 2) (bj ad))) (b6 (jx bV (aa (jx sM (aa (bw (aa (be fV (aa (ab 2) ad)) ad)) ad)) ad))))
   (aJ (ab 3)))))⟩
theorem oy(M:Md P w K mg)(c16:bU P w K mg base)(c20:gr P w K mg base):Bd' P w K mg base "_law_line" mV nl7 2 kn:=fun hr=>⟨_,(ak (aI (eQ K M.n_tuple (cR (eE (osc:=(am mV)) (ON:=nl7) (N:=["_law_name_here","_law_flow_here"]) (k:=1) (caps:=[0]) (by decide +kernel) rfl rfl) rfl (ci (K:=K) rfl (aw c20 hr rfl (au (pv 0) (au (pv 1) af)))) (fun _ _ _ _=>(cr 0 (by show(["_law_name_here","_law_flow_here"]:List Str).Nodup;decide +kernel))) (fun _ _ _ _=>dE) (fun _ _ _ _=>(bb K (bJ iw aD (aw c16 hr rfl (au (pv 1) (au ai af)))) (pv 0))))))),
  (aJ (be cA (aa (cS (cj (bw (aa (ab 1) ad))) (bB 0) (by decide) fO (aq ro_addA (aq ix (aF _) (bw (aa (aj _) ad))) (ab 0))) ad)))⟩
theorem pG(M:Md P w K mg)(c16:bU P w K mg base)(c21:ii P w K mg base):Bd' P w K mg base "_law_set" tO y0 3 i5:=fun hr=>⟨_,(ae (aP 3 sc_sLset.nd (bi af))
   (ae (aP 4 sc_sLset.nd (bi af))
   (ae (fA PassesOwn.never rfl (ci (K:=K) rfl (aw c21 hr rfl (au (pv 0) (au (pv 1) af)))) (cr 5 sc_sLset.nd) (ae (bZ (cG (pv 4) (pv 5)))
   (ak (bp (aW dC (aw c16 hr rfl (au (pv 0) (au ai af))) ai) (ae (bZ (cG (pv 3) (gW (au aD (au (eQ K M.n_tuple (pv 4)) af)))))
   (ak (aP 4 sc_sLset.nd (bi af)))) (ak (bp (PW.pt (oB (bP (pv 2)) (lW (aW dC (aw c16 hr rfl (au (pv 0) (au ai af))) ai)))) (ae (bZ (cG (pv 3) (gW (au aD (au (eQ K M.n_tuple (pv 4)) af)))))
   (ak (aP 4 sc_sLset.nd (bi af)))) aN))))))
   (ae (bp (aW (dR (K:=K) rfl hr.units) (pv 4) (bi af)) (ak (bZ (cG (pv 3) (gW (au aD (au (eQ K M.n_tuple (pv 4)) af)))))) aN)
   (ak (aI (eQ K M.n_tuple (pv 3)))))))),
  (ar (aG (bj ad))
   (ar (aG (bj ad))
   (ar (fQ (cj (bw (aa (ab 1) ad))) (bB 5) (ar (b6 (jx bV (aa (ab 5) ad)))
   (bq (aL (aq cg (bw (aa (aj _) ad)) (aj _))) (ar (b6 (jx bV (aa (gY (aa (aF _) (aa (be cA (aa (ab 4) ad)) ad))) ad)))
   (aG (bj ad))) (bq (mo (cc (ab 2)) (aL (aq cg (bw (aa (aj _) ad)) (aj _)))) (ar (b6 (jx bV (aa (gY (aa (aF _) (aa (be cA (aa (ab 4) ad)) ad))) ad)))
   (aG (bj ad))) aO))))
   (ar (bq (aL (aq dS (ab 4) (bj ad))) (b6 (jx bV (aa (gY (aa (aF _) (aa (be cA (aa (ab 4) ad)) ad))) ad))) aO)
   (aJ (be cA (aa (ab 3) ad)))))))⟩
theorem nh{n:Nat}{gs:List D->Option Rz}(M:Md P w K mg)(c23:Cal P w K mg base "_law_alike" n nl5 (spV K gs)):Bd' P w K mg base "_law_alike" jL nl5 n (jp gs):=fun hr=>⟨_,(ae (bp (aW rM (pv 1) rF) (ak (aI (iB rM (pv 0) rF))) aN)
   (ae (bp (PW.pt (gI (bP (bM K M.n_isinstance (pv 1) (cQ rfl M.n_bool eu))) (fv (bP (bM K M.n_isinstance (pv 0) (cQ rfl M.n_bool eu)))))) (ak (aI (iS (bM K M.n_isinstance (pv 1) (cQ rfl M.n_bool eu)) (iS (bM K M.n_isinstance (pv 0) (cQ rfl M.n_bool eu)) (jO (iB dC (pv 0) (pv 1))))))) aN)
   (ae (bp (bP (bM K M.n_isinstance (pv 1) (cQ rfl M.n_int le))) (ak (aI (iS (bM K M.n_isinstance (pv 0) (cQ rfl M.n_int le)) (jO (iB dC (pv 0) (pv 1)))))) aN)
   (ae (bp (bP (bM K M.n_isinstance (pv 1) (cQ rfl M.n_str cX))) (ak (aI (iS (bM K M.n_isinstance (pv 0) (cQ rfl M.n_str cX)) (jO (iB dC (pv 0) (pv 1)))))) aN)
   (ae (bp (PW.pt (gI (aW (dR (K:=K) rfl hr.units) (bM K M.n_isinstance (pv 1) (cQ rfl M.n_tuple fN)) (bM K M.n_isinstance (pv 0) (cQ rfl M.n_tuple fN))) (fv (aW (dR (K:=K) rfl hr.units) (bM K M.n_isinstance (pv 1) (cQ rfl M.n_list cy)) (bM K M.n_isinstance (pv 0) (cQ rfl M.n_list cy)))))) (ak (aI gH)) aN)
   (ak (aI (iS (iB dC (dL K M.n_len (pv 0)) (dL K M.n_len (pv 1))) (jO (fE (jR rfl) rfl M.n_all boot_all (au (cR (eE (osc:=(am jL)) (ON:=nl5) (N:=["_law_k","_law_found","_law_due"]) (k:=1) (caps:=[0,1]) (by decide +kernel) rfl rfl) rfl (iT rfl M.n_range (au (dL K M.n_len (pv 1)) af)) (fun _ _ _ _=>(cr 0 (by show(["_law_k","_law_found","_law_due"]:List Str).Nodup;decide +kernel))) (fun _ _ _ _=>dE) (fun _ _ _ _=>(aw c23 hr rfl (au (aQ K (pv 1) (pv 0)) (au (aQ K (pv 2) (pv 0)) af)) (Wa _)))) af))))))))))),
  (ar (bq (aL (aq sD (ab 1) sj)) (aJ (aq sD (ab 0) sj)) aO)
   (ar (bq (dP (cc (be bc (aa (ab 1) (aa (dB fun _ _=>.ty _) ad)))) (cc (be bc (aa (ab 0) (aa (dB fun _ _=>.ty _) ad))))) (aJ (gw (be bc (aa (ab 1) (aa (dB fun _ _=>.ty _) ad))) (gw (be bc (aa (ab 0) (aa (dB fun _ _=>.ty _) ad))) (aq cg (ab 0) (ab 1))))) aO)
   (ar (bq (cc (be bc (aa (ab 1) (aa (dB fun _ _=>.ty _) ad)))) (aJ (gw (be bc (aa (ab 0) (aa (dB fun _ _=>.ty _) ad))) (aq cg (ab 0) (ab 1)))) aO)
   (ar (bq (cc (be bc (aa (ab 1) (aa (dB fun _ _=>.ty _) ad)))) (aJ (gw (be bc (aa (ab 0) (aa (dB fun _ _=>.ty _) ad))) (aq cg (ab 0) (ab 1)))) aO)
   (ar (bq (dP (aL (aq dS (be bc (aa (ab 1) (aa (dB fun _ _=>.ty _) ad))) (be bc (aa (ab 0) (aa (dB fun _ _=>.ty _) ad))))) (aL (aq dS (be bc (aa (ab 1) (aa (dB fun _ _=>.ty _) ad))) (be bc (aa (ab 0) (aa (dB fun _ _=>.ty _) ad)))))) (aJ (gK _)) aO)
   (aJ (gw (aq cg (be fV (aa (ab 0) ad)) (be fV (aa (ab 1) ad))) (be oQ (aa (cS (mt (aa (be fV (aa (ab 1) ad)) ad)) (bB 0) (by decide) fO (aV (aa (aq bn (ab 1) (ab 0)) (aa (aq bn (ab 2) (ab 0)) ad)))) ad)))))))))⟩
theorem kR(M:Md P w K mg):Bd' P w K mg base "_law_tokens" ku y2 0 iH:=fun hr=>⟨_,(ae (aP 1 sc_sLtokens.nd (bi af))
   (ae (fA PassesOwn.never rfl (ci (K:=K) rfl (pv 0)) (uV (K:=K) (n:=2) rfl rfl (nr (cr 2 sc_sLtokens.nd) (nr (cr 3 sc_sLtokens.nd) uo))) (ae (aP 4 sc_sLtokens.nd (bi (au aD (au aD af))))
   (ae (bp (aW dC (pv 2) aD) (ak (aP 4 sc_sLtokens.nd (bi (au aD (au aD af))))) aN)
   (ak (aP 1 sc_sLtokens.nd (bJ (eO (K:=K) rfl) (bJ (eO (K:=K) rfl) (bJ (eO (K:=K) rfl) (pv 1) (d8 (mL (K:=K) rfl) (pv 4) jG (dD ai))) (d6 (eJ (K:=K) rfl rfl) rfl M.n_list cy (au (pv 3) af))) (d8 (mL (K:=K) rfl) (pv 4) (dD ai) jG)))))))
   (ak (aI (pv 1))))),
  (ar (aG (bj ad))
   (ar (fQ (cj (ab 0)) (wW (nJ (bB 2) (nJ (bB 3) uI))) (ar (aG (bj (aa (aF _) (aa (aF _) ad))))
   (ar (bq (aL (aq cg (ab 2) (aF _))) (aG (bj (aa (aF _) (aa (aF _) ad)))) aO)
   (aG (aq eP (aq eP (aq eP (ab 1) (ee j7 (ab 4) mB (cI (aj _)))) (be iz (aa (ab 3) ad))) (ee j7 (ab 4) (cI (aj _)) mB))))))
   (aJ (ab 1))))⟩
theorem kS(M:Md P w K mg)(c16:bU P w K mg base):Bd' P w K mg base "_law_spaced" kw y4 1 iI:=fun hr=>⟨_,(ae (aP 2 sc_sLspaced.nd aD)
   (ae (aP 3 sc_sLspaced.nd gH)
   (@ae _ _ _ _ _ (fA PassesOwn.never rfl (ci (K:=K) rfl (pv 1)) (cr 4 sc_sLspaced.nd) (@ae _ _ _ _ _ (@aP _ 5 _ _ _ _ _ sc_sLspaced.nd (@bi _ _ _ _ (@dF _ _ _ (by rfl))) (by rfl) (by first|exact Or.inl rfl|exact Or.inr rfl) (by first|exact .inl rfl|exact .inr rfl) (by rfl) (by rfl) (by rfl))
   (@ae _ _ _ _ _ (bp (PW.pt (oB (bP (pv 3)) (lW (gu (lj (K:=K) rfl) (pv 4) (@bi _ _ _ _ (@dF _ _ _ (by rfl))) (by with_unfolding_all rfl))))) (ak (@aP _ 5 _ _ _ _ _ sc_sLspaced.nd (@bi _ _ _ _ (@dF _ _ _ (by rfl))) (by rfl) (by first|exact Or.inl rfl|exact Or.inr rfl) (by first|exact .inl rfl|exact .inr rfl) (by rfl) (by rfl) (by rfl))) aN)
   (ae (aP 2 sc_sLspaced.nd (bb K (bb K (pv 2) (aQ K (pv 5) (aw c16 hr rfl (au (pv 0) (au ai af))))) (pv 4)))
   (ak (aP 3 sc_sLspaced.nd (lZ (lj (K:=K) rfl) (pv 4) (@bi _ _ _ _ (@dF _ _ _ (by rfl))) (by with_unfolding_all rfl))))))))
   (ak (aI (bb K (pv 2) (aQ K (@bi _ _ _ _ (@dF _ _ _ (by rfl))) (aw c16 hr rfl (au (pv 0) (au ai af)))))))))),
  (ar (aG (aF _))
   (ar (aG (gK _))
   (ar (fQ (cj (ab 1)) (bB 4) (ar (aG (bj eI))
   (ar (bq (mo (cc (ab 3)) (aL (aq ll (ab 4) (bj eI)))) (aG (bj eI)) aO)
   (ar (aG (aq ro_addA (aq ro_addA (ab 2) (aq bn (ab 5) (bw (aa (aj _) ad)))) (ab 4)))
   (aG (aq ll (ab 4) (bj eI)))))))
   (aJ (aq ro_addA (ab 2) (aq bn (bj eI) (bw (aa (aj _) ad))))))))⟩
theorem gG(M:Md P w K mg):Bd' P w K mg base "_law_shown_strand" dY nl6 0 dr:=fun hr=>⟨_,(ae (bp (aW dC (aQ K (pv 0) ai) aD) (ak (aI (bb K (bb K aD (d9 PySem.F.plainAttrs_str PySem.F.slot_str_join PySem.F.type_str_join (ga (K:=K) rfl) aD (au (aQ K (pv 0) ai) af))) aD))) aN)
   (ak (aI (bb K (bb K aD (d9 PySem.F.plainAttrs_str PySem.F.slot_str_join PySem.F.type_str_join (ga (K:=K) rfl) aD (au (aQ K (pv 0) ai) af))) aD)))),
  (ar (bq (aL (aq cg (aq bn (ab 0) (aj _)) (aF _))) (aJ (aq ro_addA (aq ro_addA (aF _) (gL gb (aF _) (aa (aq bn (ab 0) (aj _)) ad))) (aF _))) aO)
   (aJ (aq ro_addA (aq ro_addA (aF _) (gL gb (aF _) (aa (aq bn (ab 0) (aj _)) ad))) (aF _))))⟩
theorem je(M:Md P w K mg)(c6:kF P w K mg base)(c13:kG P w K mg base)(c23:gt P w K mg base)(c24:iQ P w K mg base)(c25:eZ P w K mg base)(c26:dA P w K mg base):Bd' P w K mg base "_law_set_holds" eY nl9 6 fk:=fun hr=>⟨_,(ae (aP 2 sc_sLsetholds.nd (d9 PySem.F.plainAttrs_str PySem.F.slot_str_join PySem.F.type_str_join mn aD (au (cR (eE (osc:=(am eY)) (ON:=nl9) (N:=nl6) (k:=1) (caps:=[]) (by decide +kernel) rfl rfl) rfl (ci (K:=K) rfl (pv 1)) (fun _ _ _ _=>(cr 0 (by show(nl6:List Str).Nodup;decide +kernel))) (fun _ _ _ _=>dE) (fun _ _ _ _=>(aw c26 hr rfl (au (pv 0) af)))) af)))
   (ae (bp (PW.pt (gI (cw (bP (aw c23 hr rfl (au (aw c6 hr rfl (au (pv 1) af)) (au (pv 2) af))))) (fv (cw (bP (aw c23 hr rfl (au (aw c13 hr rfl (au (pv 2) af)) (au (pv 1) af)))))))) (ak (aI gH)) aN)
   (ae (fA PassesOwn.never rfl (ci (K:=K) rfl (pv 1)) (cr 3 sc_sLsetholds.nd) (ae (bp (cw (bP (aw c23 hr rfl (au (aw c6 hr rfl (au (gW (au (pv 3) af)) af)) (au (aw c26 hr rfl (au (pv 3) af)) af))))) (ak (aI gH)) aN)
   (ak (bp (cw (bP (aw c23 hr rfl (au (aw c13 hr rfl (au (aw c26 hr rfl (au (pv 3) af)) af)) (au (gW (au (pv 3) af)) af))))) (ak (aI gH)) aN))))
   (ak (aI (aw c23 hr rfl (au (aw c13 hr rfl (au (aw c25 hr rfl (au (pv 0) (au (aw c24 hr rfl (au (pv 1) af)) af))) af)) (au (pv 1) af)))))))),
  (ar (aG (gL mC (aF _) (aa (cS (cj (ab 1)) (bB 0) (by decide) fO (aV (aa (ab 0) ad))) ad)))
   (ar (bq (dP (b5 (cc (aV (aa (aV (aa (ab 1) ad)) (aa (ab 2) ad))))) (b5 (cc (aV (aa (bK (aa (ab 2) ad)) (aa (ab 1) ad)))))) (aJ (gK _)) aO)
   (ar (fQ (cj (ab 1)) (bB 3) (ar (bq (b5 (cc (aV (aa (aV (aa (gY (aa (ab 3) ad)) ad)) (aa (aV (aa (ab 3) ad)) ad))))) (aJ (gK _)) aO)
   (bq (b5 (cc (aV (aa (bK (aa (aV (aa (ab 3) ad)) ad)) (aa (gY (aa (ab 3) ad)) ad))))) (aJ (gK _)) aO)))
   (aJ (aV (aa (bK (aa (bw (aa (bK (aa (ab 1) ad)) ad)) ad)) (aa (ab 1) ad)))))))⟩
theorem iR(M:Md P w K mg)(c7:js P w K mg base)(c14:jt P w K mg base)(c23:gt P w K mg base)(c25:eZ P w K mg base):Bd' P w K mg base "_law_line_holds" gn y7 5 eg:=fun hr=>⟨_,(ae (aP 2 sc_sLlineholds.nd (bJ (eO (K:=K) rfl) (bJ (eO (K:=K) rfl) aD (d9 PySem.F.plainAttrs_str PySem.F.slot_str_join PySem.F.type_str_join (ga (K:=K) rfl) aD (au (pv 1) af))) aD))
   (ae (bp (PW.pt (gI (cw (bP (aw c23 hr rfl (au (aw c7 hr rfl (au (pv 1) af)) (au (pv 2) af))))) (fv (cw (bP (aw c23 hr rfl (au (aw c14 hr rfl (au (pv 2) af)) (au (pv 1) af)))))))) (ak (aI gH)) aN)
   (ak (aI (aw c23 hr rfl (au (aw c14 hr rfl (au (aw c25 hr rfl (au (pv 0) (au (bJ (eO (K:=K) rfl) (bJ (eO (K:=K) rfl) (bi (au aD af)) (d6 (eJ (K:=K) rfl rfl) rfl M.n_list cy (au (pv 1) af))) (bi (au aD af))) af))) af)) (au (pv 1) af))))))),
  (ar (aG (aq eP (aq eP (aF _) (gL gb (aF _) (aa (ab 1) ad))) (aF _)))
   (ar (bq (dP (b5 (cc (aV (aa (aV (aa (ab 1) ad)) (aa (ab 2) ad))))) (b5 (cc (aV (aa (bK (aa (ab 2) ad)) (aa (ab 1) ad)))))) (aJ (gK _)) aO)
   (aJ (aV (aa (bK (aa (bw (aa (aq eP (aq eP (bj (aa (aF _) ad)) (be iz (aa (ab 1) ad))) (bj (aa (aF _) ad))) ad)) ad)) (aa (ab 1) ad))))))⟩
theorem xY(M:Md P w K mg)(c15:kH P w K mg base)(c16:bU P w K mg base)(c19:ju P w K mg base)(c21:ii P w K mg base)(c22:lS P w K mg base)(c27:fq P w K mg base)(c28:eh P w K mg base):Bd' P w K mg base "law" xH y8 7 tN:=fun hr=>⟨_,(ae (aP 1 sc_slaw.nd (aw c15 hr rfl (au (pv 0) af)))
   (ae (aP 2 sc_slaw.nd (aw c16 hr rfl (au (pv 1) (au ai af))))
   (ae (bp (aW dC (aw c16 hr rfl (au (pv 1) (au ai af))) ai) (ak (aP 2 sc_slaw.nd (bJ wv ai (aw c16 hr rfl (au (pv 1) (au ai af)))))) aN)
   (ae (aP 3 sc_slaw.nd (aw c19 hr rfl (au (pv 1) (au (pv 2) af))))
   (ae (bp (cw (bP (aw c27 hr rfl (au (pv 1) (au (uE c22 hr rfl (au (pv 1) (au (pv 3) af))) af))))) (ak (aI gH)) aN)
   (ae (aP 4 sc_slaw.nd (aw c21 hr rfl (au (pv 1) (au (pv 3) af))))
   (ae (bp (PW.pt (gI (cw (bP (aw c28 hr rfl (au (pv 1) (au (pv 4) af))))) (fv (cw (bP (aw c28 hr rfl (au (pv 1) (au (aw c21 hr rfl (au (pv 1) (au (d8 (mL (K:=K) rfl) (pv 3) jG (dD (bJ ij (pv 2) ai))) af))) af)))))))) (ak (aI gH)) aN)
   (ak (aI (aw c28 hr rfl (au (pv 1) (au (pv 4) af)))))))))))),
  (ar (aG (bK (aa (ab 0) ad)))
   (ar (aG (bw (aa (aj _) ad)))
   (ar (bq (aL (aq cg (bw (aa (aj _) ad)) (aj _))) (aG (aq xa (aj _) (bw (aa (aj _) ad)))) aO)
   (ar (aG (bw (aa (ab 2) ad)))
   (ar (bq (b5 (cc (bw (aa (xu (fun _ _=>El.one (.bl _)) (aa (ab 3) ad)) ad)))) (aJ (gK _)) aO)
   (ar (aG (bw (aa (ab 3) ad)))
   (ar (bq (dP (b5 (cc (bw (aa (ab 4) ad)))) (b5 (cc (bw (aa (bw (aa (ee j7 (ab 3) mB (cI (aq jY (ab 2) (aj _)))) ad)) ad))))) (aJ (gK _)) aO)
   (aJ (bw (aa (ab 4) ad))))))))))⟩
end
set_option maxHeartbeats 0 in
theorem all_mk{l:PySem.W.OpenLaw}{w:World}{K:PySem.W.Frag}{h:Heap}{mg:Str->Option Value}{fa:Addr}(X:K.In h)(G:h.Ns mainGlobals mg)(hfa:mg "law"=some (.ref fa))
  (h1:FH K "is_name" jK)(h2:FH K "is_turned" i7)(h3:FH K "name_of" mR)(h4:FH K "is_bead" mT)(h5:FH K "beads_in" kr)(h6:FH K "show_strand" gl)(h7:FH K "show_set" iJ)(h8:FH K "show_line" i8)(h9:FH K "words_of" iK)(h10:FH K "beads_of" iL)(h11:FH K "read_strand" gm)(h12:FH K "strand_words" eW)(h13:FH K "refuse_twice" eX)(h14:FH K "read_set" iM)(h15:FH K "read_line" i9)(h16:FH K "_law_flow" pb)(h17:FH K "_law_pick" pc)(h18:FH K "_law_letters" gC)(h19:FH K "_law_name" pd)(h20:FH K "_law_names" mU)(h21:FH K "_law_shuffled" hZ)(h22:FH K "_law_line" mV)(h23:FHD K "_law_set" tO [.bool true])(h24:FH K "_law_alike" jL)(h25:FH K "_law_tokens" ku)(h26:FH K "_law_spaced" kw)(h27:FH K "_law_shown_strand" dY)(h28:FH K "_law_set_holds" eY)(h29:FH K "_law_line_holds" gn)(h30:FH K "law" xH){ct_LETTERS:Tok}(cv_LETTERS:PySem.W.nsIn K mainGlobals "LETTERS"=some (some (.str "abcdefghijklmnopqrstuvwxyz" ct_LETTERS))){ct_LONGEST_NAME:Tok}(cv_LONGEST_NAME:PySem.W.nsIn K mainGlobals "LONGEST_NAME"=some (some (.int 6 ct_LONGEST_NAME))){cA_KIND_OF:Addr}(ca_KIND_OF:PySem.W.nsIn K mainGlobals "KIND_OF"=some (some (.ref cA_KIND_OF)))(cg_KIND_OF:GD l.prog w K cA_KIND_OF [("[","open"),("(","ring")]){cA_CLOSE_OF:Addr}(ca_CLOSE_OF:PySem.W.nsIn K mainGlobals "CLOSE_OF"=some (some (.ref cA_CLOSE_OF)))(cg_CLOSE_OF:GD l.prog w K cA_CLOSE_OF [("[","]"),("(",")")])
  (z_all:PySem.W.nsIn K mainGlobals "all"=some none) (z_bool:PySem.W.nsIn K mainGlobals "bool"=some none) (z_int:PySem.W.nsIn K mainGlobals "int"=some none) (z_isinstance:PySem.W.nsIn K mainGlobals "isinstance"=some none) (z_len:PySem.W.nsIn K mainGlobals "len"=some none) (z_list:PySem.W.nsIn K mainGlobals "list"=some none) (z_range:PySem.W.nsIn K mainGlobals "range"=some none) (z_str:PySem.W.nsIn K mainGlobals "str"=some none) (z_tuple:PySem.W.nsIn K mainGlobals "tuple"=some none) :
  ∃fd:FuncData,(∀(s:Shared)(v:Value),BindsTo s fd ⟨[v],[]⟩ [("_law_script",v)])/\∀base:Heap,K.In base->base.Ns mainGlobals mg->FnOk l.prog w K mg base CX0 8 fa fd nl4 (qj K):=by
 have M:Md l.prog w K mg:=⟨PySem.W.mg_none_of X G z_all,PySem.W.mg_none_of X G z_bool,PySem.W.mg_none_of X G z_int,PySem.W.mg_none_of X G z_isinstance,PySem.W.mg_none_of X G z_len,PySem.W.mg_none_of X G z_list,PySem.W.mg_none_of X G z_range,PySem.W.mg_none_of X G z_str,PySem.W.mg_none_of X G z_tuple,⟨_,PySem.W.mg_of X G cv_LETTERS⟩,⟨_,PySem.W.mg_of X G cv_LONGEST_NAME⟩,⟨_,PySem.W.mg_of X G ca_KIND_OF,cg_KIND_OF⟩,⟨_,PySem.W.mg_of X G ca_CLOSE_OF,cg_CLOSE_OF⟩⟩;refine h30.law X G hfa sc_slaw (fun _ _ _ _ _ _=>ar1 fun _=>rfl) vq fun base=>?_;have c0:lQ l.prog w K mg base:=h1.cal X G pe (fun _ _ _ _ _ _=>ar1 fun _=>rfl) (pD M);have c1:jr l.prog w K mg base:=h2.cal X G mW (fun _ _ _ _ _ _=>ar1 fun _=>rfl) (m8 M);have c2:jd l.prog w K mg base:=h3.cal X G pf (fun _ _ _ _ _ _=>ar1 fun _=>rfl) (pE M c1);have c3:lR l.prog w K mg base:=h4.cal X G ph (fun _ _ _ _ _ _=>ar1 fun _=>rfl) (pF M c0 c2);have c4:kE l.prog w K mg base:=h5.cal X G sc_sbeadsin (fun _ _ _ _ _ _=>ar1 fun _=>rfl) (oj M);have c5:gR l.prog w K mg base:=h6.cal X G sc_sshowstrand (fun _ _ _ _ _ _=>ar1 fun _=>rfl) (kJ M);have c6:kF l.prog w K mg base:=h7.cal X G n4 (fun _ _ _ _ _ _=>ar1 fun _=>rfl) (ol M c5);have c7:js l.prog w K mg base:=h8.cal X G sc_sshowline (fun _ _ _ _ _ _=>ar1 fun _=>rfl) (m9 M);have c8:ie l.prog w K mg base:=h9.cal X G sc_swordsof (fun _ _ _ _ _ _=>ar2 fun _ _=>rfl) (om M);have c9:ig l.prog w K mg base:=h10.cal X G n5 (fun _ _ _ _ _ _=>ar1 fun _=>rfl) (on M c3);have c10:gS l.prog w K mg base:=h11.cal X G sc_sreadstrand (fun _ _ _ _ _ _=>ar1 fun _=>rfl) (kK M c9);have c11:gq l.prog w K mg base:=h12.cal X G sc_sstrandwords (fun _ _ _ _ _ _=>ar1 fun _=>rfl) (jC M);have c12:dw l.prog w K mg base:=h13.cal X G sc_srefusetwice (fun _ _ _ _ _ _=>ar1 fun _=>rfl) (jD M c2 c4);have c13:kG l.prog w K mg base:=h14.cal X G sc_sreadset (fun _ _ _ _ _ _=>ar1 fun _=>rfl) (oq M c8 c10 c11 c12);have c14:jt l.prog w K mg base:=h15.cal X G sc_sreadline (fun _ _ _ _ _ _=>ar1 fun _=>rfl) (na M c8 c9 c12);have c15:kH l.prog w K mg base:=h16.cal X G rj (fun _ _ _ _ _ _=>ar1 fun _=>rfl) (ot M);have c16:bU l.prog w K mg base:=h17.calI X G sc_sLpick (fun _ _ _ _ _ _=>ar2 fun _ _=>rfl) (ou M);have c17:d5 l.prog w K mg base:=h18.calI X G mX (fun _ _ _ _ _ _=>ar2 fun _ _=>rfl) (kL M c16);have c18:kI l.prog w K mg base:=h19.calI X G sc_sLname (fun _ _ _ _ _ _=>ar2 fun _ _=>rfl) (ox M c16 c17);have c19:ju l.prog w K mg base:=h20.calI X G sc_sLnames (fun _ _ _ _ _ _=>ar2 fun _ _=>rfl) (ng M c16 c17 c18);have c20:gr l.prog w K mg base:=h21.calI X G sc_sLshuffled (fun _ _ _ _ _ _=>ar2 fun _ _=>rfl) (jE M c16)
 have c21:ii l.prog w K mg base:=h22.calI X G rl (fun _ _ _ _ _ _=>ar2 fun _ _=>rfl) (oy M c16 c20);have c22:lS l.prog w K mg base:=h23.calI X G sc_sLset (fun _ _ _ _ _ _ _ us hl=>match us,(show us.length=2 by simpa using hl) with|[_,_],_=>⟨_,rfl,rfl⟩) (.cons rfl .nil) (pG M c16 c21)
 have c23:gt l.prog w K mg base:=h24.alike X G pi (fun _ _ _ _ _ _=>ar2 fun _ _=>rfl) 20 (fun n u h=>rm h) (fun n gs hn=>nh M) 4 (by decide)
 have c24:iQ l.prog w K mg base:=h25.cal X G sc_sLtokens (fun _ _ _ _ _ _=>ar1 fun _=>rfl) (kR M);have c25:eZ l.prog w K mg base:=h26.calI X G sc_sLspaced (fun _ _ _ _ _ _=>ar2 fun _ _=>rfl) (kS M c16);have c26:dA l.prog w K mg base:=h27.cal X G ja (fun _ _ _ _ _ _=>ar1 fun _=>rfl) (gG M);have c27:fq l.prog w K mg base:=h28.calI X G sc_sLsetholds (fun _ _ _ _ _ _=>ar2 fun _ _=>rfl) (je M c6 c13 c23 c24 c25 c26);have c28:eh l.prog w K mg base:=h29.calI X G sc_sLlineholds (fun _ _ _ _ _ _=>ar2 fun _ _=>rfl) (iR M c7 c14 c23 c25);intro _ _ _ _ _ _ _;exact xY M c15 c16 c19 c21 c22 c27 c28
end K04
open PySem PySem.W PyProof.Rows
set_option tactic.hygienic true
set_option maxRecDepth 100000 in
set_option maxHeartbeats 0 in
theorem PySem.Challenge.cw_strandwright_k04_whole_written_and_read_holds : PySem.Challenge.rw_strandwright_k04_whole_written_and_read.Holds := by
 w_on;o_law;z_head;(case hw=>w_witness2)
 k_fill
 refine VF.walkZ (l:=PySem.Challenge.rw_strandwright_k04_whole_written_and_read) (k:=8) rfl rfl ⟨rfl,by decide,by decide⟩ (by decide) ?K ?F
 case K=>intro _;rfl
 case F =>
  intro w mg fa h KX G hmg;refine' K04.all_mk KX G hmg (VF.fh ?a1 ?l1 ?c1 ?k1) (VF.fh ?a2 ?l2 ?c2 ?k2) (VF.fh ?a3 ?l3 ?c3 ?k3) (VF.fh ?a4 ?l4 ?c4 ?k4) (VF.fh ?a5 ?l5 ?c5 ?k5) (VF.fh ?a6 ?l6 ?c6 ?k6) (VF.fh ?a7 ?l7 ?c7 ?k7) (VF.fh ?a8 ?l8 ?c8 ?k8) (VF.fh ?a9 ?l9 ?c9 ?k9) (VF.fh ?a10 ?l10 ?c10 ?k10) (VF.fh ?a11 ?l11 ?c11 ?k11) (VF.fh ?a12 ?l12 ?c12 ?k12) (VF.fh ?a13 ?l13 ?c13 ?k13) (VF.fh ?a14 ?l14 ?c14 ?k14) (VF.fh ?a15 ?l15 ?c15 ?k15) (VF.fh ?a16 ?l16 ?c16 ?k16) (VF.fh ?a17 ?l17 ?c17 ?k17) (VF.fh ?a18 ?l18 ?c18 ?k18) (VF.fh ?a19 ?l19 ?c19 ?k19) (VF.fh ?a20 ?l20 ?c20 ?k20) (VF.fh ?a21 ?l21 ?c21 ?k21) (VF.fh ?a22 ?l22 ?c22 ?k22) (VF22.fhd ?a23 ?l23 ?c23 ?k23 ?t23) (VF.fh ?a24 ?l24 ?c24 ?k24) (VF.fh ?a25 ?l25 ?c25 ?k25) (VF.fh ?a26 ?l26 ?c26 ?k26) (VF.fh ?a27 ?l27 ?c27 ?k27) (VF.fh ?a28 ?l28 ?c28 ?k28) (VF.fh ?a29 ?l29 ?c29 ?k29) (VF.fh ?a30 ?l30 ?c30 ?k30) ?cv_LETTERS ?cv_LONGEST_NAME ?ca_KIND_OF (VF22.gd_mk2 ?cb_KIND_OF ?cc_KIND_OF ?cd_KIND_OF) ?ca_CLOSE_OF (VF22.gd_mk2 ?cb_CLOSE_OF ?cc_CLOSE_OF ?cd_CLOSE_OF) ?z_all ?z_bool ?z_int ?z_isinstance ?z_len ?z_list ?z_range ?z_str ?z_tuple
  (case a1=>k_is)
  (case l1=>k_is)
  (case c1=>k_is)
  (case k1=>k_is)
  (case a2=>k_is)
  (case l2=>k_is)
  (case c2=>k_is)
  (case k2=>k_is)
  (case a3=>k_is)
  (case l3=>k_is)
  (case c3=>k_is)
  (case k3=>k_is)
  (case a4=>k_is)
  (case l4=>k_is)
  (case c4=>k_is)
  (case k4=>k_is)
  (case a5=>k_is)
  (case l5=>k_is)
  (case c5=>k_is)
  (case k5=>k_is)
  (case a6=>k_is)
  (case l6=>k_is)
  (case c6=>k_is)
  (case k6=>k_is)
  (case a7=>k_is)
  (case l7=>k_is)
  (case c7=>k_is)
  (case k7=>k_is)
  (case a8=>k_is)
  (case l8=>k_is)
  (case c8=>k_is)
  (case k8=>k_is)
  (case a9=>k_is)
  (case l9=>k_is)
  (case c9=>k_is)
  (case k9=>k_is)
  (case a10=>k_is)
  (case l10=>k_is)
  (case c10=>k_is)
  (case k10=>k_is)
  (case a11=>k_is)
  (case l11=>k_is)
  (case c11=>k_is)
  (case k11=>k_is)
  (case a12=>k_is)
  (case l12=>k_is)
  (case c12=>k_is)
  (case k12=>k_is)
  (case a13=>k_is)
  (case l13=>k_is)
  (case c13=>k_is)
  (case k13=>k_is)
  (case a14=>k_is)
  (case l14=>k_is)
  (case c14=>k_is)
  (case k14=>k_is)
  (case a15=>k_is)
  (case l15=>k_is)
  (case c15=>k_is)
  (case k15=>k_is)
  (case a16=>k_is)
  (case l16=>k_is)
  (case c16=>k_is)
  (case k16=>k_is)
  (case a17=>k_is)
  (case l17=>k_is)
  (case c17=>k_is)
  (case k17=>k_is)
  (case a18=>k_is)
  (case l18=>k_is)
  (case c18=>k_is)
  (case k18=>k_is)
  (case a19=>k_is)
  (case l19=>k_is)
  (case c19=>k_is)
  (case k19=>k_is)
  (case a20=>k_is)
  (case l20=>k_is)
  (case c20=>k_is)
  (case k20=>k_is)
  (case a21=>k_is)
  (case l21=>k_is)
  (case c21=>k_is)
  (case k21=>k_is)
  (case a22=>k_is)
  (case l22=>k_is)
  (case c22=>k_is)
  (case k22=>k_is)
  (case a23=>k_is)
  (case l23=>k_is)
  (case c23=>k_is)
  (case k23=>k_is)
  (case t23=>k_is)
  (case a24=>k_is)
  (case l24=>k_is)
  (case c24=>k_is)
  (case k24=>k_is)
  (case a25=>k_is)
  (case l25=>k_is)
  (case c25=>k_is)
  (case k25=>k_is)
  (case a26=>k_is)
  (case l26=>k_is)
  (case c26=>k_is)
  (case k26=>k_is)
  (case a27=>k_is)
  (case l27=>k_is)
  (case c27=>k_is)
  (case k27=>k_is)
  (case a28=>k_is)
  (case l28=>k_is)
  (case c28=>k_is)
  (case k28=>k_is)
  (case a29=>k_is)
  (case l29=>k_is)
  (case c29=>k_is)
  (case k29=>k_is)
  (case a30=>k_is)
  (case l30=>k_is)
  (case c30=>k_is)
  (case k30=>k_is)
  (case cv_LETTERS=>k_is)
  (case cv_LONGEST_NAME=>k_is)
  (case ca_KIND_OF=>k_is)
  (case cb_KIND_OF=>k_is)
  (case ca_CLOSE_OF=>k_is)
  (case cb_CLOSE_OF=>k_is)
  (case z_all=>k_is)
  (case z_bool=>k_is)
  (case z_int=>k_is)
  (case z_isinstance=>k_is)
  (case z_len=>k_is)
  (case z_list=>k_is)
  (case z_range=>k_is)
  (case z_str=>k_is)
  (case z_tuple=>k_is)
  (case cc_KIND_OF=>decide)
  (case cd_KIND_OF=>decide)
  (case cc_CLOSE_OF=>decide)
  (case cd_CLOSE_OF=>decide)
